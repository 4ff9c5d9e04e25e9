import PyProof.Rows.All
import Wide.All
import OpenK.AllK
import Wide.FinOn
import Lean
import PyProof.EqAt
import PyProof.EqKinds
import PyProof.TupleCall
import PySem.Challenge.RW_mustmeet_k62_whole_programs_told_otherwi
set_option Elab.async false
set_option linter.all false
set_option maxRecDepth 100000
namespace L2
open PySem PySem.Spec PyProof.Rows
noncomputable abbrev Key:=Sum Int Str
noncomputable def lX:Key->Value->Bool
 | .inl k,v=>Value.isInt k v
 | .inr x,v=>Value.isStrOf x v
noncomputable def KH (w:World):Key->Int
 | .inl k=>hashInt k
 | .inr x=>hashStr w x
theorem bP: ∀{k:Key} {v:Value},lX k v=true->(∃i t,k=Sum.inl i/\v=Value.int i t)\/(∃x t,k=Sum.inr x/\v=Value.str x t)
 | .inl i,v,h=>by
  obtain ⟨t,e⟩:=Value.isInt_shape (k:=i) (v:=v) h
  exact .inl ⟨i,t,rfl,e⟩
 | .inr x,v,h=>by
  obtain ⟨t,e⟩:=Value.isStrOf_shape (x:=x) (v:=v) h
  exact .inr ⟨x,t,rfl,e⟩
theorem zu (i:Int) (t:Tok):lX (.inl i) (.int i t)=true:=by simp[lX,Value.isInt]
theorem qt (x:Str) (t:Tok):lX (.inr x) (.str x t)=true:=by simp[lX,Value.isStrOf]
theorem G9 (a b:Int):decide ((Sum.inl a:Key)=Sum.inl b)=(a==b):=by
 by_cases e:a=b
 ·subst e;simp
 ·have h: ¬(Sum.inl a:Key)=Sum.inl b:=fun q=>e (Sum.inl.inj q)
  rw[decide_eq_false h]
  exact (beq_eq_false_iff_ne.mpr e).symm
theorem G_ (a b:Str):decide ((Sum.inr a:Key)=Sum.inr b)=decide (a=b):=by
 by_cases e:a=b
 ·subst e;simp
 ·have h: ¬(Sum.inr a:Key)=Sum.inr b:=fun q=>e (Sum.inr.inj q)
  rw[decide_eq_false h,decide_eq_false e]
theorem Hc (a:Int) (b:Str):decide ((Sum.inl a:Key)=Sum.inr b)=false:=decide_eq_false (fun q=>nomatch q)
theorem Hd (a:Str) (b:Int):decide ((Sum.inr a:Key)=Sum.inl b)=false:=decide_eq_false (fun q=>nomatch q)
noncomputable def bB (prog:Program) (w:World):PySem.KeyKind prog w Key where
 is:=lX
 hash:=KH w
 inj:=fun v a b ha hb=>by
  rcases bP ha with ⟨i,t,rfl,rfl⟩ | ⟨x,t,rfl,rfl⟩
  ·rcases bP hb with ⟨j,u,rfl,e⟩ | ⟨y,u,rfl,e⟩
   ·injection e with e1 _;rw[e1]
   ·exact nomatch e
  ·rcases bP hb with ⟨j,u,rfl,e⟩ | ⟨y,u,rfl,e⟩
   ·exact nomatch e
   ·injection e with e1 _;rw[e1]
 byValue:=fun k v h=>by
  rcases bP h with ⟨i,t,rfl,rfl⟩ | ⟨x,t,rfl,rfl⟩<;>rfl
 pyHash:=fun hv h=>by
  rcases bP hv with ⟨i,t,rfl,rfl⟩ | ⟨x,t,rfl,rfl⟩
  ·exact wpAny_pyHash_int h
  ·exact wpAny_pyHash_str h
 eqBool:=fun hu hv h=>by
  rcases bP hu with ⟨i,t,rfl,rfl⟩ | ⟨x,t,rfl,rfl⟩
  ·rcases bP hv with ⟨j,u,rfl,rfl⟩ | ⟨y,u,rfl,rfl⟩
   ·rw[G9]at h;exact wpAny_eqBool_int h
   ·rw[Hc]at h;exact SeqAt.EqAt.int_str i t y u _ _ _ _ h
  ·rcases bP hv with ⟨j,u,rfl,rfl⟩ | ⟨y,u,rfl,rfl⟩
   ·rw[Hd]at h;exact SeqAt.EqAt.str_int x t j u _ _ _ _ h
   ·rw[G_]at h;exact wpAny_eqBool_str h
 «strs» :=fun k x t v h=>by
  rcases bP h with ⟨i,u,rfl,e⟩ | ⟨y,u,rfl,e⟩
  ·exact nomatch e
  ·injection e with e1 _
   subst e1
   cases v<;>rfl
theorem ud (prog:Program) (w:World) (i:Int) (t:Tok):(bB prog w).is (.inl i) (.int i t)=true:=zu i t
theorem ue (prog:Program) (w:World) (x:Str) (t:Tok):(bB prog w).is (.inr x) (.str x t)=true:=qt x t
end L2
namespace L2
open PySem PySem.Spec PyProof.Rows
inductive V where
 | cT | bl (b:Bool) | int (i:Int) | str (x:Str) | xS (b:Array UInt8) | Hf (b:UInt64) | ref (a:Addr) | ty (n:String)
 deriving DecidableEq
noncomputable def RelV:V->Value->Prop
 | .cT,u=>u=Value.none
 | .bl b,u=>u=Value.bool b
 | .int i,u=> ∃t,u=Value.int i t
 | .str x,u=> ∃t,u=Value.str x t
 | .xS b,u=> ∃t,u=Value.bytes b t
 | .Hf b,u=> ∃t,u=Value.float b t
 | .ref a,u=>u=Value.ref a
 | .ty n,u=>u=Value.type n
noncomputable abbrev Vals:List V->List Value->Prop:=Paired RelV
theorem Vals.length {xs:List V} {us:List Value} (r:Vals xs us):xs.length=us.length:=Paired.length r
theorem Vals.get: ∀{xs:List V} {us:List Value} {i:Nat} {x:V},Vals xs us->xs[i]? =some x-> ∃u,us[i]? =some u/\RelV x u
 | _,_,_,_, .nil,e=>by simp at e
 | _,_,0,_, .cons r _,e=>by simp at e;subst e;exact ⟨_,rfl,r⟩
 | _,_,i+1,x, .cons _ t,e=>by
  obtain ⟨u,h1,h2⟩:=Vals.get (i:=i) (x:=x) t (by simpa using e)
  exact ⟨u,by simpa using h1,h2⟩
theorem Vals.set {x:V} {u:Value} (r:RelV x u): ∀{xs:List V} {us:List Value} (i:Nat),Vals xs us->Vals (xs.set i x) (us.set i u)
 | _,_,_, .nil=> .nil
 | _,_,0, .cons _ t=> .cons r t
 | _,_,i+1, .cons q t=> .cons q (Vals.set r i t)
theorem Vals.append: ∀{xs ys:List V} {us ws:List Value},Vals xs us->Vals ys ws->Vals (xs++ys) (us++ws)
 | _,_,_,_, .nil,s=>s
 | _,_,_,_, .cons r t,s=> .cons r (Vals.append t s)
theorem Vals.take: ∀{xs:List V} {us:List Value} (n:Nat),Vals xs us->Vals (xs.take n) (us.take n)
 | _,_,0,_=> .nil
 | _,_,_+1, .nil=> .nil
 | _,_,n+1, .cons r t=> .cons r (Vals.take n t)
theorem Vals.drop: ∀{xs:List V} {us:List Value} (n:Nat),Vals xs us->Vals (xs.drop n) (us.drop n)
 | _,_,0,r=>r
 | _,_,_+1, .nil=> .nil
 | _,_,n+1, .cons _ t=>Vals.drop n t
noncomputable def ip:Option V->Option Value->Prop
 | some v,some u=>RelV v u
 | none,none=>True
 | _,_=>False
noncomputable def KV {κ:Type}:List (κ×V)->List (κ×Value)->Prop:=Paired fun (p:κ×V) (q:κ×Value)=>p.1=q.1/\RelV p.2 q.2
noncomputable def kV:Key->V
 | .inl i=> .int i
 | .inr x=> .str x
inductive HO where
  | lst (xs:List V)
  | tup (xs:List V)
  | dK (kvs:List (Key×V)) | dT (kvs:List (List Key×V))
  | set (S:Int->Bool) (n:Nat)
  | ins (C dx:Addr) (fs:List (Str×V))
  | own (x:Addr)
  | xd (fs:List (Str×V))
  | met (f x:Addr)
  | N9 (lo hi:Int)
  | wc (o:Obj) (u:HO)
  | FT (ps:Array Value)
  | ext (φ:Heap->Prop)
noncomputable abbrev Hp:=Addr->Option HO
noncomputable def upd (H:Hp) (a:Addr) (o:HO):Hp:=fun b=>if b=a then some o else H b
theorem ag {H:Hp} {a:Addr} {o:HO}:upd H a o a=some o:=by unfold upd;rw[if_pos rfl]
theorem aA {H:Hp} {a b:Addr} {o:HO} (h:b≠a):upd H a o b=H b:=by unfold upd;rw[if_neg h]
theorem KJ {H:Hp} {a b:Addr} {o u:HO} (h:H a=some o) (h':H b=some u) (d:o≠u):a≠b:=by
 intro e;subst e;rw[h]at h';exact d (Option.some.inj h')
theorem aC {H:Hp} {a b:Addr} {o:HO} (h:H a=some o) (h':H b=none):a≠b:=by
 intro e;subst e;rw[h]at h';cases h'
section
variable (P:Program) (w:World)
noncomputable def bI (H:Hp) (h:Heap) (a:Addr):HO->Prop
 | .lst xs=>xs.length<=sizeLine/\ ∃(its:List Value) (n:Nat),Vals xs its/\h.get? a=some { cls:= .type "list",data:= .seq its.toArray n }
 | .tup xs=>xs.length<=sizeLine/\ ∃its:List Value,Vals xs its/\IsTup h a its.toArray
 | .dK kvs=>kvs.length<=sizeLine/\(a==sysModules)=false/\ ∃vs,KV kvs vs/\h.DictOf (bB P w) a vs
 | .dT kvs=>kvs.length<=sizeLine/\(a==sysModules)=false/\ ∃xs:List (List Key×Addr×Value),
   Paired (fun (p:List Key×V) (q:List Key×Addr×Value)=>p.1=q.1/\H q.2.1=some (.tup (p.1.map kV))/\RelV p.2 q.2.2) kvs xs/\
   ∃o es ep,h.get? a=some o/\o.ExactDict/\o.data= .dict es ep/\es.toList=xs.map (entryOfKey (tupleKind (bB P w)))/\(xs.map (·.1)).Nodup
 | .set S n=>h.SetOf (intKind P w) a S n
 | .ins C dx fs=>H dx=some (.own a)/\fs.length<=1000/\dx≠a/\h.get? a=some (PySem.W.instObj C dx)/\
   ∃mA,h.Ns1 dx mA/\(∀f,ip (fs.lookup f) (mA f))/\PySem.Within mA (fs.map (·.1))
 | .own _=> ∃o,h.get? a=some o
 | .xd fs=> ∃mA,h.Ns1 a mA/\ ∀f,ip (fs.lookup f) (mA f)
 | .N9 lo hi=> ∃t u v,h.get? a=some { cls:= .type "range",data:= .fields #[.int lo t, .int hi u, .int 1 v] }
 | .wc o u=>h.get? a=some o/\bI H h a u
 | .FT ps=>h.get? a=some { cls:= .none,data:= .fields ps }
 | .met f x=>h.get? a=some (PySem.W.methodObj (.ref f) (.ref x))
 | .ext φ=>φ h/\(∃o,h.get? a=some o)/\ ∀h1 h2:Heap,φ h1->(∀o,h1.get? a=some o->h2.get? a=some o)->φ h2
noncomputable def iq (H:Hp) (h:Heap):Prop:= ∀a o,H a=some o->bI P w H h a o
end
section
variable {P:Program} {w:World} {H H':Hp} {h h':Heap} {a:Addr} {o:HO}
theorem bI.lt (x:bI P w H h a o):a<h.objs.size:=by
 cases o with
 | lst xs=>obtain ⟨_,_,_,_,e⟩:=x;exact Heap.lt_size e
 | tup xs=>obtain ⟨_,_,_,p⟩:=x;exact p.lt
 | dK kvs=>obtain ⟨_,_,_,_,o,_,_,e,_⟩:=x;exact Heap.lt_size e
 | dT kvs=>obtain ⟨_,_,_,_,o,_,_,e,_⟩:=x;exact Heap.lt_size e
 | set S n=>obtain ⟨o,_,_,_,e,_⟩:=x;exact Heap.lt_size e
 | ins C dx fs=>obtain ⟨_,_,_,e,_⟩:=x;exact Heap.lt_size e
 | own y=>obtain ⟨_,e⟩:=x;exact Heap.lt_size e
 | xd fs=>obtain ⟨_,⟨_,_,_,e,_⟩,_⟩:=x;exact Heap.lt_size e
 | N9 lo hi=>obtain ⟨_,_,_,e⟩:=x;exact Heap.lt_size e
 | wc ob u=>obtain ⟨e,_⟩:=x;exact Heap.lt_size e
 | FT ps=>exact Heap.lt_size (show h.get? a=some _ from x)
 | met f y=>exact Heap.lt_size (show h.get? a=some _ from x)
 | ext φ=>obtain ⟨_,⟨_,e⟩,_⟩:=x;exact Heap.lt_size e
theorem Paired.Hg {α β:Type} {F G:α->β->Prop}: ∀{l₁:List α} {l₂:List β},Paired F l₁ l₂->(∀a b,F a b->G a b)->Paired G l₁ l₂
 | _,_, .nil,_=> .nil
 | _,_, .cons r t,f=> .cons (f _ _ r) (Paired.Hg t f)
theorem bI.mF (x:bI P w H h a o) (k: ∀b u,(b=a\/H b=some (.own a))->h.get? b=some u->h'.get? b=some u)
  (ho: ∀b,H b=some (.own a)->H' b=some (.own a)) (ht: ∀b xs,H b=some (.tup xs)->H' b=some (.tup xs)):bI P w H' h' a o:=by
 induction o with
 | lst xs=>obtain ⟨z,its,n,r,e⟩:=x;exact ⟨z,its,n,r,k _ _ (.inl rfl) e⟩
 | tup xs=>obtain ⟨z,its,r,ob,e,c⟩:=x;exact ⟨z,its,r,ob,k _ _ (.inl rfl) e,c⟩
 | dK kvs=>obtain ⟨z,y,vs,r,ob,es,ep,e,c⟩:=x;exact ⟨z,y,vs,r,ob,es,ep,k _ _ (.inl rfl) e,c⟩
 | dT kvs=>
  obtain ⟨z,y,xs,r,ob,es,ep,e,c⟩:=x
  exact ⟨z,y,xs,Paired.Hg r fun p q z=>⟨z.1,ht _ _ z.2.1,z.2.2⟩,ob,es,ep,k _ _ (.inl rfl) e,c⟩
 | set S n=>obtain ⟨ob,es,ep,t,e,c⟩:=x;exact ⟨ob,es,ep,t,k _ _ (.inl rfl) e,c⟩
 | ins C dx fs=>
  obtain ⟨d,z,ne,e,mA,⟨od,es,ep,e2,c⟩,r⟩:=x
  exact ⟨ho _ d,z,ne,k _ _ (.inl rfl) e,mA,⟨od,es,ep,k _ _ (.inr d) e2,c⟩,r⟩
 | own y=>obtain ⟨ob,e⟩:=x;exact ⟨ob,k _ _ (.inl rfl) e⟩
 | xd fs=>obtain ⟨mA,⟨od,es,ep,e,c⟩,r⟩:=x;exact ⟨mA,⟨od,es,ep,k _ _ (.inl rfl) e,c⟩,r⟩
 | N9 lo hi=>obtain ⟨t,u,v,e⟩:=x;exact ⟨t,u,v,k _ _ (.inl rfl) e⟩
 | wc ob u ih=>obtain ⟨e,q⟩:=x;exact ⟨k _ _ (.inl rfl) e,ih q⟩
 | FT ps=>
  have e:h.get? a=some { cls:= .none,data:= .fields ps }:=x
  show h'.get? a=some { cls:= .none,data:= .fields ps }
  exact k a _ (.inl rfl) e
 | met f y=>
  have e:h.get? a=some (PySem.W.methodObj (.ref f) (.ref y)):=x
  show h'.get? a=some (PySem.W.methodObj (.ref f) (.ref y))
  exact k a _ (.inl rfl) e
 | ext φ=>obtain ⟨p,⟨o,e⟩,st⟩:=x;exact ⟨st _ _ p fun o q=>k _ _ (.inl rfl) q,⟨o,k _ _ (.inl rfl) e⟩,st⟩
theorem iq.lt (x:iq P w H h) (e:H a=some o):a<h.objs.size:=(x a o e).lt
theorem iq.fresh (x:iq P w H h) (e:h.objs.size<=a):H a=none:=by
 cases q:H a with
 | none=>rfl
 | some u=>exact absurd (Nat.lt_of_lt_of_le (x.lt q) e) (Nat.lt_irrefl _)
theorem iq.kept (x:iq P w H h) (k: ∀b u,h.get? b=some u->h'.get? b=some u):iq P w H h':=fun a o e=>
 (x a o e).mF (fun b u _ q=>k b u q) (fun _ q=>q) fun _ _ q=>q
theorem iq.laid (x:iq P w H h) (k: ∀b u,h.get? b=some u->h'.get? b=some u) (hp:h.objs.size<=a) (new:bI P w (upd H a o) h' a o):iq P w (upd H a o) h':=fun b u e=>by
 have hn:=x.fresh hp
 by_cases hb:b=a
 ·subst hb;rw[ag]at e;cases e;exact new
 ·rw[aA hb]at e
  exact (x b u e).mF (fun c v _ q=>k c v q) (fun c q=>by rw[aA (aC q hn)];exact q) fun c xs q=>by rw[aA (aC q hn)];exact q
end
noncomputable def Rd (H:Hp) (a:Addr) (u:HO):Prop:=H a=some u\/ ∃o,H a=some (.wc o u)
theorem Rd.ok {P:Program} {w:World} {H:Hp} {h:Heap} {a:Addr} {u:HO} (r:Rd H a u) (x:iq P w H h):bI P w H h a u:=by
 rcases r with r | ⟨o,r⟩
 ·exact x a u r
 ·obtain ⟨_,q⟩:=x a _ r
  exact q
noncomputable def KL:Option HO->Prop
 | some (.lst _)=>True
 | some (.dK _)=>True
 | some (.dT _)=>True
 | some (.set _ _)=>True
 | some (.ins _ _ _)=>True
 | some (.ext _)=>True
 | _=>False
section
variable {P:Program} {w:World} {H:Hp} {h h':Heap} {x e:Addr} {o':HO}
theorem iq.write (ok:iq P w H h) (mu:KL (H x)) (he:e=x\/H e=some (.own x)) (k: ∀b u,b≠e->h.get? b=some u->h'.get? b=some u) (J9: ∃u,h'.get? e=some u)
  (new:bI P w (upd H x o') h' x o'):iq P w (upd H x o') h':=fun b u q=>by
 have KN: ∀c y,H c=some (.own y)->c≠x:=fun c y r z=>by subst z;rw[r]at mu;exact mu
 have OW: ∀c xs,H c=some (.tup xs)->c≠x:=fun c xs r z=>by subst z;rw[r]at mu;exact mu
 by_cases hb:b=x
 ·subst hb;rw[ag]at q;cases q;exact new
 ·rw[aA hb]at q
  by_cases Hh:b=e
  ·have q':H b=some (.own x):=by
    rcases he with z | z
    ·exact absurd (Hh.trans z) hb
    ·rw[Hh];exact z
   rw[q]at q';cases q'
   obtain ⟨v,hv⟩:=J9
   exact ⟨v,by rw[Hh];exact hv⟩
  ·refine (ok b u q).mF (fun c v hc r=>k c v ?_ r) (fun c r=>by rw[aA (KN c b r)];exact r) fun c xs r=>by rw[aA (OW c xs r)];exact r
   rcases hc with rfl | hc
   ·exact Hh
   ·rintro rfl
    rcases he with z | z
    ·exact KN c b hc z
    ·rw[hc]at z;cases z;exact hb rfl
end
structure Un (fs ex:List Addr) (H H':Hp) (h h':Heap):Prop where
 keep: ∀b o,h.get? b=some o->H b=none->b∉fs->b∉ex->h'.get? b=some o
 slot: ∀b o,h.get? b=some o->H b=none->b∈fs->b∉ex-> ∃sl,h'.get? b=some { o with slots:=sl }
 free: ∀b o,h.get? b=some o->H b=none->b∉ex->H' b=none
 there: ∀b o,h.get? b=some o->b∉ex-> ∃o',h'.get? b=some o'
 jQ: ∀b xs,H b=some (.tup xs)->H' b=some (.tup xs)
 jE: ∀b o u,H b=some (.wc o u)->H' b=some (.wc o u)
 j6: ∀b ps,H b=some (.FT ps)-> ∃more,H' b=some (.FT (ps++more))
section
variable {fs Xr ex ex':List Addr} {H H1 H2:Hp} {h h1 h2 h':Heap} {a x e:Addr} {o:HO}
theorem Un.any (u:Un fs ex H H1 h h1) {b:Addr} {ob:Obj} (q:h.get? b=some ob) (n:H b=none) (hx:b∉ex): ∃sl,h1.get? b=some { ob with slots:=sl }:=by
 by_cases hb:b∈fs
 ·exact u.slot b ob q n hb hx
 ·exact ⟨ob.slots,u.keep b ob q n hb hx⟩
theorem Un.kept (k: ∀b u,h.get? b=some u->h'.get? b=some u):Un fs ex H H h h':=
 ⟨fun b ob q _ _ _=>k b ob q,fun b ob q _ _ _=>⟨ob.slots,k b ob q⟩,fun _ _ _ n _=>n,fun b ob q _=>⟨ob,k b ob q⟩,fun _ _ q=>q,fun _ _ _ q=>q,fun _ ps q=>⟨#[],by rw[q];simp⟩⟩
theorem Un.refl:Un fs ex H H h h:=Un.kept fun _ _ q=>q
theorem Un.laid (k: ∀b u,h.get? b=some u->h'.get? b=some u) (hp:h.objs.size<=a) (hn:H a=none):Un fs ex H (upd H a o) h h' where
 keep:=fun b u q _ _ _=>k b u q
 slot:=fun b u q _ _ _=>⟨u.slots,k b u q⟩
 free:=fun b u q n _=>by rw[aA (Nat.ne_of_lt (Nat.lt_of_lt_of_le (Heap.lt_size q) hp))];exact n
 there:=fun b u q _=>⟨u,k b u q⟩
 jQ:=fun b xs q=>by rw[aA (aC q hn)];exact q
 jE:=fun b u xs q=>by rw[aA (aC q hn)];exact q
 j6:=fun b ps q=>⟨#[],by rw[aA (aC q hn),q];simp⟩
theorem Un.write (mu:KL (H x)) (he:e=x\/H e=some (.own x)) (k: ∀b u,b≠e->h.get? b=some u->h'.get? b=some u) (J9: ∃u,h'.get? e=some u):Un fs ex H (upd H x o) h h':=by
 have hx: ∀b,H b=none->b≠x:=fun b n z=>by subst z;rw[n]at mu;exact mu
 have hb: ∀b,H b=none->b≠e:=fun b n z=>by
  subst z
  rcases he with r | r
  ·exact hx b n r
  ·rw[n]at r;cases r
 have hm: ∀b u,H b=some u-> ¬KL (some u)->b≠x:=fun b u q nm z=>by subst z;rw[q]at mu;exact nm mu
 refine ⟨fun b u q n _ _=>k b u (hb b n) q,fun b u q n _ _=>⟨u.slots,k b u (hb b n) q⟩,fun b u q n _=>by rw[aA (hx b n)];exact n,fun b u q _=>?_,
  fun b xs q=>by rw[aA (hm b _ q fun z=>z)];exact q,fun b u xs q=>by rw[aA (hm b _ q fun z=>z)];exact q,fun b ps q=>⟨#[],by rw[aA (hm b _ q fun z=>z),q];simp⟩⟩
 by_cases Hh:b=e
 ·subst Hh;exact J9
 ·exact ⟨u,k b u Hh q⟩
end
noncomputable def N_ (h:Heap) (H:Hp):List Addr:=(List.range h.objs.size).filter fun a=>(H a).isSome
noncomputable def rF (h:Heap) (H:Hp):Heap:=PySem.W.hideAll h (N_ h H)
theorem zw (h:Heap) (H:Hp):(rF h H).objs.size=h.objs.size:=PySem.W.hideAll_size _ _
theorem Bd {h:Heap} {H:Hp} {b:Addr} {o:Obj} (e:h.get? b=some o) (n:H b=none):(rF h H).get? b=some o:=
 PySem.W.hideAll_get _ e fun hm=>by
  have q:(H b).isSome=true:=(List.mem_filter.mp hm).2
  rw[n]at q;simp at q
theorem Dr {h:Heap} {H:Hp} {b:Addr} {o:Obj} (e:(rF h H).get? b=some o):h.get? b=some o/\H b=none:=by
 have e':h.get? b=some o:=PySem.W.of_hideAll (N_ h H) e
 refine ⟨e',?_⟩
 cases q:H b with
 | none=>rfl
 | some x=>
  have hm:b∈N_ h H:=List.mem_filter.mpr ⟨List.mem_range.mpr (Heap.lt_size e'),by simp[q]⟩
  have z:(rF h H).get? b=none:=PySem.W.hideAll_none (N_ h H) hm
  rw[z]at e;cases e
noncomputable def Ds (g h:Heap) (L:Addr):List (Addr×Obj):=(List.range h.objs.size).filterMap fun a=>if a=L\/(g.get? a).isSome=true then none else (h.get? a).map fun o=>(a,o)
noncomputable def rest (g h:Heap) (L d:Addr):List (Addr×Obj):=(Ds g h L).filter fun p=>decide (p.1≠d)
end L2
namespace L2
open PySem PySem.Spec PyProof.Rows
structure Mod (K:PySem.W.Frag) (mg:Str->Option Value) (base:Heap):Prop where
 KO:K.In base
 glob:base.Ns mainGlobals mg
 blt: ∃mb,base.Ns builtinsNs mb/\ ∀x:Str,x≠"__name__"->mb x=bootBuiltins x
 nolimit:base.NoLimit
structure Cx where
 prog:Program
 w:World
 K:PySem.W.Frag
 mg:Str->Option Value
 base:Heap
 A:Around
 N:List Str
 s₀:Shared
 H₀:Hp
 env:Env
 outer:List Env
 stack:List Env
 ex:List Addr
 fn:Str->Bool
 calm:Bool
 pn:List (Addr×Obj)
 xe:Value->Shared->Prop
noncomputable def jF (l:List Env):List Addr:=l.filterMap (·.frame)
noncomputable abbrev Cx.fs (X:Cx):List Addr:=jF X.outer
noncomputable def KP (sc:Scope) (x:Str):Prop:=sc.names.lookup x=some .local\/sc.names.lookup x=some .cell\/sc.names.lookup x=some .free
noncomputable def Loc (sc:Scope) (x:Str):Prop:=sc.names.lookup x=some .local\/sc.names.lookup x=some .cell
noncomputable def Look (env:Env) (h:Heap) (m:Str->Option Value) (x:Str) (u:Value):Prop:=
 (env.kindOf x=some .local/\m x=some u)\/((env.kindOf x=some .cell\/env.kindOf x=some .free)/\ ∃c,env.cells.lookup x=some c/\h.IsCell c (some u))
structure Cx.Ok (X:Cx):Prop where
 mod:Mod X.K X.mg X.base
 kind:X.env.scope.kind= .function
 glob:X.env.globals=mainGlobals
 blt:X.env.builtins=builtinsNs
 above:X.s₀.heap.objs.size<=X.env.locals
 inj: ∀x y c,X.env.cells.lookup x=some c->X.env.cells.lookup y=some c->x=y
 has: ∀x,(X.env.kindOf x=some .cell\/X.env.kindOf x=some .free)-> ∃c,X.env.cells.lookup x=some c
 C3: ∀x c,X.fn x=true->X.env.cells.lookup x=some c->X.s₀.heap.objs.size<=c
 hd:X.calm=true->X.A.handled=none
 frames:X.A.frames=some X.stack
 C4:X.stack=X.outer\/(X.stack=X.env::X.outer/\X.env.frame=some X.env.locals)
 Hi: ∀b∈X.ex,b≠X.env.locals/\ ∀x c,X.env.cells.lookup x=some c->c≠b
 bs: ∀b o,X.base.get? b=some o->X.s₀.heap.get? b=some o/\X.H₀ b=none
 xT:X.base.objs.size<=X.s₀.heap.objs.size
 pO: ∀b o,X.base.get? b=some o->b∉X.ex
 rG: ∀b∈X.ex,b∉X.fs
 iT:X.s₀.heap.FunFrames X.base X.outer
 A8: ∀b∈X.fs,X.H₀ b=none
structure Inv (X:Cx) (pins:List (Addr×Obj)) (σ:List (Option V)) (H:Hp) (s:Shared):Prop where
 ok:X.Ok
 os:s.os=X.s₀.os
 bare:AllBare s.gens
 base:Un X.fs X.ex X.H₀ H X.s₀.heap s.heap
 loc: ∃m,s.heap.Ns X.env.locals m/\ ∀(i:Nat) (x:Str) (v:V),X.N[i]? =some x->σ[i]? =some (some v)->KP X.env.scope x-> ∃u,RelV v u/\Look X.env s.heap m x u
 cell: ∀x c,X.env.cells.lookup x=some c-> ∃v,s.heap.IsCell c v
 free:H X.env.locals=none
 cO: ∀x c,X.env.cells.lookup x=some c->H c=none
 pin: ∀p∈X.pn++pins,s.heap.get? p.1=some p.2/\H p.1=none/\p.1≠X.env.locals/\p.1∉X.fs/\ ∀v,p.2.data≠ .cell v
 a_:iq X.prog X.w H s.heap
 len:σ.length=X.N.length
section
variable {X:Cx} {pins:List (Addr×Obj)} {σ:List (Option V)} {H H':Hp} {s:Shared} {h':Heap}
theorem Cx.Ok.OX (ok:X.Ok) {b:Addr} {o:Obj} (e:X.base.get? b=some o):b∉X.fs:=fun hb=>by
 have:=(ok.iT.mem hb).1
 rw[e]at this;cases this
theorem Inv.bs (I:Inv X pins σ H s): ∀b o,X.base.get? b=some o->s.heap.get? b=some o/\H b=none:=fun b o e=>
 ⟨I.base.keep b o (I.ok.bs b o e).1 (I.ok.bs b o e).2 (I.ok.OX e) (I.ok.pO b o e),I.base.free b o (I.ok.bs b o e).1 (I.ok.bs b o e).2 (I.ok.pO b o e)⟩
theorem Inv.bk (I:Inv X pins σ H s): ∀b o,X.base.get? b=some o->s.heap.get? b=some o:=fun b o e=>(I.bs b o e).1
theorem Inv.mod (I:Inv X pins σ H s):Mod X.K X.mg X.base:=I.ok.mod
theorem Inv.iU (I:Inv X pins σ H s):X.K.In s.heap:=I.ok.mod.KO.keeps I.bk
theorem Inv.lt (I:Inv X pins σ H s):X.env.locals<s.heap.objs.size:=let ⟨_,hn,_⟩:=I.loc;hn.lt
theorem Inv.sz (I:Inv X pins σ H s):X.s₀.heap.objs.size<=s.heap.objs.size:=Nat.le_trans I.ok.above (Nat.le_of_lt I.lt)
theorem Inv.Dt (I:Inv X pins σ H s) {a:Addr} (h:s.heap.objs.size<=a):a∉X.fs:=fun hb=>by
 obtain ⟨_,o,ho,_⟩:=I.ok.iT.mem hb
 exact absurd (Nat.lt_of_lt_of_le (Heap.lt_size ho) (Nat.le_trans I.sz h)) (Nat.lt_irrefl _)
theorem Inv.Du (I:Inv X pins σ H s): ∀x c,X.env.cells.lookup x=some c->c≠X.env.locals:=fun x c e z=>by
 obtain ⟨v,o,ho,hd⟩:=I.cell x c e
 obtain ⟨m,⟨o',es,ep,Dv,zx,_⟩,_⟩:=I.loc
 rw[z,Dv]at ho;cases ho;rw[zx]at hd;cases hd
theorem Inv.iT (I:Inv X pins σ H s):s.heap.FunFrames X.base X.outer:=by
 have all: ∀(l:List Env),(∀b∈jF l,b∈X.fs)->X.s₀.heap.FunFrames X.base l->s.heap.FunFrames X.base l:=by
  intro l
  induction l with
  | nil=>intro _ _;trivial
  | cons env r ih=>
   intro hs hl
   obtain ⟨hk,⟨L,o,hf,hn,ho,hd⟩,hr⟩:=hl
   have hL:L∈X.fs:=hs L (by unfold jF;rw[List.filterMap_cons,hf];exact List.mem_cons_self)
   obtain ⟨sl,e⟩:=I.base.slot L o ho (I.ok.A8 L hL) hL fun z=>I.ok.rG L z hL
   exact ⟨hk,⟨L,_,hf,hn,e,hd⟩,ih (fun b hb=>hs b (by unfold jF;rw[List.filterMap_cons,hf];exact List.mem_cons_of_mem _ hb)) hr⟩
 exact all X.outer (fun _ hb=>hb) I.ok.iT
theorem Inv.stack (I:Inv X pins σ H s):s.heap.FunFrames X.base X.stack:=by
 rcases I.ok.C4 with e | ⟨e,hf⟩
 ·rw[e];exact I.iT
 ·rw[e]
  obtain ⟨m,hn,_⟩:=I.loc
  refine .cons (by rw[I.ok.kind];decide) hf hn ?_ I.iT
  exact Heap.get?_none_of_le (Nat.le_trans I.ok.xT I.ok.above)
theorem Inv.ir (I:Inv X pins σ H s): ∀b∈jF X.stack,b∈X.env.locals::X.fs:=fun b hb=>by
 rcases I.ok.C4 with e | ⟨e,hf⟩
 ·rw[e]at hb;exact List.mem_cons_of_mem _ hb
 ·rw[e]at hb
  unfold jF at hb
  rw[List.filterMap_cons,hf]at hb
  exact hb
theorem Inv.jk (I:Inv X pins σ H s): ∀b∈jF X.stack,H b=none:=fun b hb=>by
 rcases List.mem_cons.mp (I.ir b hb) with e | hb
 ·rw[e];exact I.free
 ·obtain ⟨_,o,ho,_⟩:=I.ok.iT.mem hb
  exact I.base.free b o ho (I.ok.A8 b hb) fun z=>I.ok.rG b z hb
theorem Inv.step {g':Array GenState} {t':Nat} {d':Drawn} {ch:List Addr} (I:Inv X pins σ H s)
  (C5: ∀b∈ch,(b∈X.ex\/X.s₀.heap.objs.size<=b)/\b≠X.env.locals/\(∀x c,X.env.cells.lookup x=some c->c≠b)/\ ∀p∈X.pn++pins,p.1≠b)
  (keep: ∀b o,b≠X.env.locals->b∉X.fs->b∉ch->s.heap.get? b=some o->H b=none->h'.get? b=some o)
  (slot: ∀b o,b≠X.env.locals->b∈X.fs->b∉ch->s.heap.get? b=some o->H b=none-> ∃sl,h'.get? b=some { o with slots:=sl }) (free: ∀b o,b∉ch->s.heap.get? b=some o->H b=none->H' b=none)
  (there: ∀b o,b∉ch->s.heap.get? b=some o-> ∃o',h'.get? b=some o')
  (jQ: ∀b xs,H b=some (.tup xs)->H' b=some (.tup xs)) (jE: ∀b o u,H b=some (.wc o u)->H' b=some (.wc o u)) (j6: ∀b ps,H b=some (.FT ps)-> ∃more,H' b=some (.FT (ps++more)))
  (ns: ∀m,s.heap.Ns X.env.locals m->h'.Ns X.env.locals m) (a_:iq X.prog X.w H' h') (hg:AllBare g'):
  Inv X pins σ H' { s with heap:=h',gens:=g',drawn:=d',toks:=t' }:=by
 have FU: ∀b o,X.s₀.heap.get? b=some o->b≠X.env.locals:=fun b o e=>Nat.ne_of_lt (Nat.lt_of_lt_of_le (Heap.lt_size e) I.ok.above)
 have C6: ∀b o,X.s₀.heap.get? b=some o->b∉X.ex->b∉ch:=fun b o e hx hb=>by
  rcases (C5 b hb).1 with z | z
  ·exact hx z
  ·exact absurd (Nat.lt_of_lt_of_le (Heap.lt_size e) z) (Nat.lt_irrefl _)
 have cellK: ∀x c,X.env.cells.lookup x=some c-> ∀v,s.heap.IsCell c v->h'.IsCell c v:=fun x c e v ⟨o,ho,hd⟩=>by
  have KQ:c∉ch:=fun z=>(C5 c z).2.2.1 x c e rfl
  by_cases hc:c∈X.fs
  ·obtain ⟨sl,q⟩:=slot c o (I.Du x c e) hc KQ ho (I.cO x c e)
   exact ⟨_,q,hd⟩
  ·exact ⟨o,keep c o (I.Du x c e) hc KQ ho (I.cO x c e),hd⟩
 refine ⟨I.ok,I.os,hg,⟨fun b o e n hb hx=>?_,fun b o e n hb hx=>?_,fun b o e n hx=>?_,fun b o e hx=>?_,fun b xs e=>jQ b xs (I.base.jQ b xs e),fun b o xs e=>jE b o xs (I.base.jE b o xs e),fun b ps e=>?_⟩,?_,fun x c e=>?_,?_,fun x c e=>?_,fun p hp=>?_,a_,I.len⟩
 ·exact keep b o (FU b o e) hb (C6 b o e hx) (I.base.keep b o e n hb hx) (I.base.free b o e n hx)
 ·obtain ⟨sl,e1⟩:=I.base.slot b o e n hb hx
  obtain ⟨Xs,e2⟩:=slot b _ (FU b o e) hb (C6 b o e hx) e1 (I.base.free b o e n hx)
  exact ⟨Xs,e2⟩
 ·obtain ⟨o',e1⟩:=I.base.there b o e hx
  exact free b o' (C6 b o e hx) e1 (I.base.free b o e n hx)
 ·obtain ⟨o',e1⟩:=I.base.there b o e hx
  exact there b o' (C6 b o e hx) e1
 ·obtain ⟨m1,e1⟩:=I.base.j6 b ps e
  obtain ⟨m2,e2⟩:=j6 b _ e1
  exact ⟨m1++m2,by rw[e2,Array.append_assoc]⟩
 ·obtain ⟨m,hn,hl⟩:=I.loc
  refine ⟨m,ns m hn,fun i x v e1 e2 e3=>?_⟩
  obtain ⟨u,r,l⟩:=hl i x v e1 e2 e3
  refine ⟨u,r,?_⟩
  rcases l with l | ⟨k,c,e,z⟩
  ·exact .inl l
  ·exact .inr ⟨k,c,e,cellK x c e _ z⟩
 ·obtain ⟨v,z⟩:=I.cell x c e
  exact ⟨v,cellK x c e v z⟩
 ·obtain ⟨m,⟨o,_,_,ho,_⟩,_⟩:=I.loc
  exact free _ o (fun z=>(C5 _ z).2.1 rfl) ho I.free
 ·obtain ⟨v,o,ho,hd⟩:=I.cell x c e
  exact free c o (fun z=>(C5 c z).2.2.1 x c e rfl) ho (I.cO x c e)
 ·obtain ⟨e,n,ne,nf,d⟩:=I.pin p hp
  have KQ:p.1∉ch:=fun z=>(C5 p.1 z).2.2.2 p hp rfl
  exact ⟨keep p.1 p.2 ne nf KQ e n,free p.1 p.2 KQ e n,ne,nf,d⟩
theorem Inv.un {t':Nat} (I:Inv X pins σ H s) (u:Un X.fs [] H H' s.heap h') (a_:iq X.prog X.w H' h'):Inv X pins σ H' { s with heap:=h',toks:=t' }:=by
 obtain ⟨m,⟨o,es,ep,ho,r⟩,_⟩:=id I.loc
 obtain ⟨sl,hL⟩:=u.any ho I.free (by simp)
 exact I.step (g':=s.gens) (d':=s.drawn) (ch:=[]) (fun _ z=>nomatch z) (fun b o _ hb _ e n=>u.keep b o e n hb (by simp)) (fun b o _ hb _ e n=>u.slot b o e n hb (by simp)) (fun b o _ e n=>u.free b o e n (by simp)) (fun b o _ e=>u.there b o e (by simp)) u.jQ u.jE u.j6 (fun m' hm=>by
  obtain ⟨o',OY,OZ,Dv,r'⟩:=hm
  rw[ho]at Dv;cases Dv
  exact ⟨_,OY,OZ,hL,r'⟩) a_ I.bare
theorem Inv.call {g':Array GenState} {t':Nat} {d':Drawn} {ch:List Addr} (I:Inv X pins σ H s) (u:Un (jF X.stack) ch H H' s.heap h') (a_:iq X.prog X.w H' h') (hg:AllBare g')
  (C5: ∀b∈ch,(b∈X.ex\/X.s₀.heap.objs.size<=b)/\b≠X.env.locals/\(∀x c,X.env.cells.lookup x=some c->c≠b)/\ ∀p∈X.pn++pins,p.1≠b):
  Inv X pins σ H' { s with heap:=h',gens:=g',drawn:=d',toks:=t' }:=by
 obtain ⟨m,⟨o,es,ep,ho,r⟩,_⟩:=id I.loc
 obtain ⟨sl,hL⟩:=u.any ho I.free fun z=>(C5 _ z).2.1 rfl
 exact I.step (ch:=ch) C5 (fun b o hL hb hc e n=>u.keep b o e n (fun z=>(List.mem_cons.mp (I.ir b z)).elim hL hb) hc) (fun b o _ _ hc e n=>u.any e n hc) (fun b o hc e n=>u.free b o e n hc) (fun b o hc e=>u.there b o e hc) u.jQ u.jE u.j6 (fun m' hm=>by
  obtain ⟨o',OY,OZ,Dv,r'⟩:=hm
  rw[ho]at Dv;cases Dv
  exact ⟨_,OY,OZ,hL,r'⟩) a_ hg
theorem Inv.turned {t':Nat} {it:Addr} (I:Inv X pins σ H s) (k: ∀b o,b≠it->s.heap.get? b=some o->h'.get? b=some o) (hn:H it=none) (hL:it≠X.env.locals)
  (h1:it∈X.ex\/X.s₀.heap.objs.size<=it) (h2: ∀x c,X.env.cells.lookup x=some c->c≠it) (h3: ∀p∈X.pn++pins,p.1≠it):Inv X pins σ H { s with heap:=h',toks:=t' }:=by
 have FV: ∀b u,H b=some u->b≠it:=fun b u e z=>by rw[z,hn]at e;cases e
 refine I.step (g':=s.gens) (d':=s.drawn) (ch:=[it]) (fun b hb=>?_) (fun b o _ _ hc e _=>k b o (fun z=>hc (by simp[z])) e) (fun b o _ _ hc e _=>⟨o.slots,k b o (fun z=>hc (by simp[z])) e⟩) (fun _ _ _ _ n=>n)
  (fun b o hc e=>⟨o,k b o (fun z=>hc (by simp[z])) e⟩) (fun _ _ e=>e) (fun _ _ _ e=>e) (fun b ps e=>⟨#[],by rw[e];simp⟩) (fun m hm=>?_) (fun b u e=>?_) I.bare
 ·have e:b=it:=by simpa using hb
  subst e
  exact ⟨h1,hL,h2,h3⟩
 ·obtain ⟨o,es,ep,ho,r⟩:=hm
  exact ⟨o,es,ep,k _ o (Ne.symm hL) ho,r⟩
 ·refine (I.a_ b u e).mF (fun c v hc q=>k c v ?_ q) (fun _ q=>q) fun _ _ q=>q
  rcases hc with z | z
  ·rw[z];exact FV b u e
  ·exact FV c _ z
theorem Inv.tok (I:Inv X pins σ H s) (t:Nat):Inv X pins σ H { s with toks:=t }:=I.un (h':=s.heap) (t':=t) Un.refl I.a_
theorem Inv.kept {t':Nat} (I:Inv X pins σ H s) (k: ∀b u,s.heap.get? b=some u->h'.get? b=some u):Inv X pins σ H { s with heap:=h',toks:=t' }:=I.un (Un.kept k) (I.a_.kept k)
theorem Inv.laid {a:Addr} {o:HO} {t':Nat} (I:Inv X pins σ H s) (k: ∀b u,s.heap.get? b=some u->h'.get? b=some u) (hp:s.heap.objs.size<=a) (new:bI X.prog X.w (upd H a o) h' a o):
  Inv X pins σ (upd H a o) { s with heap:=h',toks:=t' }:=I.un (Un.laid k hp (I.a_.fresh hp)) (I.a_.laid k hp new)
theorem Inv.write {x e:Addr} {o:HO} {t':Nat} (I:Inv X pins σ H s) (mu:KL (H x)) (he:e=x\/H e=some (.own x)) (k: ∀b u,b≠e->s.heap.get? b=some u->h'.get? b=some u) (J9: ∃u,h'.get? e=some u)
  (new:bI X.prog X.w (upd H x o) h' x o):Inv X pins σ (upd H x o) { s with heap:=h',toks:=t' }:=I.un (Un.write mu he k J9) (I.a_.write mu he k J9 new)
theorem Inv.weak {σ':List (Option V)} (I:Inv X pins σ H s) (hl:σ'.length=σ.length) (w: ∀(i:Nat) v,σ'[i]? =some (some v)->σ[i]? =some (some v)):Inv X pins σ' H s:=
 ⟨I.ok,I.os,I.bare,I.base,let ⟨m,hn,Xt⟩:=I.loc;⟨m,hn,fun i x v e1 e2 e3=>Xt i x v e1 (w i v e2) e3⟩,I.cell,I.free,I.cO,I.pin,I.a_,hl.trans I.len⟩
theorem Inv.iu {qu:List (Addr×Obj)} (I:Inv X pins σ H s) (h: ∀p∈qu,s.heap.get? p.1=some p.2/\H p.1=none/\p.1≠X.env.locals/\p.1∉X.fs/\ ∀v,p.2.data≠ .cell v):Inv X qu σ H s:=
 ⟨I.ok,I.os,I.bare,I.base,I.loc,I.cell,I.free,I.cO,fun p hp=>(List.mem_append.mp hp).elim (fun z=>I.pin p (List.mem_append_left _ z)) (h p),I.a_,I.len⟩
theorem ny {N:List Str} (hN:N.Nodup) {i j:Nat} {x:Str} (a:N[i]? =some x) (b:N[j]? =some x):i=j:=by
 obtain ⟨h1,e1⟩:=List.getElem?_eq_some_iff.mp a
 obtain ⟨h2,e2⟩:=List.getElem?_eq_some_iff.mp b
 exact (List.getElem_inj hN).mp (e1.trans e2.symm)
theorem zy {M:Model} {A:Around} {E:Value->Shared->Prop} {i:Nat} {x:Str} {v:V} {u:Value} {Q:Unit->Shared->Prop} (I:Inv X pins σ H s) (hN:X.N.Nodup) (hi:X.N[i]? =some x) (hx:Loc X.env.scope x) (r:RelV v u)
  (h: ∀s',Inv X pins (σ.set i (some v)) H s'->(∃a,Heap.SameBut a s.heap s'.heap/\(a=X.env.locals\/X.env.cells.lookup x=some a))->Q () s') (hf:X.fn x=true\/X.env.scope.names.lookup x=some .local:=by first | exact .inl rfl | exact .inr rfl | assumption):wpAny M A (storeName X.env x u) Q E s:=by
 obtain ⟨m,hn,hl⟩:=id I.loc
 have wd:(X.env.scope.kind== .class||(X.env.scope.kind== .module&&X.env.locals != X.env.globals))=false:=by rw[I.ok.kind];rfl
 have Vh:i<σ.length:=by rw[I.len];exact (List.getElem?_eq_some_iff.mp hi).1
 have Du:=I.Du
 have tracked: ∀{a:Addr} {h':Heap},(∃o,s.heap.get? a=some o/\H a=none)->Heap.SameBut a s.heap h'->iq X.prog X.w H h':=fun {a h'} ha hs b ob e=>by
  obtain ⟨_,_,FW⟩:=ha
  refine (I.a_ b ob e).mF (fun c w' hc q=>(hs.2 c ?_).trans q) (fun _ q=>q) fun _ _ q=>q
  rintro rfl
  rcases hc with rfl | hc
  ·rw[FW]at e;cases e
  ·rw[FW]at hc;cases hc
 rcases hx with hk | hk
 ·refine wpAny_storeName_local hk hn (fun h' O0 hs=>?_) wd
  obtain ⟨oL,_,_,J_,_⟩:=id hn
  refine h _ ⟨I.ok,I.os,I.bare,⟨fun b o e n hb hx=>?_,fun b o e n hb hx=>?_,I.base.free,fun b o e hx=>?_,I.base.jQ,I.base.jE,I.base.j6⟩,⟨_,O0,fun j y v' e1 e2 e3=>?_⟩,fun y c e=>?_,I.free,I.cO,fun p hp=>?_,tracked ⟨oL,J_,I.free⟩ hs,by simpa using I.len⟩ ⟨_,hs, .inl rfl⟩
  ·exact (hs.2 b (Nat.ne_of_lt (Nat.lt_of_lt_of_le (Heap.lt_size e) I.ok.above))).trans (I.base.keep b o e n hb hx)
  ·obtain ⟨sl,e1⟩:=I.base.slot b o e n hb hx
   exact ⟨sl,(hs.2 b (Nat.ne_of_lt (Nat.lt_of_lt_of_le (Heap.lt_size e) I.ok.above))).trans e1⟩
  ·obtain ⟨o',e1⟩:=I.base.there b o e hx
   exact ⟨o',(hs.2 b (Nat.ne_of_lt (Nat.lt_of_lt_of_le (Heap.lt_size e) I.ok.above))).trans e1⟩
  ·by_cases hj:j=i
   ·subst hj
    rw[hi]at e1;cases e1
    rw[List.getElem?_set_self Vh]at e2
    cases e2
    exact ⟨u,r, .inl ⟨hk,by simp⟩⟩
   ·rw[List.getElem?_set_ne (Ne.symm hj)]at e2
    obtain ⟨u',r',q⟩:=hl j y v' e1 e2 e3
    refine ⟨u',r',?_⟩
    rcases q with ⟨k,e⟩ | ⟨k,c,e,z⟩
    ·refine .inl ⟨k,?_⟩
     have:y≠x:=fun e=>hj (ny hN e1 (e▸hi))
     simp[this,e]
    ·exact .inr ⟨k,c,e,z.sameBut hs (Du y c e)⟩
  ·obtain ⟨w',z⟩:=I.cell y c e
   exact ⟨w',z.sameBut hs (Du y c e)⟩
  ·obtain ⟨e,n,ne,nf,d⟩:=I.pin p hp
   exact ⟨(hs.2 p.1 ne).trans e,n,ne,nf,d⟩
 ·have O1:X.fn x=true:=by
   rcases hf with z | z
   ·exact z
   ·rw[z]at hk;cases hk
  obtain ⟨c,hc⟩:=I.ok.has x (.inl hk)
  obtain ⟨w',z⟩:=I.cell x c hc
  refine wpAny_storeName_cell I.ok.kind hk hc z (fun h' qv hs=>?_)
  obtain ⟨oc,Vi,O2⟩:=id z
  refine h { s with heap:=h' } ⟨I.ok,I.os,I.bare,⟨fun b o e n hb hx=>?_,fun b o e n hb hx=>?_,I.base.free,fun b o e hx=>?_,I.base.jQ,I.base.jE,I.base.j6⟩,⟨m,hn.sameBut hs (Ne.symm (Du x c hc)),fun j y v' e1 e2 e3=>?_⟩,fun y c' e=>?_,I.free,I.cO,fun p hp=>?_,tracked ⟨oc,Vi,I.cO x c hc⟩ hs,by simpa using I.len⟩ ⟨c,hs, .inr hc⟩
  ·exact (hs.2 b (Nat.ne_of_lt (Nat.lt_of_lt_of_le (Heap.lt_size e) (I.ok.C3 x c O1 hc)))).trans (I.base.keep b o e n hb hx)
  ·obtain ⟨sl,e1⟩:=I.base.slot b o e n hb hx
   exact ⟨sl,(hs.2 b (Nat.ne_of_lt (Nat.lt_of_lt_of_le (Heap.lt_size e) (I.ok.C3 x c O1 hc)))).trans e1⟩
  ·obtain ⟨o',e1⟩:=I.base.there b o e hx
   exact ⟨o',(hs.2 b (Nat.ne_of_lt (Nat.lt_of_lt_of_le (Heap.lt_size e) (I.ok.C3 x c O1 hc)))).trans e1⟩
  ·by_cases hj:j=i
   ·subst hj
    rw[hi]at e1;cases e1
    rw[List.getElem?_set_self Vh]at e2
    cases e2
    exact ⟨u,r, .inr ⟨.inl hk,c,hc,qv⟩⟩
   ·rw[List.getElem?_set_ne (Ne.symm hj)]at e2
    obtain ⟨u',r',q⟩:=hl j y v' e1 e2 e3
    refine ⟨u',r',?_⟩
    rcases q with q | ⟨k,c',e,z'⟩
    ·exact .inl q
    ·refine .inr ⟨k,c',e,z'.sameBut hs ?_⟩
     rintro rfl
     exact hj (ny hN e1 (I.ok.inj _ _ _ e hc▸hi))
  ·by_cases Oa:c'=c
   ·subst Oa;exact ⟨_,qv⟩
   ·obtain ⟨w2,z2⟩:=I.cell y c' e
    exact ⟨w2,z2.sameBut hs Oa⟩
  ·obtain ⟨e,n,ne,nf,d⟩:=I.pin p hp
   refine ⟨(hs.2 p.1 ?_).trans e,n,ne,nf,d⟩
   intro q
   rw[q,Vi]at e
   have q':oc=p.2:=Option.some.inj e
   exact d w' (by rw[<-q'];exact O2)
theorem fb {M:Model} {A:Around} {E:Value->Shared->Prop} {i:Nat} {x:Str} {v:V} {u:Value} {Q:Unit->Shared->Prop} (I:Inv X pins σ H s) (hN:X.N.Nodup) (hi:X.N[i]? =some x) (hx:Loc X.env.scope x) (r:RelV v u)
  (h: ∀s',Inv X pins (σ.set i (some v)) H s'->Q () s') (hf:X.fn x=true\/X.env.scope.names.lookup x=some .local:=by first | exact .inl rfl | exact .inr rfl | assumption):wpAny M A (storeName X.env x u) Q E s:=
 zy I hN hi hx r (fun s' I' _=>h s' I') hf
theorem Inv.xU {s':Shared} {ch:List Addr} (I:Inv X pins σ H s) (ho:s'.os=s.os) (u:Un (jF X.stack) ch H H' s.heap s'.heap) (a_:iq X.prog X.w H' s'.heap) (hg:AllBare s'.gens)
  (C5: ∀b∈ch,(b∈X.ex\/X.s₀.heap.objs.size<=b)/\b≠X.env.locals/\(∀x c,X.env.cells.lookup x=some c->c≠b)/\ ∀p∈X.pn++pins,p.1≠b):Inv X pins σ H' s':=by
 obtain ⟨h',g',d',t',o'⟩:=s'
 have e:o'=s.os:=ho
 subst e
 exact I.call (g':=g') (t':=t') (d':=d') u a_ hg C5
end
noncomputable abbrev XK:=Value->Option Addr->Hp->Prop
noncomputable abbrev St:=List (Option V)
noncomputable abbrev VK:=V->Hp->Prop
noncomputable abbrev TE:=St->Hp->VK->Prop
noncomputable abbrev TT:=St->Hp->(Bool->Hp->Prop)->Prop
noncomputable abbrev TA:=St->Hp->(List V->Hp->Prop)->Prop
structure Ends where
 nx:St->Hp->Prop
 rt:VK
 bk:St->Hp->Prop:=fun _ _=>False
 ct:St->Hp->Prop:=fun _ _=>False
noncomputable abbrev TS:=Ends->St->Hp->Prop
noncomputable def EP (X:Cx) (pins:List (Addr×Obj)) (σ:St) (Q:VK) (u:Value) (s':Shared):Prop:= ∃v H',Inv X pins σ H' s'/\RelV v u/\Q v H'
noncomputable def TP (X:Cx) (pins:List (Addr×Obj)) (σ:St) (Q:Bool->Hp->Prop) (b:Bool) (s':Shared):Prop:= ∃H',Inv X pins σ H' s'/\Q b H'
noncomputable def AP (X:Cx) (pins:List (Addr×Obj)) (σ:St) (Q:List V->Hp->Prop) (us:List Value) (s':Shared):Prop:= ∃vs H',Inv X pins σ H' s'/\Vals vs us/\Q vs H'
noncomputable def SP (X:Cx) (pins:List (Addr×Obj)) (D:Ends) (f:Flow) (s':Shared):Prop:=
 match f with
 | .next=> ∃σ' H',Inv X pins σ' H' s'/\D.nx σ' H'
 | .brk=> ∃σ' H',Inv X pins σ' H' s'/\D.bk σ' H'
 | .cont=> ∃σ' H',Inv X pins σ' H' s'/\D.ct σ' H'
 | .ret u=> ∃v σ' H',Inv X pins σ' H' s'/\RelV v u/\D.rt v H'
noncomputable def PE (X:Cx) (e:Expr) (t:TE):Prop:=
 ∀(pins:List (Addr×Obj)) (s:Shared) (σ:St) (H:Hp) (Q:VK),Inv X pins σ H s->t σ H Q->wpAny (model X.prog X.w) X.A (eval e X.env) (EP X pins σ Q) X.xe s
noncomputable def PT (X:Cx) (e:Expr) (t:TT):Prop:=
 ∀(pins:List (Addr×Obj)) (s:Shared) (σ:St) (H:Hp) (Q:Bool->Hp->Prop),Inv X pins σ H s->t σ H Q->wpAny (model X.prog X.w) X.A (isTrue e X.env (eval e X.env)) (TP X pins σ Q) X.xe s
noncomputable def PW (X:Cx) (e:Expr) (t:TT):Prop:=
 ∀(whole:Sem Value) (pins:List (Addr×Obj)) (s:Shared) (σ:St) (H:Hp) (Q:Bool->Hp->Prop),Inv X pins σ H s->t σ H Q->wpAny (model X.prog X.w) X.A (isTrue e X.env whole) (TP X pins σ Q) X.xe s
theorem PW.pt {X:Cx} {e:Expr} {t:TT} (h:PW X e t):PT X e t:=h _
noncomputable def PA (X:Cx) (es:List Expr) (t:TA):Prop:=
 ∀(pos:Pos) (pins:List (Addr×Obj)) (s:Shared) (σ:St) (H:Hp) (Q:List V->Hp->Prop),Inv X pins σ H s->t σ H Q->wpAny (model X.prog X.w) X.A (spliced (backTo pos (starEach es X.env))) (AP X pins σ Q) X.xe s
noncomputable def PS (X:Cx) (st:Stmt) (t:TS):Prop:=
 ∀(pins:List (Addr×Obj)) (s:Shared) (σ:St) (H:Hp) (D:Ends),Inv X pins σ H s->t D σ H->wpAny (model X.prog X.w) X.A (exec st X.env) (SP X pins D) X.xe s
noncomputable def rH (X:Cx) (st:List Stmt) (t:TS):Prop:=
 ∀(pins:List (Addr×Obj)) (s:Shared) (σ:St) (H:Hp) (D:Ends),Inv X pins σ H s->t D σ H->wpAny (model X.prog X.w) X.A (execs st X.env) (SP X pins D) X.xe s
theorem aS {α:Type} {t:Sem α} {Q Q':α->Shared->Prop} {M:Model} {A:Around} {E:Value->Shared->Prop} {s:Shared} (h:wpAny M A t Q E s) (hQ: ∀a s,Q a s->Q' a s):wpAny M A t Q' E s:=wpAny_mono h hQ fun _ _ x=>x
end L2
namespace L2
open PySem PySem.Spec PyProof.Rows
section
variable {X:Cx}
noncomputable def rJ (i:Nat):TE:=fun σ H Q=> ∃v,σ[i]? =some (some v)/\Q v H
noncomputable def tC (v:V):TE:=fun _ H Q=>Q v H
theorem Hj {i:Nat} {x:Str} {pos:Pos} (hN:X.N[i]? =some x) (hv:KP X.env.scope x) (hd:(x==("__debug__":Str))=false:=by decide) (t_:(x==("__classdict__":Str))=false:=by decide):PE X (.Name x pos) (rJ i):=by
 intro pins s σ H Q I h
 obtain ⟨v,e,h⟩:=h
 obtain ⟨m,hn,hl⟩:=I.loc
 obtain ⟨u,r,l⟩:=hl i x v hN e hv
 have fin:EP X pins σ Q u s:=⟨v,H,I,r,h⟩
 rcases l with ⟨hk,hm⟩ | ⟨hk,c,hc,dJ⟩
 ·exact wpAny_Name (wpAny_loadName_local I.ok.kind hk hn hm fin) hd
 ·rcases hk with hk | hk
  ·exact wpAny_Name (wpAny_loadName_cell I.ok.kind hk hc dJ fin) hd
  ·exact wpAny_Name (wpAny_loadName_free I.ok.kind hk hc dJ fin t_) hd
theorem ai {i j pos}:PE X (.Constant (.int i) j pos) (tC (.int i)):=fun _ _ _ H _ I h=>wpAny_Constant_int ⟨.int i,H,I.tok _,⟨_,rfl⟩,h⟩
theorem lY {b j pos}:PE X (.Constant (.bool b) j pos) (tC (.bl b)):=fun _ _ _ H _ I h=>Constant_bool ⟨.bl b,H,I,rfl,h⟩
theorem cE {j pos}:PE X (.Constant .none j pos) (tC .cT):=fun _ _ _ H _ I h=>Constant_none ⟨.cT,H,I,rfl,h⟩
theorem Hk {x j pos}:PE X (.Constant (.str x) j pos) (tC (.str x)):=fun _ _ _ H _ I h=>Calls.Constant_str ⟨.str x,H,I.tok _,⟨_,rfl⟩,h⟩
noncomputable def Gl (X:Cx) (x:Str):Prop:=X.env.kindOf x=some .globalImplicit
theorem jl {E:Value->Shared->Prop} {pins:List (Addr×Obj)} {s:Shared} {σ:St} {H:Hp} {x:Str} {u:Value} {pos:Pos} {Q:Value->Shared->Prop} (I:Inv X pins σ H s) (hg:Gl X x) (hm:X.mg x=some u) (h:Q u s)
  (hd:(x==("__debug__":Str))=false:=by decide):wpAny (model X.prog X.w) X.A (eval (.Name x pos) X.env) Q E s:=
 Calls.Name_function_global I.ok.kind hg (Calls.loadGlobal_global (by rw[I.ok.glob];exact I.mod.glob.keeps I.bk) hm h) hd
theorem iV {E:Value->Shared->Prop} {pins:List (Addr×Obj)} {s:Shared} {σ:St} {H:Hp} {x:Str} {u:Value} {pos:Pos} {Q:Value->Shared->Prop} (I:Inv X pins σ H s) (hg:Gl X x) (hm:X.mg x=none) (hv:bootBuiltins x=some u) (h:Q u s)
  (hn:x≠"__name__":=by decide) (hd:(x==("__debug__":Str))=false:=by decide):wpAny (model X.prog X.w) X.A (eval (.Name x pos) X.env) Q E s:=by
 obtain ⟨mb,h1,h2⟩:=I.mod.blt
 exact Calls.Name_function_global I.ok.kind hg (Calls.loadGlobal_builtin (by rw[I.ok.glob];exact I.mod.glob.keeps I.bk) hm (by rw[I.ok.blt];exact h1.keeps I.bk) ((h2 x hn).trans hv) h) hd
theorem gm {x:Str} {v:V} {u:Value} {pos:Pos} (hg:Gl X x) (hm:X.mg x=some u) (r:RelV v u) (hd:(x==("__debug__":Str))=false:=by decide):PE X (.Name x pos) (tC v):=
 fun _ _ _ H _ I h=>jl I hg hm ⟨v,H,I,r,h⟩ hd
theorem mX {x:Str} {v:V} {u:Value} {pos:Pos} (hg:Gl X x) (hm:X.mg x=none) (hv:bootBuiltins x=some u) (r:RelV v u) (hn:x≠"__name__":=by decide) (hd:(x==("__debug__":Str))=false:=by decide):PE X (.Name x pos) (tC v):=
 fun _ _ _ H _ I h=>iV I hg hm hv ⟨v,H,I,r,h⟩ hn hd
variable {a b:Expr} {ta tb:TE} {pos:Pos}
noncomputable def PC (X:Cx) (op:CmpOp) (a b:Expr) (t:TE):Prop:=
 ∀(pins:List (Addr×Obj)) (s:Shared) (σ:St) (H:Hp) (Q:VK),Inv X pins σ H s->t σ H Q->
  wpAny (model X.prog X.w) X.A (eval a X.env) (fun v s₁=>wpAny (model X.prog X.w) X.A (eval b X.env) (fun u s₂=>wpAny (model X.prog X.w) X.A (compareOp op v u) (EP X pins σ Q) X.xe s₂) X.xe s₁) X.xe s
noncomputable def tB (t:TE):TT:=fun σ H Q=>t σ H fun x H1=> ∃c,x= .bl c/\Q c H1
theorem Hl {op:CmpOp} {t:TE} (h:PC X op a b t) (h1:behindInMarks op b=false:=by first | exact Be _ (by decide) (by decide) | rfl):PE X (.Compare a [op] [b] pos) t:=fun pins s σ H Q I hw=>wpAny_Compare1 (h pins s σ H Q I hw) h1
theorem we {op:CmpOp} {t:TE} (h:PC X op a b t) (h1:behindInMarks op b=false:=by first | exact Be _ (by decide) (by decide) | rfl):PT X (.Compare a [op] [b] pos) (tB t):=by
 intro pins s σ H Q I hw
 refine wpAny_isTrue_Compare1 (aS (h pins s σ H _ I hw) fun v s1 h1=>aS h1 fun u s2 h2=>aS h2 fun c s3 ⟨x,H1,I1,r1,q1⟩=>?_) h1
 obtain ⟨d,rfl,q⟩:=q1
 cases r1
 exact wpAny_truthy_bool ⟨H1,I1,q⟩
theorem fc {e:Expr} {t:TE} (h:PE X e t) (he: ∀whole,isTrue e X.env whole=(do let v <-whole;standAt e.pos;holding [v] (truthy v)):=by intro _;rfl):PT X e (tB t):=by
 intro pins s σ H Q I hw
 refine isTrue_plain (aS (h pins s σ H _ I hw) fun v s1 ⟨x,H1,I1,r1,q1⟩=>?_) (he _)
 obtain ⟨d,rfl,q⟩:=q1
 cases r1
 exact wpAny_truthy_bool ⟨H1,I1,q⟩
variable {tA Ob:TT} {rest:List Expr}
noncomputable def O3 (t u:TT):TT:=fun σ H Q=>t σ H fun c H1=>if c=true then u σ H1 Q else Q false H1
noncomputable def Xu (t u:TT):TT:=fun σ H Q=>t σ H fun c H1=>if c=true then Q true H1 else u σ H1 Q
noncomputable def KU (t:TT):TT:=fun σ H Q=>t σ H fun c H1=>Q (!c) H1
theorem jm (ha:PT X a tA):PW X (.BoolOp .And [a] pos) tA:=by
 intro wh pins s σ H Q I h
 refine isTrue_and (aS (ha pins s σ H Q I h) fun c s1 e=>?_)
 cases c with
 | true=>exact isTrue_and_nil e
 | false=>exact e
theorem gA (ha:PT X a tA):PW X (.BoolOp .Or [a] pos) tA:=by
 intro wh pins s σ H Q I h
 refine isTrue_or (aS (ha pins s σ H Q I h) fun c s1 e=>?_)
 cases c with
 | false=>exact isTrue_or_nil e
 | true=>exact e
theorem lh (ha:PT X a tA) (hb:PW X (.BoolOp .And (b::rest) pos) Ob):PW X (.BoolOp .And (a::b::rest) pos) (O3 tA Ob):=by
 intro wh pins s σ H Q I h
 refine isTrue_and (aS (ha pins s σ H _ I h) fun c s1 ⟨H1,I1,q1⟩=>?_)
 cases c with
 | true=>exact hb wh pins s1 σ H1 Q I1 q1
 | false=>exact ⟨H1,I1,q1⟩
theorem gn (ha:PT X a tA) (hb:PW X (.BoolOp .Or (b::rest) pos) Ob):PW X (.BoolOp .Or (a::b::rest) pos) (Xu tA Ob):=by
 intro wh pins s σ H Q I h
 refine isTrue_or (aS (ha pins s σ H _ I h) fun c s1 ⟨H1,I1,q1⟩=>?_)
 cases c with
 | true=>exact ⟨H1,I1,q1⟩
 | false=>exact hb wh pins s1 σ H1 Q I1 q1
theorem rK (ha:PT X a tA):PT X (.UnaryOp .Not a pos) (KU tA):=by
 intro pins s σ H Q I h
 exact isTrue_not (ha pins s σ H (fun c H1=>Q (!c) H1) I h)
noncomputable def KW (ta tb:TE):TE:=fun σ H Q=>ta σ H fun x H1=> ∃c,x= .bl c/\if c=true then tb σ H1 Q else Q (.bl false) H1
theorem Bf {op} {t:TE} (h:PE X a t):PE X (.BoolOp op [a] pos) t:=fun pins s σ H Q I hw=>BoolOp_one (h pins s σ H Q I hw)
theorem Bg (ha:PE X a ta) (hb:PE X (.BoolOp .And (b::rest) pos) tb):PE X (.BoolOp .And (a::b::rest) pos) (KW ta tb):=by
 intro pins s σ H Q I h
 refine BoolOp_and (aS (ha pins s σ H _ I h) fun v s1 ⟨x,H1,I1,r1,q1⟩=>?_)
 obtain ⟨c,rfl,q1⟩:=q1
 cases r1
 refine wpAny_truthy_bool ?_
 cases c with
 | true=>exact hb pins s1 σ H1 Q I1 q1
 | false=>exact ⟨.bl false,H1,I1,rfl,q1⟩
noncomputable def Xv (t:TT) (ta tb:TE):TE:=fun σ H Q=>t σ H fun c H1=>if c=true then ta σ H1 Q else tb σ H1 Q
theorem uf {c:Expr} (hc:PT X c tA) (ha:PE X a ta) (hb:PE X b tb):PE X (.IfExp c a b pos) (Xv tA ta tb):=by
 intro pins s σ H Q I h
 refine wpAny_IfExp (aS (hc pins s σ H _ I h) fun d s1 ⟨H1,I1,q1⟩=>?_)
 cases d with
 | true=>exact ha pins s1 σ H1 Q I1 q1
 | false=>exact hb pins s1 σ H1 Q I1 q1
end
end L2
namespace L2
open PySem PySem.Spec PyProof.Rows
noncomputable def bt (K:PySem.W.Frag) (H:Hp) (a:Addr) (xs:List V):Prop:=
 Rd H a (.lst xs)\/
  ∃(o:Obj) (its:Array Value) (n:Nat),K.lookup a=some o/\o.cls= .type "list"/\o.dict=none/\o.data= .seq its n/\its.size<=sizeLine/\Vals xs its.toList
noncomputable def bp (K:PySem.W.Frag) (H:Hp) (a:Addr) (xs:List V):Prop:=
 Rd H a (.tup xs)\/
  ∃(o:Obj) (its:Array Value) (n:Nat),K.lookup a=some o/\o.cls= .type "tuple"/\o.data= .seq its n/\its.size<=sizeLine/\Vals xs its.toList
noncomputable def O4:Value->Option V
 | .none=>some .cT
 | .bool b=>some (.bl b)
 | .int i _=>some (.int i)
 | .str x _=>some (.str x)
 | .bytes b _=>some (.xS b)
 | .float b _=>some (.Hf b)
 | .ref a=>some (.ref a)
 | .type n=>some (.ty n)
 | _=>none
theorem RelV.abs {x:V} {u:Value} (r:RelV x u):O4 u=some x:=by
 cases x with
 | cT=>cases r;rfl
 | bl _=>cases r;rfl
 | int _=>obtain ⟨t,rfl⟩:=r;rfl
 | str _=>obtain ⟨t,rfl⟩:=r;rfl
 | xS _=>obtain ⟨t,rfl⟩:=r;rfl
 | Hf _=>obtain ⟨t,rfl⟩:=r;rfl
 | ref _=>cases r;rfl
 | ty _=>cases r;rfl
theorem RelV.inj {x y:V} {u:Value} (r:RelV x u) (q:RelV y u):x=y:=Option.some.inj (r.abs.symm.trans q.abs)
theorem Vals.inj: ∀{xs ys:List V} {us:List Value},Vals xs us->Vals ys us->xs=ys
 | _,_,_, .nil, .nil=>rfl
 | _,_,_, .cons r t, .cons r' t'=>by rw[r.inj r',Vals.inj t t']
section
variable {X:Cx} {pins:List (Addr×Obj)} {σ:St} {H:Hp} {s:Shared} {a:Addr} {xs ys:List V}
theorem bt.of {K:PySem.W.Frag} (h:H a=some (.lst xs)):bt K H a xs:= .inl (.inl h)
theorem bp.of {K:PySem.W.Frag} (h:H a=some (.tup xs)):bp K H a xs:= .inl (.inl h)
theorem Inv.list (I:Inv X pins σ H s) (h:bt X.K H a xs): ∃its:List Value,Vals xs its/\PlainL s.heap a its.toArray/\xs.length<=sizeLine:=by
 rcases h with h | ⟨o,its,n,hk,hc,hd,hs,hz,r⟩
 ·obtain ⟨z,its,n,r,e⟩:=h.ok I.a_
  exact ⟨its,r,⟨_,n,e,rfl,rfl,rfl⟩,z⟩
 ·refine ⟨its.toList,r,⟨o,n,I.iU a o hk,hc,hd,by simpa using hs⟩,?_⟩
  have e:=r.length
  simp only[Array.length_toList]at e
  omega
theorem Inv.tuple (I:Inv X pins σ H s) (h:bp X.K H a xs): ∃its:List Value,Vals xs its/\IsTup s.heap a its.toArray/\xs.length<=sizeLine:=by
 rcases h with h | ⟨o,its,n,hk,hc,hs,hz,r⟩
 ·obtain ⟨z,its,r,p⟩:=h.ok I.a_
  exact ⟨its,r,p,z⟩
 ·refine ⟨its.toList,r,⟨o,I.iU a o hk,hc,n,by simpa using hs⟩,?_⟩
  have e:=r.length
  simp only[Array.length_toList]at e
  omega
theorem Inv.ug (I:Inv X pins σ H s) (h:bt X.K H a xs) (h':bt X.K H a ys):xs=ys:=by
 obtain ⟨its,r,⟨o,n,e,_,_,d⟩,_⟩:=I.list h
 obtain ⟨its',r',⟨o',n',e',_,_,d'⟩,_⟩:=I.list h'
 rw[e]at e';cases e'
 rw[d]at d'
 injection d' with d1 _
 have:its=its':=by simpa using congrArg Array.toList d1
 subst this
 exact r.inj r'
theorem Inv.zA (I:Inv X pins σ H s) (h:bp X.K H a xs) (h':bp X.K H a ys):xs=ys:=by
 obtain ⟨its,r,⟨o,e,_,n,d⟩,_⟩:=I.tuple h
 obtain ⟨its',r',⟨o',e',_,n',d'⟩,_⟩:=I.tuple h'
 rw[e]at e';cases e'
 rw[d]at d'
 injection d' with d1 _
 have:its=its':=by simpa using congrArg Array.toList d1
 subst this
 exact r.inj r'
end
noncomputable abbrev Cx.pP (X:Cx) (E:Value->Shared->Prop):Cx:={ X with xe:=E }
noncomputable abbrev Cx.Oc (X:Cx):Cx:=X.pP fun _ _=>False
theorem Cx.Ok.pP {X:Cx} (ok:X.Ok) (E:Value->Shared->Prop):(X.pP E).Ok:=
 ⟨ok.mod,ok.kind,ok.glob,ok.blt,ok.above,ok.inj,ok.has,ok.C3,ok.hd,ok.frames,ok.C4,ok.Hi,ok.bs,ok.xT,ok.pO,ok.rG,ok.iT,ok.A8⟩
theorem Cx.Ok.iW {X:Cx} {E:Value->Shared->Prop} (ok:(X.pP E).Ok):X.Ok:=
 ⟨ok.mod,ok.kind,ok.glob,ok.blt,ok.above,ok.inj,ok.has,ok.C3,ok.hd,ok.frames,ok.C4,ok.Hi,ok.bs,ok.xT,ok.pO,ok.rG,ok.iT,ok.A8⟩
section
variable {X:Cx} {pins:List (Addr×Obj)} {σ:St} {H:Hp} {s:Shared} {E:Value->Shared->Prop}
theorem Inv.pP (I:Inv X pins σ H s) (E:Value->Shared->Prop):Inv (X.pP E) pins σ H s:=⟨I.ok.pP E,I.os,I.bare,I.base,I.loc,I.cell,I.free,I.cO,I.pin,I.a_,I.len⟩
theorem Inv.iW (I:Inv (X.pP E) pins σ H s):Inv X pins σ H s:=⟨I.ok.iW,I.os,I.bare,I.base,I.loc,I.cell,I.free,I.cO,I.pin,I.a_,I.len⟩
theorem SP.iW {D:Ends} {f:Flow} {s':Shared} (h:SP (X.pP E) pins D f s'):SP X pins D f s':=by
 cases f with
 | next=>obtain ⟨σ',H',I,q⟩:=h;exact ⟨σ',H',I.iW,q⟩
 | brk=>obtain ⟨σ',H',I,q⟩:=h;exact ⟨σ',H',I.iW,q⟩
 | cont=>obtain ⟨σ',H',I,q⟩:=h;exact ⟨σ',H',I.iW,q⟩
 | ret u=>obtain ⟨v,σ',H',I,r,q⟩:=h;exact ⟨v,σ',H',I.iW,r,q⟩
theorem rH.Oc {st:List Stmt} {t:TS} (h:rH X.Oc st t):rH X st t:=fun pins s σ H D I hw=>
 wpAny_mono (h pins s σ H D (I.pP _) hw) (fun _ _ q=>q.iW) fun _ _ z=>False.elim z
end
section
variable {X:Cx} {st:Stmt} {rest:List Stmt} {t u:TS} {e:Expr} {te:TE} {pos:Pos}
noncomputable def FX:TS:=fun D σ H=>D.nx σ H
noncomputable def Dw (t u:TS):TS:=fun D σ H=>t { D with nx:=u D } σ H
theorem aI:rH X [] FX:=fun _ _ σ H _ I h=>wpAny_execs_nil ⟨σ,H,I,h⟩
theorem ah (h1:PS X st t) (h2:rH X rest u):rH X (st::rest) (Dw t u):=by
 intro pins s σ H D I h
 refine wpAny_execs_cons (aS (h1 pins s σ H { D with nx:=u D } I h) fun f s1 q=>?_)
 cases f with
 | next=>
  obtain ⟨σ',H',I',q⟩:=q
  exact h2 pins s1 σ' H' D I' q
 | ret v=>exact q
 | brk=>exact q
 | cont=>exact q
theorem ao (h1:PS X st t):rH X [st] t:=by
 intro pins s σ H D I h
 refine wpAny_execs_cons (aS (h1 pins s σ H D I h) fun f s1 q=>?_)
 cases f with
 | next=>exact wpAny_execs_nil q
 | ret v=>exact q
 | brk=>exact q
 | cont=>exact q
theorem Inv.quiet {pins:List (Addr×Obj)} {σ:St} {H:Hp} {s:Shared} (I:Inv X pins σ H s):interactive X.env=false:=by simp[interactive,I.ok.kind]
noncomputable def KY (te:TE):TS:=fun D σ H=>te σ H fun _ H1=>D.nx σ H1
theorem gp (he:PE X e te) (hs:swapsWith e none pos.line X.env=pure false:=by rfl):PS X (.Expr e pos) (KY te):=by
 intro pins s σ H D I h
 exact wpAny_Expr_any (aS (he pins s σ H _ I h) fun v s1 ⟨x,H1,I1,r1,q1⟩=>⟨σ,H1,I1,q1⟩) I.quiet hs
noncomputable def Hm (te:TE):TS:=fun D σ H=>te σ H D.rt
theorem aE (he:PE X e te):PS X (.Return (some e) pos) (Hm te):=by
 intro pins s σ H D I h
 exact wpAny_Return_some (aS (he pins s σ H _ I h) fun v s1 ⟨x,H1,I1,r1,q1⟩=>⟨x,σ,H1,I1,r1,q1⟩)
noncomputable def KZ (c:TT) (t u:TS):TS:=fun D σ H=>c σ H fun b H1=>if b=true then t D σ H1 else u D σ H1
theorem aX {c:Expr} {a b:List Stmt} {tc:TT} (hc:PT X c tc) (ha:rH X a t) (hb:rH X b u):PS X (.If c a b pos) (KZ tc t u):=by
 intro pins s σ H D I h
 refine wpAny_If (aS (hc pins s σ H _ I h) fun d s1 ⟨H1,I1,q1⟩=>?_)
 cases d with
 | true=>exact ha pins s1 σ H1 D I1 q1
 | false=>exact hb pins s1 σ H1 D I1 q1
noncomputable def Hn:TS:=fun _ _ _=>False
theorem nA:PS X st Hn:=fun _ _ _ _ _ _ h=>h.elim
end
noncomputable abbrev TG:=V->St->Hp->(St->Hp->Prop)->Prop
noncomputable abbrev C7:=List V->St->Hp->(St->Hp->Prop)->Prop
noncomputable def PG (X:Cx) (target:Expr) (t:TG):Prop:=
 ∀(pins:List (Addr×Obj)) (s:Shared) (σ:St) (H:Hp) (v:V) (u:Value) (Q:St->Hp->Prop),Inv X pins σ H s->RelV v u->t v σ H Q->
  wpAny (model X.prog X.w) X.A (assign target X.env u) (fun _ s'=> ∃σ' H',Inv X pins σ' H' s'/\Q σ' H') X.xe s
noncomputable def Ka (X:Cx) (ts:List Expr) (t:C7):Prop:=
 ∀(pins:List (Addr×Obj)) (s:Shared) (σ:St) (H:Hp) (vs:List V) (us:List Value) (Q:St->Hp->Prop),Inv X pins σ H s->Vals vs us->t vs σ H Q->
  wpAny (model X.prog X.w) X.A (assignInOrder ((assignEach ts X.env).map (·.2)) us) (fun _ s'=> ∃σ' H',Inv X pins σ' H' s'/\Q σ' H') X.xe s
noncomputable abbrev Ho:=V->V->V->Hp->(Hp->Prop)->Prop
noncomputable def K0 (X:Cx) (t:Ho):Prop:=
 ∀(pins:List (Addr×Obj)) (s:Shared) (σ:St) (H:Hp) (o i v:V) (ov iv u:Value) (Q:Hp->Prop),Inv X pins σ H s->RelV o ov->RelV i iv->RelV v u->t o i v H Q->
  wpAny (model X.prog X.w) X.A (setItem ov iv u) (fun _ s'=> ∃H',Inv X pins σ H' s'/\Q H') X.xe s
noncomputable abbrev Od:=V->V->Hp->VK->Prop
noncomputable def Vj (X:Cx) (op:Operator) (t:Od):Prop:=
 ∀(pins:List (Addr×Obj)) (s:Shared) (σ:St) (H:Hp) (x y:V) (v u:Value) (Q:VK),Inv X pins σ H s->RelV x v->RelV y u->t x y H Q->
  wpAny (model X.prog X.w) X.A (inplaceOp op v u) (EP X pins σ Q) X.xe s
section
variable {X:Cx} {pos:Pos}
noncomputable def uh (i:Nat):TG:=fun v σ H Q=>Q (σ.set i (some v)) H
theorem aU {i:Nat} {x:Str} (hN:X.N.Nodup) (hi:X.N[i]? =some x) (hx:Loc X.env.scope x) (hf:X.fn x=true\/X.env.scope.names.lookup x=some .local:=by first | exact .inl rfl | exact .inr rfl | assumption):PG X (.Name x pos) (uh i):=by
 intro pins s σ H v u Q I r h
 exact wpAny_assign_Name (fb I hN hi hx r (fun s' I'=>⟨_,H,I',h⟩) hf)
noncomputable def O5:C7:=fun vs σ H Q=>vs=[]/\Q σ H
noncomputable def K5 (t:TG) (u:C7):C7:=fun vs σ H Q=> ∃v r,vs=v::r/\t v σ H fun σ' H'=>u r σ' H' Q
theorem j7:Ka X [] O5:=by
 intro pins s σ H vs us Q I r h
 obtain ⟨e,h⟩:=h
 subst e
 cases r
 exact assignInOrder_nil ⟨σ,H,I,h⟩
theorem cF {e:Expr} {es:List Expr} {t:TG} {u:C7} (h1:PG X e t) (h2:Ka X es u)
  (hs:(assignEach (e::es) X.env).map (·.2)=assign e X.env::(assignEach es X.env).map (·.2):=by rfl):Ka X (e::es) (K5 t u):=by
 intro pins s σ H vs us Q I r h
 obtain ⟨v,vr,e1,h⟩:=h
 subst e1
 cases r with
 | cons r rr=>
  rw[hs]
  refine assignInOrder_cons (aS (h1 pins s σ H _ _ _ I r h) fun _ s1 ⟨σ1,H1,I1,q1⟩=>?_)
  exact h2 pins s1 σ1 H1 _ _ Q I1 rr q1
noncomputable def K6 (K:PySem.W.Frag) (n:Nat) (t:C7):TG:=fun v σ H Q=> ∃a xs,v= .ref a/\bp K H a xs/\xs.length=n/\t xs σ H Q
theorem Hq {es:List Expr} {k:Nat} {t:C7} {n:Nat} (hc:X.calm=true) (h:Ka X es t)
  (hn:(assignEach es X.env).length=n:=by rfl) (Dx:(assignEach es X.env).findIdx? (·.1)=none:=by rfl):PG X (.Tuple es k pos) (K6 X.K n t):=by
 intro pins s σ H v u Q I r hw
 obtain ⟨a,xs,e1,hq,hl,hw⟩:=hw
 subst e1
 cases r
 obtain ⟨its,rv,ht,hz⟩:=I.tuple hq
 refine assign_Tuple_tuple (I.ok.hd hc) ht (by simp[hn, <-hl,rv.length]) Dx fun h' hx=>?_
 have I1:Inv X pins σ H { s with heap:=h' }:=I.kept (t':=s.toks) fun b o e=>hx b o (Nat.ne_of_lt (Heap.lt_size e)) e
 exact h pins _ σ H xs _ Q I1 (by simpa using rv) hw
noncomputable def O6 (to ti:TE) (t:Ho):TG:=fun v σ H Q=>to σ H fun o H1=>ti σ H1 fun i H2=>t o i v H2 fun H3=>Q σ H3
theorem Bh {o i:Expr} {to ti:TE} {t:Ho} (ho:PE X o to) (hi:PE X i ti) (hs:K0 X t)
  (ha: ∀v,assign (.Subscript o i pos) X.env v=(do
   let ov <-holding [v] (eval o X.env)
   let iv <-holding [v,ov] (eval i X.env)
   standAt pos
   holding [v,ov,iv] (setItem ov iv v)
   release [v,ov,iv] []):=by intro _;rfl):PG X (.Subscript o i pos) (O6 to ti t):=by
 intro pins s σ H v u Q I r h
 rw[ha]
 refine wpAny_bind (wpAny_holding (aS (ho pins s σ H _ I h) fun ov s1 ⟨x,H1,I1,r1,q1⟩=>?_))
 refine wpAny_bind (wpAny_holding (aS (hi pins s1 σ H1 _ I1 q1) fun iv s2 ⟨y,H2,I2,r2,q2⟩=>?_))
 refine wpAny_bind (wpAny_standAt (wpAny_bind (wpAny_holding (aS (hs pins s2 σ H2 x y v ov iv u _ I2 r1 r2 r q2) fun _ s3 ⟨H3,I3,q3⟩=>?_))))
 exact wpAny_release ⟨σ,H3,I3,q3⟩
noncomputable def Bi (te:TE) (g:TG):TS:=fun D σ H=>te σ H fun x H1=>g x σ H1 D.nx
theorem wg {tg e:Expr} {te:TE} {g:TG} (he:PE X e te) (hg:PG X tg g) (hs:swapsWithSole [tg] e pos.line X.env=pure false:=by rfl) (hw:swappedStores [tg] e X.env=pure none:=by rfl)
  (h1:(assignEach [tg] X.env).map (·.2)=[assign tg X.env]:=by rfl):PS X (.Assign [tg] e pos) (Bi te g):=by
 intro pins s σ H D I h
 refine wpAny_Assign_stores (aS (he pins s σ H _ I h) fun v s1 ⟨x,H1,I1,r1,q1⟩=>?_) hs hw
 rw[h1]
 exact aS (hg pins s1 σ H1 x v _ I1 r1 q1) fun _ s2 q=>q
theorem aF {i:Nat} {x:Str} {e:Expr} {te:TE} {pos':Pos} (hN:X.N.Nodup) (hi:X.N[i]? =some x) (hx:Loc X.env.scope x) (he:PE X e te) (hs:swapsWith e (some (.Name x pos')) pos.line X.env=pure false:=by rfl) (hf:X.fn x=true\/X.env.scope.names.lookup x=some .local:=by first | exact .inl rfl | exact .inr rfl | assumption):
  PS X (.Assign [.Name x pos'] e pos) (Bi te (uh i)):=by
 intro pins s σ H D I h
 refine wpAny_Assign_Name (aS (he pins s σ H _ I h) fun v s1 ⟨y,H1,I1,r1,q1⟩=>?_) hs
 exact fb I1 hN hi hx r1 (fun s2 I2=>⟨_,H1,I2,q1⟩) hf
noncomputable def O7 (i:Nat) (te:TE) (ti:Od):TS:=fun D σ H=> ∃x,σ[i]? =some (some x)/\te σ H fun y H1=>ti x y H1 fun z H2=>D.nx (σ.set i (some z)) H2
theorem Hr {i:Nat} {x:Str} {e:Expr} {te:TE} {op:Operator} {ti:Od} {pos':Pos} (hN:X.N.Nodup) (hi:X.N[i]? =some x) (hx:Loc X.env.scope x) (he:PE X e te) (ho:Vj X op ti) (hf:X.fn x=true\/X.env.scope.names.lookup x=some .local:=by first | exact .inl rfl | exact .inr rfl | assumption):
  PS X (.AugAssign (.Name x pos') op e pos) (O7 i te ti):=by
 intro pins s σ H D I h
 obtain ⟨v,e1,h⟩:=h
 obtain ⟨m,hn,hl⟩:=I.loc
 have Xw:KP X.env.scope x:=by rcases hx with k | k;exact .inl k;exact .inr (.inl k)
 obtain ⟨u,r,l⟩:=hl i x v hi e1 Xw
 refine wpAny_AugAssign_Name ?_
 have go:wpAny (model X.prog X.w) X.A (eval e X.env) (fun w s₂=>wpAny (model X.prog X.w) X.A (inplaceOp op u w) (fun r s₃=>wpAny (model X.prog X.w) X.A (storeName X.env x r) (fun _=>SP X pins D .next) X.xe s₃) X.xe s₂) X.xe s:=by
  refine aS (he pins s σ H _ I h) fun w s1 ⟨y,H1,I1,r1,q1⟩=>?_
  refine aS (ho pins s1 σ H1 v y u w _ I1 r r1 q1) fun z s2 ⟨zv,H2,I2,r2,q2⟩=>?_
  exact fb I2 hN hi hx r2 (fun s3 I3=>⟨_,H2,I3,q2⟩) hf
 rcases l with ⟨hk,hm⟩ | ⟨hk,c,hc,dJ⟩
 ·exact wpAny_loadName_local I.ok.kind hk hn hm go
 ·rcases hk with hk | hk
  ·exact wpAny_loadName_cell I.ok.kind hk hc dJ go
  ·rcases hx with k | k
   ·have:X.env.scope.names.lookup x=some .free:=hk
    rw[k]at this;cases this
   ·have:X.env.scope.names.lookup x=some .free:=hk
    rw[k]at this;cases this
noncomputable def Xx (f:Int->Int->Int):Od:=fun x y H Q=> ∃i j,x= .int i/\y= .int j/\Q (.int (f i j)) H
theorem Hs:Vj X .Add (Xx fun i j=>i+j):=by
 intro pins s σ H x y v u Q I r1 r2 h
 obtain ⟨i,j,e1,e2,q⟩:=h
 subst e1;subst e2
 obtain ⟨t,rfl⟩:=r1
 obtain ⟨t',rfl⟩:=r2
 exact iadd_int ⟨.int _,H,I.tok _,⟨_,rfl⟩,q⟩
end
section
variable {X:Cx} {pos:Pos}
end
structure It where
 go:Nat->Hp->Prop
 Bj:Nat->Hp->V->Hp->Prop
 stop:Nat->Hp->Prop
noncomputable def iw (X:Cx) (pins:List (Addr×Obj)) (H:Hp) (b:Addr):Prop:=
 H b=none/\b≠X.env.locals/\b∉X.fs/\(b∈X.ex\/X.s₀.heap.objs.size<=b)/\(∀x c,X.env.cells.lookup x=some c->c≠b)/\ ∀p∈X.pn++pins,p.1≠b
theorem Inv.lj {X:Cx} {pins:List (Addr×Obj)} {σ:St} {H H':Hp} {s:Shared} {b:Addr} (I:Inv X pins σ H s) (hb:s.heap.objs.size<=b) (hn:H' b=none):iw X pins H' b:=by
 refine ⟨hn,Nat.ne_of_gt (Nat.lt_of_lt_of_le I.lt hb),I.Dt hb, .inr (Nat.le_trans I.sz hb),fun x c e z=>?_,fun p hp z=>?_⟩
 ·obtain ⟨v,q⟩:=I.cell x c e
  exact absurd (Nat.lt_of_lt_of_le q.lt (by rw[z];exact hb)) (Nat.lt_irrefl _)
 ·exact absurd (Nat.lt_of_lt_of_le (Heap.lt_size (I.pin p hp).1) (by rw[z];exact hb)) (Nat.lt_irrefl _)
structure Turn (P:Program) (w:World) (K:PySem.W.Frag) (tg:Expr) (J:It) (fp:List Addr) (it:Addr) (tn:Nat->Heap->Prop):Prop where
 mem:it∈fp
 obj: ∀i h,tn i h-> ∀b∈fp, ∃o,h.get? b=some o/\ ∀v,o.data≠ .cell v
 keep: ∀i h h',tn i h->(∀b∈fp, ∀o,h.get? b=some o->h'.get? b=some o)->tn i h'
 item: ∀(X:Cx),X.prog=P->X.w=w->X.K=K->X.calm=true-> ∀(i:Nat) (pins:List (Addr×Obj)) (s:Shared) (σ:St) (H:Hp) (E:Value->Shared->Prop),Inv X pins σ H s->(∀b∈fp,iw X pins H b)->tn i s.heap->J.go i H->
  wpAny (model P w) X.A (pyNext (.ref it)) (fun r s1=> ∃u,r=some u/\
   wpAny (model P w) X.A (letOwnedTupleGo tg (.ref it) u) (fun _ s2=> ∃x H',Inv X pins σ H' s2/\RelV x u/\J.Bj i H x H'/\tn (i+1) s2.heap/\ ∀b∈fp,H' b=none) E s1) E s
 done: ∀(X:Cx),X.prog=P->X.w=w->X.K=K->X.calm=true-> ∀(i:Nat) (pins:List (Addr×Obj)) (s:Shared) (σ:St) (H:Hp) (E:Value->Shared->Prop),Inv X pins σ H s->(∀b∈fp,iw X pins H b)->tn i s.heap->J.stop i H->
  wpAny (model P w) X.A (pyNext (.ref it)) (fun r s1=>r=none/\Inv X pins σ H s1) E s
 self: ∀(A:Around) (i:Nat) (s:Shared) (Q:Value->Shared->Prop) (E:Value->Shared->Prop),tn i s.heap->Q (.ref it) s->wpAny (model P w) A (pyIter (.ref it)) Q E s
noncomputable abbrev TI:=St->Hp->(It->Hp->Prop)->Prop
noncomputable def Vk (X:Cx) (pins:List (Addr×Obj)) (σ:St) (tg:Expr) (R:It->Hp->Prop) (Oe:Value) (s2:Shared):Prop:=
 ∃(it:Addr) (fp:List Addr) (tn:Nat->Heap->Prop) (J:It) (H':Hp),Oe= .ref it/\Inv X pins σ H' s2/\Turn X.prog X.w X.K tg J fp it tn/\tn 0 s2.heap/\(∀b∈fp,iw X pins H' b)/\R J H'
noncomputable def PI (X:Cx) (tg iter:Expr) (wi:TI):Prop:=
 ∀(pins:List (Addr×Obj)) (s:Shared) (σ:St) (H:Hp) (R:It->Hp->Prop),Inv X pins σ H s->wi σ H R->
  wpAny (model X.prog X.w) X.A (eval iter X.env) (fun v s1=>wpAny (model X.prog X.w) X.A (pyIter v) (Vk X pins σ tg R) X.xe s1) X.xe s
theorem qw {M:Model} {A:Around} {E:Value->Shared->Prop} {s:Shared} {tg:Expr} {it:Addr} {u:Value} {o:Obj} {n:String} {vs:Array Value} {Q:Unit->Shared->Prop} (ho:s.heap.get? it=some o) (hc:o.cls= .type n) (hd:o.data= .fields vs)
  (hn:["enumerate","zip","dict_itemiterator","dict_reverseitemiterator","odict_iterator","itertools.zip_longest","itertools.pairwise"].contains n=false) (hQ:Q () s):wpAny M A (letOwnedTupleGo tg (.ref it) u) Q E s:=by
 unfold letOwnedTupleGo
 cases tg<;>first
  | exact wpAny_pure hQ
  |(cases u<;>first
    | exact wpAny_pure hQ
    |(refine wpAny_bind (wpAny_load ho ?_)
      rw[hc,hd]
      show wpAny M A (if (["enumerate","zip","dict_itemiterator","dict_reverseitemiterator","odict_iterator","itertools.zip_longest","itertools.pairwise"].contains n&&vs[0]? ==some (rawInt _))=true then _ else _) Q E s
      rw[if_neg (by intro h;rw[hn,Bool.false_and]at h;cases h)]
      exact wpAny_pure hQ))
noncomputable def Kb (K:PySem.W.Frag) (a:Addr):It:=
 ⟨fun i H=> ∃xs x,bt K H a xs/\xs[i]? =some x,fun i H x H'=>H'=H/\ ∀xs,bt K H a xs->xs[i]? =some x,fun i H=> ∃xs,bt K H a xs/\xs.length<=i⟩
noncomputable def Kc (K:PySem.W.Frag) (a:Addr):It:=
 ⟨fun i H=> ∃xs x,bp K H a xs/\xs[i]? =some x,fun i H x H'=>H'=H/\ ∀xs,bp K H a xs->xs[i]? =some x,fun i H=> ∃xs,bp K H a xs/\xs.length<=i⟩
noncomputable def Ht (lo:Int) (n:Nat):It:=⟨fun i _=>i<n,fun i H x H'=>H'=H/\x= .int (lo+i),fun i _=>n<=i⟩
theorem zB {P:Program} {w:World} {K:PySem.W.Frag} {tg:Expr} (a it:Addr):Turn P w K tg (Kb K a) [it] it (fun i h=>h.IsListIter it a i) where
 mem:=by simp
 obj:=fun i h st b hb=>by
  have e:b=it:=by simpa using hb
  subst e
  obtain ⟨o,e,c,d⟩:=st
  exact ⟨o,e,fun v z=>by rw[d]at z;cases z⟩
 keep:=fun i h h' st k=>st.at fun o e=>k it (by simp) o e
 item:=by
  intro X hP hw hK hc i pins s σ H E I hf st hg
  subst hP hw hK
  obtain ⟨xs,x,hq,hx⟩:=hg
  obtain ⟨its,rv,p,hz⟩:=I.list hq
  obtain ⟨u,hu,ru⟩:=rv.get hx
  obtain ⟨f0,f1,f2,f3,f4,f5⟩:=hf it (by simp)
  refine wpAny_pyNext_list_item st p.isList (x:=u) (by simpa using hu) fun h' aT sb=>?_
  have I1:Inv X pins σ H { s with heap:=h' }:=I.turned (t':=s.toks) (fun b o hb e=>(sb.2 b hb).trans e) f0 f1 f3 f4 f5
  obtain ⟨o,e,c,d⟩:=id aT
  exact ⟨u,rfl,qw (s:={ s with heap:=h' }) e c d (by decide) ⟨x,H,I1,ru,⟨rfl,fun ys hy=>by rw[I.ug hy hq];exact hx⟩,aT,fun b hb=>(hf b hb).1⟩⟩
 done:=by
  intro X hP hw hK hc i pins s σ H E I hf st hg
  subst hP hw hK
  obtain ⟨xs,hq,hx⟩:=hg
  obtain ⟨its,rv,p,hz⟩:=I.list hq
  obtain ⟨f0,f1,f2,f3,f4,f5⟩:=hf it (by simp)
  have hl:=rv.length
  exact wpAny_pyNext_list_end (I.ok.hd hc) st p.isList (by simp;omega) fun h' eb=>⟨rfl,I.turned (t':=s.toks) (fun b o hb e=>eb b o hb e) f0 f1 f3 f4 f5⟩
 self:=fun _ _ _ _ _ st h=>wpAny_pyIter_listiter st h
theorem wj {P:Program} {w:World} {K:PySem.W.Frag} {tg:Expr} (a it:Addr):Turn P w K tg (Kc K a) [it] it (fun i h=>h.IsTupleIter it a i) where
 mem:=by simp
 obj:=fun i h st b hb=>by
  have e:b=it:=by simpa using hb
  subst e
  obtain ⟨o,e,c,d⟩:=st
  exact ⟨o,e,fun v z=>by rw[d]at z;cases z⟩
 keep:=fun i h h' st k=>st.at fun o e=>k it (by simp) o e
 item:=by
  intro X hP hw hK hc i pins s σ H E I hf st hg
  subst hP hw hK
  obtain ⟨xs,x,hq,hx⟩:=hg
  obtain ⟨its,rv,p,hz⟩:=I.tuple hq
  obtain ⟨u,hu,ru⟩:=rv.get hx
  obtain ⟨f0,f1,f2,f3,f4,f5⟩:=hf it (by simp)
  refine wpAny_pyNext_tuple_item st (show s.heap.IsTuple a its.toArray from p) (x:=u) (by simpa using hu) fun h' aT sb=>?_
  have I1:Inv X pins σ H { s with heap:=h' }:=I.turned (t':=s.toks) (fun b o hb e=>(sb.2 b hb).trans e) f0 f1 f3 f4 f5
  obtain ⟨o,e,c,d⟩:=id aT
  exact ⟨u,rfl,qw (s:={ s with heap:=h' }) e c d (by decide) ⟨x,H,I1,ru,⟨rfl,fun ys hy=>by rw[I.zA hy hq];exact hx⟩,aT,fun b hb=>(hf b hb).1⟩⟩
 done:=by
  intro X hP hw hK hc i pins s σ H E I hf st hg
  subst hP hw hK
  obtain ⟨xs,hq,hx⟩:=hg
  obtain ⟨its,rv,p,hz⟩:=I.tuple hq
  obtain ⟨f0,f1,f2,f3,f4,f5⟩:=hf it (by simp)
  have hl:=rv.length
  exact wpAny_pyNext_tuple_end (I.ok.hd hc) st (show s.heap.IsTuple a its.toArray from p) (by simp;omega) fun h' eb=>⟨rfl,I.turned (t':=s.toks) (fun b o hb e=>eb b o hb e) f0 f1 f3 f4 f5⟩
 self:=fun _ _ _ _ _ st h=>wpAny_pyIter_tupleiter st h
theorem wm {P:Program} {w:World} {K:PySem.W.Frag} {tg:Expr} (it:Addr) (lo:Int) (n:Nat):Turn P w K tg (Ht lo n) [it] it (fun i h=>IsRangeIter h it (lo+(i:Nat)*1) ((n:Int) - (i:Nat)) 1) where
 mem:=by simp
 obj:=fun i h st b hb=>by
  have e:b=it:=by simpa using hb
  subst e
  exact ⟨_,st,fun v z=>by
   have z':Data.fields _=Data.cell v:=z
   cases z'⟩
 keep:=fun i h h' st k=>k it (by simp) _ st
 item:=by
  intro X hP hw hK hc i pins s σ H E I hf st hg
  subst hP hw hK
  obtain ⟨f0,f1,f2,f3,f4,f5⟩:=hf it (by simp)
  have W:=Walks.range (prog:=X.prog) (w:=X.w) (I.ok.hd hc) it lo 1 n
  refine W.item i s _ _ hg st fun v h' tk hv aT kk=>?_
  obtain ⟨t,rfl⟩:=hv
  have I1:Inv X pins σ H { s with heap:=h',toks:=tk }:=I.turned (fun b o hb e=>kk b o (by simpa using hb) e) f0 f1 f3 f4 f5
  refine ⟨_,rfl,qw (s:={ s with heap:=h',toks:=tk }) (n:="range_iterator") aT rfl rfl (by decide) ⟨.int (lo+i),H,I1,⟨t,?_⟩,⟨rfl,rfl⟩,aT,fun b hb=>(hf b hb).1⟩⟩
  rw[Int.mul_one]
 done:=by
  intro X hP hw hK hc i pins s σ H E I hf st hg
  subst hP hw hK
  obtain ⟨f0,f1,f2,f3,f4,f5⟩:=hf it (by simp)
  exact wpAny_pyNext_range_end (I.ok.hd hc) st (by have:n<=i:=hg;omega) fun h' eb=>⟨rfl,I.turned (t':=s.toks) (fun b o hb e=>eb b o hb e) f0 f1 f3 f4 f5⟩
 self:=fun _ _ _ _ _ st h=>wpAny_pyIter_rangeiter st h
end L2
namespace L2
open PySem PySem.Spec PyProof.Rows
section
variable {X:Cx} {tg:Expr}
noncomputable def FY (K:PySem.W.Frag) (tl:TE):TI:=fun σ H R=>tl σ H fun x H1=> ∃a,x= .ref a/\(∃xs,bt K H1 a xs)/\R (Kb K a) H1
noncomputable def K7 (K:PySem.W.Frag) (tl:TE):TI:=fun σ H R=>tl σ H fun x H1=> ∃a,x= .ref a/\(∃xs,bp K H1 a xs)/\R (Kc K a) H1
theorem Dy {l:Expr} {tl:TE} (hl:PE X l tl):PI X tg l (FY X.K tl):=by
 intro pins s σ H R I h
 refine aS (hl pins s σ H _ I h) fun v s1 ⟨x,H1,I1,r1,q1⟩=>?_
 obtain ⟨a,e,⟨xs,hq⟩,q⟩:=q1
 subst e
 cases r1
 obtain ⟨its,rv,p,hz⟩:=I1.list hq
 refine wpAny_pyIter_list p.isList ?_
 refine ⟨s1.heap.objs.size,[s1.heap.objs.size],_,_,H1,rfl,I1.kept (t':=s1.toks) fun b o e=>Heap.get?_push_of_some _ e,zB a _,⟨_,Heap.get?_push_size _ rfl,rfl,rfl⟩,fun b hb=>?_,q⟩
 have e:b=s1.heap.objs.size:=by simpa using hb
 subst e
 exact I1.lj (Nat.le_refl _) (I1.a_.fresh (Nat.le_refl _))
theorem Hu {l:Expr} {tl:TE} (hl:PE X l tl):PI X tg l (K7 X.K tl):=by
 intro pins s σ H R I h
 refine aS (hl pins s σ H _ I h) fun v s1 ⟨x,H1,I1,r1,q1⟩=>?_
 obtain ⟨a,e,⟨xs,hq⟩,q⟩:=q1
 subst e
 cases r1
 obtain ⟨its,rv,p,hz⟩:=I1.tuple hq
 refine wpAny_pyIter_tuple (show s1.heap.IsTuple a its.toArray from p) ?_
 refine ⟨s1.heap.objs.size,[s1.heap.objs.size],_,_,H1,rfl,I1.kept (t':=s1.toks) fun b o e=>Heap.get?_push_of_some _ e,wj a _,⟨_,Heap.get?_push_size _ rfl,rfl,rfl⟩,fun b hb=>?_,q⟩
 have e:b=s1.heap.objs.size:=by simpa using hb
 subst e
 exact I1.lj (Nat.le_refl _) (I1.a_.fresh (Nat.le_refl _))
theorem Bk {pins:List (Addr×Obj)} {σ:St} {H:Hp} {s:Shared} {R:It->Hp->Prop} {E:Value->Shared->Prop} {lo hi:Int} {t u v:Tok} {tk:Nat} (I:Inv X pins σ H s) (h1: -(2 ^ 62)<=lo) (h2:lo<2 ^ 62) (h3: -(2 ^ 62)<=hi) (h4:hi<2 ^ 62)
  (q:R (Ht lo (hi - lo).toNat) H):wpAny (model X.prog X.w) X.A (pyIter (.ref s.heap.objs.size)) (Vk X pins σ tg R) E { s with heap:=s.heap.push { cls:= .type "range",data:= .fields #[.int lo t, .int hi u, .int 1 v] },toks:=tk }:=by
 refine wpAny_pyIter_range (IsRange.new ..) (small_one h1 h2 h3 h4) ?_
 have I1:Inv X pins σ H { s with heap:=s.heap.push { cls:= .type "range",data:= .fields #[.int lo t, .int hi u, .int 1 v] },toks:=tk }:=I.kept fun b o e=>Heap.get?_push_of_some _ e
 refine ⟨(s.heap.push { cls:= .type "range",data:= .fields #[.int lo t, .int hi u, .int 1 v] }).objs.size,[(s.heap.push { cls:= .type "range",data:= .fields #[.int lo t, .int hi u, .int 1 v] }).objs.size],_,_,H,rfl,
  I1.kept (t':=tk) fun b o e=>Heap.get?_push_of_some _ e,wm _ lo (hi - lo).toNat,?_,fun b hb=>?_,q⟩
 ·have e1:lo+((0:Nat):Int)*1=lo:=by simp
  have e2:(((hi - lo).toNat:Nat):Int) - ((0:Nat):Int)=Builtin.Range.rangeSize lo hi 1:=by rw[rangeSize_one];split<;>omega
  show IsRangeIter _ _ (lo+((0:Nat):Int)*1) ((((hi - lo).toNat:Nat):Int) - ((0:Nat):Int)) 1
  rw[e1,e2]
  exact Heap.get?_push_size _ rfl
 ·have e:b=(s.heap.push { cls:= .type "range",data:= .fields #[.int lo t, .int hi u, .int 1 v] }).objs.size:=by simpa using hb
  subst e
  exact I1.lj (Nat.le_refl _) (I1.a_.fresh (Nat.le_refl _))
noncomputable def K8 (ta:TA):TI:=fun σ H R=>ta σ H fun vs H1=> ∃j:Int,vs=[.int j]/\ -(2 ^ 62)<=j/\j<2 ^ 62/\R (Ht 0 j.toNat) H1
theorem cZ {a:Expr} {ta:TA} {p pos:Pos} (hg:Gl X "range") (hm:X.mg "range"=none) (ha:PA X [a] ta) (hs:starEach [a] X.env=[(false,eval a X.env)]:=by rfl):PI X tg (.Call (.Name "range" p) [a] [] pos) (K8 ta):=by
 intro pins s σ H R I h
 refine Call_ (iV I hg hm boot_range (PyProof.Rows.callWith_type1 (aS (ha pos pins s σ H _ I h) fun us s1 ⟨vs,H1,I1,r1,q1⟩=>?_) hs rfl))
 obtain ⟨j,e,q1,q2,q⟩:=q1
 subst e
 cases r1 with
 | cons r rr=>
  cases rr
  obtain ⟨t,rfl⟩:=r
  exact call_range_1 (Bk I1 (by omega) (by omega) q1 q2 (by simpa using q))
noncomputable def O8 (wi:TI) (g:TG) (tb:TS):TS:=fun D σ H=>wi σ H fun J H1=> ∃W:Nat->Nat->St->Hp->Prop,(∃m,W 0 m σ H1)/\ ∀i m σ H,W i m σ H->
 (J.stop i H/\D.nx σ H)\/(J.go i H/\ ∃N:St->Hp->Prop,(∀σ' H',N σ' H'-> ∃m',m'<m/\W (i+1) m' σ' H')/\ ∀x H',J.Bj i H x H'->g x σ H' fun σ2 H2=>tb { D with nx:=N,ct:=N,bk:=D.nx } σ2 H2)
noncomputable def jR (fp:List Addr) (h:Heap):List (Addr×Obj):=fp.filterMap fun b=>(h.get? b).map fun o=>(b,o)
theorem cU {fp:List Addr} {h:Heap} {b:Addr} {o:Obj} (hb:b∈fp) (e:h.get? b=some o):(b,o)∈jR fp h:=List.mem_filterMap.mpr ⟨b,hb,by rw[e];rfl⟩
theorem zC {fp:List Addr} {h:Heap} {p:Addr×Obj} (hp:p∈jR fp h):p.1∈fp/\h.get? p.1=some p.2:=by
 obtain ⟨b,hb,e⟩:=List.mem_filterMap.mp hp
 cases q:h.get? b with
 | none=>rw[q]at e;cases e
 | some o=>
  rw[q]at e
  have e':(b,o)=p:=Option.some.inj e
  subst e'
  exact ⟨hb,q⟩
theorem Inv.pinned {pins:List (Addr×Obj)} {σ:St} {H:Hp} {s:Shared} {fp:List Addr} (I:Inv X pins σ H s) (hf: ∀b∈fp,iw X pins H b) (ho: ∀b∈fp, ∃o,s.heap.get? b=some o/\ ∀v,o.data≠ .cell v):Inv X (pins++jR fp s.heap) σ H s:=
 I.iu fun p hp=>(List.mem_append.mp hp).elim (fun z=>I.pin p (List.mem_append_right _ z)) fun z=>by
  obtain ⟨hb,e⟩:=zC z
  obtain ⟨f0,f1,f2,_⟩:=hf p.1 hb
  obtain ⟨o,e',d⟩:=ho p.1 hb
  rw[e]at e';cases e'
  exact ⟨e,f0,f1,f2,d⟩
theorem Inv.fe {pins pl:List (Addr×Obj)} {σ:St} {H:Hp} {s:Shared} (I:Inv X (pins++pl) σ H s):Inv X pins σ H s:=I.iu fun p hp=>I.pin p (List.mem_append_right _ (List.mem_append_left _ hp))
theorem iy {iter:Expr} {body:List Stmt} {wi:TI} {g:TG} {tb:TS} {pos:Pos} (hp:PassesOwn (model X.prog X.w) X.A X.env X.xe) (hc:X.calm=true) (hi:PI X tg iter wi) (hg:PG X tg g) (hb:rH X body tb)
  (hs: ∀x,foldedSetIterable iter X.env x=pure x:=by intro _;rfl):PS X (.For tg iter body [] pos) (O8 wi g tb):=by
 intro pins s σ H D I h
 refine wpAny_For (aS (hi pins s σ H _ I h) fun v s1 h1=>aS h1 fun Oe s2 h2=>?_) hs
 obtain ⟨it,fp,tn,J,H2,e,I2,T,lb,f2,W,⟨m0,w0⟩,turn⟩:=h2
 subst e
 -- Hv stays true of Dz Hw objects through Dz loop
 have Hy: ∀{H':Hp},(∀b∈fp,H' b=none)-> ∀b∈fp,iw X pins H' b:=fun hn b hb=>⟨hn b hb,(f2 b hb).2⟩
 refine codeAny_forLoop_any (fun n s'=> ∃i σ' H',Inv X pins σ' H' s'/\tn i s'.heap/\(∀b∈fp,H' b=none)/\W i n σ' H') ?_ m0 ⟨0,σ,H2,I2,lb,fun b hb=>(f2 b hb).1,w0⟩
 rintro n s3 ⟨i,σ3,H3,I3,ui,FZ,w3⟩
 rcases turn i n σ3 H3 w3 with ⟨stop,qn⟩ | ⟨go,N,hN,step⟩
 ·refine wpAny_passesOwn hp (aS (T.done X rfl rfl rfl hc i pins s3 σ3 H3 X.xe I3 (Hy FZ) ui stop) fun r s4 ⟨hr,I4⟩=>?_)
  subst hr
  exact wpAny_execs_nil ⟨σ3,H3,I4,qn⟩
 ·refine wpAny_passesOwn hp (aS (T.item X rfl rfl rfl hc i pins s3 σ3 H3 X.xe I3 (Hy FZ) ui go) fun r s4 ⟨u,hr,h4⟩=>?_)
  subst hr
  refine wpAny_passesOwn hp (aS h4 fun _ s5 ⟨x,H5,I5,r5,y5,mY,K9⟩=>?_)
  have Kd:=I5.pinned (Hy K9) (T.obj _ _ mY)
  refine wpAny_passesOwn hp (aS (hg _ s5 σ3 H5 x u _ Kd r5 (step x H5 y5)) fun _ s6 ⟨σ6,H6,I6,q6⟩=>?_)
  refine wpAny_passesOwn hp (aS (hb _ s6 σ6 H6 _ I6 q6) fun f s7 q7=>?_)
  have again: ∀{σ7:St} {H7:Hp},Inv X (pins++jR fp s5.heap) σ7 H7 s7->N σ7 H7-> ∃m,m<n/\ ∃i σ' H',Inv X pins σ' H' s7/\tn i s7.heap/\(∀b∈fp,H' b=none)/\W i m σ' H':=fun {σ7 H7} I7 n7=>by
   obtain ⟨m',hm,w7⟩:=hN σ7 H7 n7
   refine ⟨m',hm,i+1,σ7,H7,I7.fe,T.keep _ _ _ mY fun b hb o e=>(I7.pin (b,o) (List.mem_append_right _ (List.mem_append_right _ (cU hb e)))).1,fun b hb=>?_,w7⟩
   obtain ⟨o,e,d⟩:=T.obj _ _ mY b hb
   exact (I7.pin (b,o) (List.mem_append_right _ (List.mem_append_right _ (cU hb e)))).2.1
  cases f with
  | next=>obtain ⟨σ7,H7,I7,n7⟩:=q7;exact again I7 n7
  | cont=>obtain ⟨σ7,H7,I7,n7⟩:=q7;exact again I7 n7
  | brk=>obtain ⟨σ7,H7,I7,q7⟩:=q7;exact ⟨σ7,H7,I7.fe,q7⟩
  | ret v=>obtain ⟨x7,σ7,H7,I7,r7,q7⟩:=q7;exact ⟨x7,σ7,H7,I7.fe,r7,q7⟩
end
theorem uj {K:PySem.W.Frag} {a:Addr} {xs:List V} {g:TG} {tb:TS} {D:Ends} {σ:St} {H:Hp} (Pv:Nat->St->Hp->Prop) (h0:Pv 0 σ H) (hl: ∀i σ H,i<=xs.length->Pv i σ H->bt K H a xs)
  (hs: ∀i x σ H,xs[i]? =some x->Pv i σ H->g x σ H fun σ2 H2=>tb { D with nx:=Pv (i+1),ct:=Pv (i+1),bk:=D.nx } σ2 H2) (hd: ∀σ H,Pv xs.length σ H->D.nx σ H):
  ∃W:Nat->Nat->St->Hp->Prop,(∃m,W 0 m σ H)/\ ∀i m σ H,W i m σ H->
   ((Kb K a).stop i H/\D.nx σ H)\/((Kb K a).go i H/\ ∃N:St->Hp->Prop,(∀σ' H',N σ' H'-> ∃m',m'<m/\W (i+1) m' σ' H')/\ ∀x H',(Kb K a).Bj i H x H'->g x σ H' fun σ2 H2=>tb { D with nx:=N,ct:=N,bk:=D.nx } σ2 H2):=by
 refine ⟨fun i m σ H=>m=xs.length - i/\i<=xs.length/\Pv i σ H,⟨xs.length,by simp,Nat.zero_le _,h0⟩,?_⟩
 rintro i m σ H ⟨rfl,hi,p⟩
 have q:=hl i σ H hi p
 by_cases cG:i<xs.length
 ·refine .inr ⟨⟨xs,xs[i],q,by simp[cG]⟩,Pv (i+1),fun σ' H' p'=>⟨xs.length - (i+1),by omega,rfl,cG,p'⟩,fun x H' y=>?_⟩
  obtain ⟨e,y⟩:=y
  subst e
  exact hs i x σ _ (y xs q) p
 ·have e:i=xs.length:=by omega
  subst e
  exact .inl ⟨⟨xs,q,Nat.le_refl _⟩,hd σ H p⟩
theorem xV {K:PySem.W.Frag} {a:Addr} {xs:List V} {g:TG} {tb:TS} {D:Ends} {σ:St} {H:Hp} (Pv:Nat->St->Hp->Prop) (h0:Pv 0 σ H) (hl: ∀i σ H,i<=xs.length->Pv i σ H->bp K H a xs)
  (hs: ∀i x σ H,xs[i]? =some x->Pv i σ H->g x σ H fun σ2 H2=>tb { D with nx:=Pv (i+1),ct:=Pv (i+1),bk:=D.nx } σ2 H2) (hd: ∀σ H,Pv xs.length σ H->D.nx σ H):
  ∃W:Nat->Nat->St->Hp->Prop,(∃m,W 0 m σ H)/\ ∀i m σ H,W i m σ H->
   ((Kc K a).stop i H/\D.nx σ H)\/((Kc K a).go i H/\ ∃N:St->Hp->Prop,(∀σ' H',N σ' H'-> ∃m',m'<m/\W (i+1) m' σ' H')/\ ∀x H',(Kc K a).Bj i H x H'->g x σ H' fun σ2 H2=>tb { D with nx:=N,ct:=N,bk:=D.nx } σ2 H2):=by
 refine ⟨fun i m σ H=>m=xs.length - i/\i<=xs.length/\Pv i σ H,⟨xs.length,by simp,Nat.zero_le _,h0⟩,?_⟩
 rintro i m σ H ⟨rfl,hi,p⟩
 have q:=hl i σ H hi p
 by_cases cG:i<xs.length
 ·refine .inr ⟨⟨xs,xs[i],q,by simp[cG]⟩,Pv (i+1),fun σ' H' p'=>⟨xs.length - (i+1),by omega,rfl,cG,p'⟩,fun x H' y=>?_⟩
  obtain ⟨e,y⟩:=y
  subst e
  exact hs i x σ _ (y xs q) p
 ·have e:i=xs.length:=by omega
  subst e
  exact .inl ⟨⟨xs,q,Nat.le_refl _⟩,hd σ H p⟩
theorem qx {lo:Int} {n:Nat} {g:TG} {tb:TS} {D:Ends} {σ:St} {H:Hp} (Pv:Nat->St->Hp->Prop) (h0:Pv 0 σ H)
  (hs: ∀i σ H,i<n->Pv i σ H->g (.int (lo+i)) σ H fun σ2 H2=>tb { D with nx:=Pv (i+1),ct:=Pv (i+1),bk:=D.nx } σ2 H2) (hd: ∀σ H,Pv n σ H->D.nx σ H):
  ∃W:Nat->Nat->St->Hp->Prop,(∃m,W 0 m σ H)/\ ∀i m σ H,W i m σ H->
   ((Ht lo n).stop i H/\D.nx σ H)\/((Ht lo n).go i H/\ ∃N:St->Hp->Prop,(∀σ' H',N σ' H'-> ∃m',m'<m/\W (i+1) m' σ' H')/\ ∀x H',(Ht lo n).Bj i H x H'->g x σ H' fun σ2 H2=>tb { D with nx:=N,ct:=N,bk:=D.nx } σ2 H2):=by
 refine ⟨fun i m σ H=>m=n - i/\i<=n/\Pv i σ H,⟨n,by simp,Nat.zero_le _,h0⟩,?_⟩
 rintro i m σ H ⟨rfl,hi,p⟩
 by_cases cG:i<n
 ·refine .inr ⟨cG,Pv (i+1),fun σ' H' p'=>⟨n - (i+1),by omega,rfl,cG,p'⟩,fun x H' y=>?_⟩
  obtain ⟨e,y⟩:=y
  subst e y
  exact hs i σ _ cG p
 ·have e:i=n:=by omega
  subst e
  exact .inl ⟨Nat.le_refl _,hd σ H p⟩
end L2
namespace L2
open PySem PySem.Spec PyProof.Rows
noncomputable abbrev R2:=V->V->Hp->VK->Prop
noncomputable def ik (X:Cx) (f:Value->Value->Sem Value) (r:R2):Prop:=
 ∀(pins:List (Addr×Obj)) (s:Shared) (σ:St) (H:Hp) (x y:V) (v u:Value) (Q:VK),Inv X pins σ H s->RelV x v->RelV y u->r x y H Q->
  wpAny (model X.prog X.w) X.A (f v u) (EP X pins σ Q) X.xe s
noncomputable def O9 (X:Cx) (f:Value->Sem Value) (r:V->Hp->VK->Prop):Prop:=
 ∀(pins:List (Addr×Obj)) (s:Shared) (σ:St) (H:Hp) (x:V) (v:Value) (Q:VK),Inv X pins σ H s->RelV x v->r x H Q->
  wpAny (model X.prog X.w) X.A (f v) (EP X pins σ Q) X.xe s
noncomputable def cL (X:Cx) (f:Value) (r:List V->Hp->VK->Prop):Prop:=
 ∀(pins:List (Addr×Obj)) (s:Shared) (σ:St) (H:Hp) (xs:List V) (us:List Value) (Q:VK),Inv X pins σ H s->Vals xs us->r xs H Q->
  wpAny (model X.prog X.w) X.A (call f us) (EP X pins σ Q) X.xe s
noncomputable def O_ (X:Cx) (r:V->Hp->(Bool->Hp->Prop)->Prop):Prop:=
 ∀(pins:List (Addr×Obj)) (s:Shared) (σ:St) (H:Hp) (x:V) (v:Value) (Q:Bool->Hp->Prop),Inv X pins σ H s->RelV x v->r x H Q->
  wpAny (model X.prog X.w) X.A (truthy v) (TP X pins σ Q) X.xe s
noncomputable def Of (r:R2) (ta tb:TE):TE:=fun σ H Q=>ta σ H fun x H1=>tb σ H1 fun y H2=>r x y H2 Q
noncomputable def Xy (r:V->Hp->VK->Prop) (ta:TE):TE:=fun σ H Q=>ta σ H fun x H1=>r x H1 Q
noncomputable def rI (C:Int->Int->Prop) (g:Int->Int->V):R2:=fun x y H Q=> ∃i j,x= .int i/\y= .int j/\C i j/\Q (g i j) H
noncomputable def DA (g:Int->Int->V):R2:=fun x y H Q=> ∃i j,x= .int i/\y= .int j/\Q (g i j) H
noncomputable def rU (g:Int->V):V->Hp->VK->Prop:=fun x H Q=> ∃i,x= .int i/\Q (g i) H
section
variable {X:Cx} {a b c:Expr} {ta tb tc:TE} {pos:Pos}
theorem Hz (ha:PE X a ta) (hb:PE X b tb) {pins:List (Addr×Obj)} {s:Shared} {σ:St} {H:Hp} {R:V->V->Hp->Prop} (I:Inv X pins σ H s)
  (h:ta σ H fun x H1=>tb σ H1 fun y H2=>R x y H2) {Q:Value->Shared->Prop} {f:Value->Value->Sem Value}
  (hf: ∀v u s2 x y H2,Inv X pins σ H2 s2->RelV x v->RelV y u->R x y H2->wpAny (model X.prog X.w) X.A (f v u) Q X.xe s2):
  wpAny (model X.prog X.w) X.A (eval a X.env) (fun v s₁=>wpAny (model X.prog X.w) X.A (eval b X.env) (fun u s₂=>wpAny (model X.prog X.w) X.A (f v u) Q X.xe s₂) X.xe s₁) X.xe s:=by
 refine aS (ha pins s σ H _ I h) fun v s1 ⟨x,H1,I1,r1,q1⟩=>?_
 refine aS (hb pins s1 σ H1 _ I1 q1) fun u s2 ⟨y,H2,I2,r2,q2⟩=>?_
 exact hf v u s2 x y H2 I2 r1 r2 q2
theorem aN {op:Operator} {r:R2} (ho:ik X (binaryOp op) r) (ha:PE X a ta) (hb:PE X b tb):PE X (.BinOp a op b pos) (Of r ta tb):=by
 intro pins s σ H Q I h
 exact wpAny_BinOp (Hz ha hb I h fun v u s2 x y H2 I2 rx ry q=>ho pins s2 σ H2 x y v u Q I2 rx ry q)
theorem Bl {op:UnaryOp} {r:V->Hp->VK->Prop} (ho:O9 X (unaryOp op) r) (ha:PE X a ta):PE X (.UnaryOp op a pos) (Xy r ta):=by
 intro pins s σ H Q I h
 exact UnaryOp_ (aS (ha pins s σ H _ I h) fun v s1 ⟨x,H1,I1,r1,q1⟩=>ho pins s1 σ H1 x v Q I1 r1 q1)
theorem Og {f:Value->Value->Sem Value} {C:Int->Int->Prop} {g:Int->Int->Int}
  (rule: ∀(i j:Int) (t u:Tok) (s:Shared) (Q:Value->Shared->Prop) (E:Value->Shared->Prop),C i j->Q (.int (g i j) s.toks) { s with toks:=s.toks+1 }->wpAny (model X.prog X.w) X.A (f (.int i t) (.int j u)) Q E s):
  ik X f (rI C fun i j=> .int (g i j)):=by
 intro pins s σ H x y v u Q I rx ry h
 obtain ⟨i,j,rfl,rfl,hc,q⟩:=h
 obtain ⟨t,rfl⟩:=rx
 obtain ⟨t',rfl⟩:=ry
 exact rule i j t t' s _ _ hc ⟨.int (g i j),H,I.tok _,⟨_,rfl⟩,q⟩
theorem K_ {f:Value->Value->Sem Value} {g:Int->Int->Int}
  (rule: ∀(i j:Int) (t u:Tok) (s:Shared) (Q:Value->Shared->Prop) (E:Value->Shared->Prop),Q (.int (g i j) s.toks) { s with toks:=s.toks+1 }->wpAny (model X.prog X.w) X.A (f (.int i t) (.int j u)) Q E s):
  ik X f (DA fun i j=> .int (g i j)):=by
 intro pins s σ H x y v u Q I rx ry h
 obtain ⟨i,j,rfl,rfl,q⟩:=h
 obtain ⟨t,rfl⟩:=rx
 obtain ⟨t',rfl⟩:=ry
 exact rule i j t t' s _ _ ⟨.int (g i j),H,I.tok _,⟨_,rfl⟩,q⟩
theorem DB {f:Value->Value->Sem Value} {g:Int->Int->Bool}
  (rule: ∀(i j:Int) (t u:Tok) (s:Shared) (Q:Value->Shared->Prop) (E:Value->Shared->Prop),Q (.bool (g i j)) s->wpAny (model X.prog X.w) X.A (f (.int i t) (.int j u)) Q E s):
  ik X f (DA fun i j=> .bl (g i j)):=by
 intro pins s σ H x y v u Q I rx ry h
 obtain ⟨i,j,rfl,rfl,q⟩:=h
 obtain ⟨t,rfl⟩:=rx
 obtain ⟨t',rfl⟩:=ry
 exact rule i j t t' s _ _ ⟨.bl (g i j),H,I,rfl,q⟩
noncomputable def Pa (i j:Int):Prop:=0<j/\j<1073741824
noncomputable def Pb (i j:Int):Prop:=0<=j/\j<=1000000/\i.natAbs<2 ^ 64
noncomputable def HA (i j:Int):Prop:=(-(2 ^ 64)<i/\i<2 ^ 64)\/(-(2 ^ 64)<j/\j<2 ^ 64)
theorem HA.ok {i j:Int} (h:HA i j):IntMulOk i j:=by
 rcases h with ⟨h1,h2⟩ | ⟨h1,h2⟩
 ·exact .of_left (intBits_le_64 h1 h2)
 ·exact .of_right (intBits_le_64 h1 h2)
theorem bG:ik X (binaryOp .Add) (DA fun i j=> .int (i+j)):=K_ fun _ _ _ _ _ _ _ q=>add_int q
theorem iz:ik X (binaryOp .Sub) (DA fun i j=> .int (i - j)):=K_ fun _ _ _ _ _ _ _ q=>sub_int q
theorem lr:ik X (binaryOp .Mult) (rI HA fun i j=> .int (i*j)):=Og fun _ _ _ _ _ _ _ hc q=>mul_int q hc.ok
theorem xW:ik X (binaryOp .FloorDiv) (rI Pa fun i j=> .int (i / j)):=Og fun i j _ _ _ _ _ hc q=>by
 have h1:(0:Int)<j:=hc.1
 have h2:j<1073741824:=hc.2
 exact floordiv_int (by omega) (by rw[Int.fdiv_eq_ediv_of_nonneg i (by omega)];exact q) (.inl (PyProof.noPylong_small (by omega)))
theorem gB:ik X (binaryOp .Mod) (rI (fun _ j=>0<j) fun i j=> .int (i%j)):=Og fun i j _ _ _ _ _ hc q=>by
 have h1:(0:Int)<j:=hc
 exact mod_int' (by omega) (by rw[Int.fmod_eq_emod_of_nonneg i (by omega)];exact q)
theorem Bm:ik X (binaryOp .Pow) (rI Pb fun i j=> .int (i ^ j.toNat)):=Og fun _ _ _ _ _ _ _ hc q=>pow_int_small hc.1 hc.2.1 hc.2.2 q
theorem Xz {f:Value->Sem Value} {g:Int->Int}
  (rule: ∀(i:Int) (t:Tok) (s:Shared) (Q:Value->Shared->Prop) (E:Value->Shared->Prop),Q (.int (g i) s.toks) { s with toks:=s.toks+1 }->wpAny (model X.prog X.w) X.A (f (.int i t)) Q E s):
  O9 X f (rU fun i=> .int (g i)):=by
 intro pins s σ H x v Q I rx h
 obtain ⟨i,rfl,q⟩:=h
 obtain ⟨t,rfl⟩:=rx
 exact rule i t s _ _ ⟨.int (g i),H,I.tok _,⟨_,rfl⟩,q⟩
theorem wo:O9 X (unaryOp .USub) (rU fun i=> .int (-i)):=Xz fun _ _ _ _ _ q=>neg_int q
end
noncomputable def La:V->V->Bool
 | .cT, .cT=>true | .cT, .int _=>true | .int _, .cT=>true | .cT, .bl _=>true | .bl _, .cT=>true | .cT, .str _=>true | .str _, .cT=>true
 | .int _, .int _=>true | .bl _, .bl _=>true | .str _, .str _=>true | .xS _, .xS _=>true
 | .int _, .str _=>true | .str _, .int _=>true | .bl _, .str _=>true | .str _, .bl _=>true
 | _,_=>false
noncomputable def XA:R2:=fun x y H Q=>La x y=true/\Q (.bl (decide (x=y))) H
noncomputable def XB:R2:=fun x y H Q=>La x y=true/\Q (.bl (!decide (x=y))) H
theorem xX {i j:Int}:decide (V.int i=V.int j)=(i==j):=by
 rw[Bool.eq_iff_iff]
 simp
theorem Bn {i j:Bool}:decide (V.bl i=V.bl j)=(i==j):=by
 rw[Bool.eq_iff_iff]
 simp
theorem xY {i j:Str}:decide (V.str i=V.str j)=(i==j):=by
 rw[Bool.eq_iff_iff]
 simp
theorem xZ {i j:Array UInt8}:decide (V.xS i=V.xS j)=(i.toList==j.toList):=by
 rw[Bool.eq_iff_iff]
 cases i
 cases j
 simp
section
variable {X:Cx} {a b c:Expr} {ta tb tc:TE} {pos:Pos}
theorem br {pins:List (Addr×Obj)} {σ:St} {H:Hp} {s:Shared} {Q:VK} {k k':Bool} (I:Inv X pins σ H s) (q:Q (.bl k) H) (e:k=k'):EP X pins σ Q (.bool k') s:=by
 subst e
 exact ⟨.bl k,H,I,rfl,q⟩
theorem F_:ik X (compareOp .Eq) XA:=by
 intro pins s σ H x y v u Q I rx ry h
 obtain ⟨hs,q⟩:=h
 cases x with
 | cT=>
  cases rx
  cases y with
  | cT=>cases ry;exact PySem.EqNone.eq_none_none (br I q (by simp))
  | bl j=>cases ry;exact PySem.EqNone.eq_none_bool (br I q (by simp))
  | int j=>obtain ⟨t',rfl⟩:=ry;exact PySem.EqNone.eq_none_int (br I q (by simp))
  | str j=>obtain ⟨t',rfl⟩:=ry;exact PySem.EqNone.eq_none_str (br I q (by simp))
  | _=>exact absurd (show false=true from hs) Bool.false_ne_true
 | bl i=>
  cases rx
  cases y with
  | cT=>cases ry;exact PySem.EqNone.eq_bool_none (br I q (by simp))
  | bl j=>cases ry;exact eq_bool (br I q Bn)
  | str j=>obtain ⟨t',rfl⟩:=ry;exact PySem.EqMixed.eq_bool_str (br I q (by simp))
  | _=>exact absurd (show false=true from hs) Bool.false_ne_true
 | int i=>
  obtain ⟨t,rfl⟩:=rx
  cases y with
  | cT=>cases ry;exact PySem.EqNone.eq_int_none (br I q (by simp))
  | int j=>obtain ⟨t',rfl⟩:=ry;exact eq_int (br I q xX)
  | str j=>obtain ⟨t',rfl⟩:=ry;exact PySem.EqMixed.eq_int_str (br I q (by simp))
  | _=>exact absurd (show false=true from hs) Bool.false_ne_true
 | str i=>
  obtain ⟨t,rfl⟩:=rx
  cases y with
  | cT=>cases ry;exact PySem.EqNone.eq_str_none (br I q (by simp))
  | bl j=>cases ry;exact PySem.EqMixed.eq_str_bool (br I q (by simp))
  | int j=>obtain ⟨t',rfl⟩:=ry;exact PySem.EqMixed.eq_str_int (br I q (by simp))
  | str j=>obtain ⟨t',rfl⟩:=ry;exact eq_str (br I q xY)
  | _=>exact absurd (show false=true from hs) Bool.false_ne_true
 | xS i=>
  obtain ⟨t,rfl⟩:=rx
  cases y with
  | xS j=>obtain ⟨t',rfl⟩:=ry;exact PySem.W.eq_bytes (br I q xZ)
  | _=>exact absurd (show false=true from hs) Bool.false_ne_true
 | _=>cases y<;>exact absurd (show false=true from hs) Bool.false_ne_true
theorem Lb:ik X (compareOp .NotEq) XB:=by
 intro pins s σ H x y v u Q I rx ry h
 obtain ⟨hs,q⟩:=h
 cases x with
 | cT=>
  cases rx
  cases y with
  | cT=>cases ry;exact PySem.EqNone.ne_none_none (br I q (by simp))
  | bl j=>cases ry;exact PySem.EqNone.ne_none_bool (br I q (by simp))
  | int j=>obtain ⟨t',rfl⟩:=ry;exact PySem.EqNone.ne_none_int (br I q (by simp))
  | str j=>obtain ⟨t',rfl⟩:=ry;exact PySem.EqNone.ne_none_str (br I q (by simp))
  | _=>exact absurd (show false=true from hs) Bool.false_ne_true
 | bl i=>
  cases rx
  cases y with
  | cT=>cases ry;exact PySem.EqNone.ne_bool_none (br I q (by simp))
  | bl j=>cases ry;exact ne_bool (br I q (congrArg not Bn))
  | str j=>obtain ⟨t',rfl⟩:=ry;exact PySem.EqMixed.ne_bool_str (br I q (by simp))
  | _=>exact absurd (show false=true from hs) Bool.false_ne_true
 | int i=>
  obtain ⟨t,rfl⟩:=rx
  cases y with
  | cT=>cases ry;exact PySem.EqNone.ne_int_none (br I q (by simp))
  | int j=>obtain ⟨t',rfl⟩:=ry;exact ne_int (br I q (congrArg not xX))
  | str j=>obtain ⟨t',rfl⟩:=ry;exact PySem.EqMixed.ne_int_str (br I q (by simp))
  | _=>exact absurd (show false=true from hs) Bool.false_ne_true
 | str i=>
  obtain ⟨t,rfl⟩:=rx
  cases y with
  | cT=>cases ry;exact PySem.EqNone.ne_str_none (br I q (by simp))
  | bl j=>cases ry;exact PySem.EqMixed.ne_str_bool (br I q (by simp))
  | int j=>obtain ⟨t',rfl⟩:=ry;exact PySem.EqMixed.ne_str_int (br I q (by simp))
  | str j=>obtain ⟨t',rfl⟩:=ry;exact ne_str (br I q (congrArg not xY))
  | _=>exact absurd (show false=true from hs) Bool.false_ne_true
 | xS i=>
  obtain ⟨t,rfl⟩:=rx
  cases y with
  | xS j=>obtain ⟨t',rfl⟩:=ry;exact PySem.W.ne_bytes (br I q (congrArg not xZ))
  | _=>exact absurd (show false=true from hs) Bool.false_ne_true
 | _=>cases y<;>exact absurd (show false=true from hs) Bool.false_ne_true
theorem j8:ik X (compareOp .Lt) (DA fun i j=> .bl (decide (i<j))):=DB fun _ _ _ _ _ _ _ q=>lt_int q
theorem Ga:ik X (compareOp .LtE) (DA fun i j=> .bl (decide (i<=j))):=DB fun _ _ _ _ _ _ _ q=>le_int q
theorem qy:ik X (compareOp .Gt) (DA fun i j=> .bl (decide (j<i))):=DB fun _ _ _ _ _ _ _ q=>gt_int q
theorem Lc:ik X (compareOp .GtE) (DA fun i j=> .bl (decide (j<=i))):=DB fun _ _ _ _ _ _ _ q=>ge_int q
theorem zD:ik X (compareOp .In) (fun x y H Q=> ∃i j,x= .str i/\y= .str j/\Q (.bl (!(Builtin.Str.occurrences j i 0 j.length 1).isEmpty)) H):=by
 intro pins s σ H x y v u Q I rx ry h
 obtain ⟨i,j,rfl,rfl,q⟩:=h
 obtain ⟨t,rfl⟩:=rx
 obtain ⟨t',rfl⟩:=ry
 exact in_str (br I q rfl)
theorem jS:ik X (compareOp .Is) (fun x y H Q=>y= .cT/\Q (.bl (decide (x= .cT))) H):=by
 intro pins s σ H x y v u Q I rx ry h
 obtain ⟨rfl,q⟩:=h
 cases ry
 refine is_none_gen (br I q ?_)
 cases x<;>first
  |(cases rx;rfl)
  |(obtain ⟨t,rfl⟩:=rx;rfl)
theorem aL (b:Expr) {op:CmpOp} (h:op≠ .In:=by decide) (h2:op≠ .NotIn:=by decide):behindInMarks op b=false:=by
 have e1:(op==CmpOp.In)=false:=by cases op<;>first | rfl | exact absurd rfl h
 have e2:(op==CmpOp.NotIn)=false:=by cases op<;>first | rfl | exact absurd rfl h2
 cases b<;>simp[behindInMarks,e1,e2]
theorem rM {op:CmpOp} {r:R2} (ho:ik X (compareOp op) r) (ha:PE X a ta) (hb:PE X b tb) (hm:behindInMarks op b=false):PE X (.Compare a [op] [b] pos) (Of r ta tb):=by
 intro pins s σ H Q I h
 exact wpAny_Compare1 (Hz ha hb I h fun v u s2 x y H2 I2 rx ry q=>ho pins s2 σ H2 x y v u Q I2 rx ry q) hm
noncomputable def Ld (t:TE):TT:=fun σ H Q=>t σ H fun x H'=> ∃k,x= .bl k/\Q k H'
theorem az {op:CmpOp} {r:R2} (ho:ik X (compareOp op) r) (ha:PE X a ta) (hb:PE X b tb) (hm:behindInMarks op b=false):PT X (.Compare a [op] [b] pos) (Ld (Of r ta tb)):=by
 intro pins s σ H Q I h
 refine wpAny_isTrue_Compare1 (aS (ha pins s σ H _ I h) fun v s1 ⟨x,H1,I1,r1,q1⟩=>aS (hb pins s1 σ H1 _ I1 q1) fun u s2 ⟨y,H2,I2,r2,q2⟩=>
  aS (ho pins s2 σ H2 x y v u _ I2 r1 r2 q2) fun c s3 ⟨z,H3,I3,r3,k,e,q3⟩=>?_) hm
 subst e
 cases r3
 exact wpAny_truthy_bool ⟨H3,I3,q3⟩
noncomputable def HB (r r':R2) (ta tb tc:TE):TE:=fun σ H Q=>ta σ H fun x H1=>tb σ H1 fun y H2=>r x y H2 fun z H3=> ∃k,z= .bl k/\
 (if k=true then tc σ H3 fun w' H4=>r' y w' H4 Q else Q (.bl false) H3)
theorem Bo {op Pc:CmpOp} {r r':R2} (ho:ik X (compareOp op) r) (Dv:ik X (compareOp Pc) r') (ha:PE X a ta) (hb:PE X b tb) (hc:PE X c tc)
  (hm:lastMarks [op,Pc] [b,c]=false:=by with_unfolding_all rfl):PE X (.Compare a [op,Pc] [b,c] pos) (HB r r' ta tb tc):=by
 intro pins s σ H Q I h
 refine Compare_chain (aS (ha pins s σ H _ I h) fun v s1 ⟨x,H1,I1,r1,q1⟩=>chain_link (aS (hb pins s1 σ H1 _ I1 q1) fun u s2 ⟨y,H2,I2,r2,q2⟩=>
  aS (ho pins s2 σ H2 x y v u _ I2 r1 r2 q2) fun d s3 ⟨z,H3,I3,r3,k,e,q3⟩=>?_)) hm
 subst e
 cases r3
 refine wpAny_truthy_bool ?_
 cases k with
 | false=>exact ite_ff ⟨.bl false,H3,I3,rfl,q3⟩
 | true=>exact ite_tt (chain_last (aS (hc pins s3 σ H3 _ I3 q3) fun w' s4 ⟨z',H4,I4,r4,q4⟩=>Dv pins s4 σ H4 y z' u w' Q I4 r2 r4 q4))
noncomputable def Pd (K:PySem.W.Frag) (x:V) (H:Hp) (k:Bool):Prop:=
 match x with
 | .cT=>k=false
 | .bl b=>k=b
 | .int i=>k=(i != 0)
 | .str y=>y.length<=sizeLine/\k=((y.length:Int) != 0)
 | .xS y=>y.size<=sizeLine/\k=((y.size:Int) != 0)
 | .ref p=>(∃xs,bt K H p xs/\k=!xs.isEmpty)\/(∃xs,bp K H p xs/\k=!xs.isEmpty)\/ ∃kvs,H p=some (.dK kvs)/\k=!kvs.isEmpty
 | _=>False
theorem wq {κ:Type} {kvs:List (κ×V)} {vs:List (κ×Value)} (r:KV kvs vs):(!vs.isEmpty)=!kvs.isEmpty:=by
 cases r<;>rfl
theorem nB {xs:List V} {its:List Value} (r:Vals xs its):(!its.toArray.isEmpty)=!xs.isEmpty:=by
 cases r<;>simp
theorem ff:(sizeLine:Nat)<2 ^ 63:=by rw[sizeLine_eq];decide
theorem HC:O_ X (fun x H Q=> ∃k,Pd X.K x H k/\Q k H):=by
 intro pins s σ H x v Q I rx h
 obtain ⟨k,e,q⟩:=h
 have hl:=ff
 have hs:sizeLine=16777216:=sizeLine_eq
 cases x with
 | cT=>
  cases rx
  have e':k=false:=e
  subst e'
  exact truthy_none ⟨H,I,q⟩
 | bl b=>
  cases rx
  have e':k=b:=e
  subst e'
  exact wpAny_truthy_bool ⟨H,I,q⟩
 | int i=>
  obtain ⟨t,rfl⟩:=rx
  have e':k=(i != 0):=e
  subst e'
  exact PySem.P.truthy_int ⟨H,I,q⟩
 | str y=>
  obtain ⟨t,rfl⟩:=rx
  obtain ⟨hy,e'⟩:y.length<=sizeLine/\k=((y.length:Int) != 0):=e
  subst e'
  exact PySem.P.truthy_str (by omega) ⟨H,I.tok _,q⟩
 | xS y=>
  obtain ⟨t,rfl⟩:=rx
  obtain ⟨hy,e'⟩:y.size<=sizeLine/\k=((y.size:Int) != 0):=e
  subst e'
  exact PySem.W.truthy_bytes (by omega) ⟨H,I.tok _,q⟩
 | ref p=>
  cases rx
  have e':(∃xs,bt X.K H p xs/\k=!xs.isEmpty)\/(∃xs,bp X.K H p xs/\k=!xs.isEmpty)\/ ∃kvs,H p=some (.dK kvs)/\k=!kvs.isEmpty:=e
  rcases e' with ⟨xs,hx,e'⟩ | ⟨xs,hx,e'⟩ | ⟨kvs,hx,e'⟩
  ·subst e'
   obtain ⟨its,r,pl,hz⟩:=I.list hx
   have hlen:=r.length
   exact wpAny_truthy_list pl.isList (by simp only[List.size_toArray];omega) ⟨H,I.tok _,by rw[nB r];exact q⟩
  ·subst e'
   obtain ⟨its,r,pl,hz⟩:=I.tuple hx
   have hlen:=r.length
   exact truthy_tuple pl (by simp only[List.size_toArray];omega) ⟨H,I.tok _,by rw[nB r];exact q⟩
  ·subst e'
   obtain ⟨hz,hS,vs,r,m⟩:kvs.length<=sizeLine/\(p==sysModules)=false/\ ∃vs,KV kvs vs/\s.heap.DictOf (bB X.prog X.w) p vs:=I.a_ p _ hx
   have hlen:kvs.length=vs.length:=Paired.length r
   exact wpAny_truthy_dict hS m (by omega) ⟨H,I.tok _,by rw[wq r];exact q⟩
 | _=>exact (show False from e).elim
theorem wu:ik X (binaryOp .Add) (fun x y H Q=> ∃i j,x= .str i/\y= .str j/\i.length+j.length<=sizeLine/\Q (.str (i++j)) H):=by
 intro pins s σ H x y v u Q I rx ry h
 obtain ⟨i,j,rfl,rfl,hz,q⟩:=h
 obtain ⟨t,rfl⟩:=rx
 obtain ⟨t',rfl⟩:=ry
 exact add_str (fun t' tk=>⟨.str (i++j),H,I.tok _,⟨_,rfl⟩,q⟩) hz
theorem vals1 {x:V} {us:List Value} (r:Vals [x] us): ∃u,us=[u]/\RelV x u:=by
 cases r with
 | cons r1 r2=>cases r2;exact ⟨_,rfl,r1⟩
theorem vals2 {x y:V} {us:List Value} (r:Vals [x,y] us): ∃u w',us=[u,w']/\RelV x u/\RelV y w':=by
 cases r with
 | cons r1 r2=>
  cases r2 with
  | cons r3 r4=>cases r4;exact ⟨_,_,rfl,r1,r3⟩
theorem zE (hc:X.calm=true):cL X (.builtin "max") (fun xs H Q=> ∃i j,xs=[.int i, .int j]/\Q (.int (if j>i then j else i)) H):=by
 intro pins s σ H xs us Q I r h
 obtain ⟨i,j,rfl,q⟩:=h
 obtain ⟨u,w',rfl,⟨t,rfl⟩,⟨t',rfl⟩⟩:=vals2 r
 refine max_two_ints (I.ok.hd hc) fun h' tk k=>⟨_,H,I.kept k,?_,q⟩
 by_cases hj:j>i
 ·rw[if_pos hj,if_pos hj];exact ⟨_,rfl⟩
 ·rw[if_neg hj,if_neg hj];exact ⟨_,rfl⟩
theorem zF (hc:X.calm=true):cL X (.builtin "min") (fun xs H Q=> ∃i j,xs=[.int i, .int j]/\Q (.int (if j<i then j else i)) H):=by
 intro pins s σ H xs us Q I r h
 obtain ⟨i,j,rfl,q⟩:=h
 obtain ⟨u,w',rfl,⟨t,rfl⟩,⟨t',rfl⟩⟩:=vals2 r
 refine min_two_ints (I.ok.hd hc) fun h' tk k=>⟨_,H,I.kept k,?_,q⟩
 by_cases hj:j<i
 ·rw[if_pos hj,if_pos hj];exact ⟨_,rfl⟩
 ·rw[if_neg hj,if_neg hj];exact ⟨_,rfl⟩
theorem zG:cL X (.type "int") (fun xs H Q=>(∃i,xs=[.int i]/\Q (.int i) H)\/ ∃k,xs=[.bl k]/\Q (.int (if k then 1 else 0)) H):=by
 intro pins s σ H xs us Q I r h
 rcases h with ⟨i,rfl,q⟩ | ⟨k,rfl,q⟩
 ·obtain ⟨u,rfl,t,rfl⟩:=vals1 r
  exact call_int_int ⟨.int i,H,I,⟨_,rfl⟩,q⟩
 ·obtain ⟨u,rfl,r1⟩:=vals1 r
  cases r1
  exact call_int_bool ⟨.int (if k then 1 else 0),H,I.tok _,⟨_,rfl⟩,q⟩
theorem rN:cL X (.type "str") (fun xs H Q=> ∃i,xs=[.int i]/\i.natAbs.log2<1920/\Q (.str (toString i)) H):=by
 intro pins s σ H xs us Q I r h
 obtain ⟨i,rfl,hz,q⟩:=h
 obtain ⟨u,rfl,t,rfl⟩:=vals1 r
 exact PySem.P.str_of_int hz ⟨.str _,H,I.tok _,⟨_,rfl⟩,q⟩
end
end L2
namespace L2
open PySem PySem.Spec PyProof.Rows
structure HD (h:Heap) (x dx C:Addr) (mA:Str->Option Value):Prop where
 obj:h.get? x=some (PySem.W.instObj C dx)
 ns:h.Ns1 dx mA
 ne:dx≠x
theorem qA {h:Heap} {dx:Addr} {mA:Str->Option Value} (n:h.Ns1 dx mA): ∃od,h.get? dx=some od/\ ∀name,PySem.W.lookIn name od=some (mA name):=by
 obtain ⟨o,es,ep,ho,hd,hk,_,hm⟩:=n
 refine ⟨o,ho,fun name=>?_⟩
 have e:=hm name
 unfold nsFind findBy at e
 rw[<-Array.find?_toList]at e
 unfold PySem.W.lookIn
 rw[hd]
 dsimp only
 split
 ·rename_i y q
  rw[q]at e
  exact congrArg some e
 ·rename_i q
  rw[q]at e
  have a:es.toList.any (·.refKey)=false:=by
   rw[List.any_eq_false]
   intro y hy
   obtain ⟨z,t,wx⟩:=hk y (Array.mem_toList_iff.mp hy)
   simp[DictEntry.refKey,wx]
  have a': ¬es.toList.any (·.refKey)=true:=by rw[a];exact Bool.false_ne_true
  rw[if_neg a']
  exact congrArg some e
theorem HD.look {h:Heap} {x dx C:Addr} {mA:Str->Option Value} (I:HD h x dx C mA): ∃od,PySem.W.InstAt h x (PySem.W.instObj C dx) C (some od)/\ ∀name,PySem.W.lookIn name od=some (mA name):=
 let ⟨od,ho,hl⟩:=qA I.ns
 ⟨od,⟨I.obj,rfl,rfl,ho⟩,hl⟩
section
variable {prog:Program} {w:World} {A:Around} {E:Value->Shared->Prop} {s:Shared} {K:PySem.W.Frag} {x dx C f:Addr} {mA:Str->Option Value} {name:Str} {v:Value}
end
noncomputable def mG (f:Str) (v:V):List (Str×V)->List (Str×V)
 | []=>[(f,v)]
 |(g,x)::r=>if g=f then (g,v)::r else (g,x)::mG f v r
theorem lZ (f g:Str) (v:V): ∀fs:List (Str×V),(mG f v fs).lookup g=if g=f then some v else fs.lookup g
 | []=>by
  show List.lookup g [(f,v)]=_
  by_cases h:g=f
  ·have hb:(g==f)=true:=beq_iff_eq.mpr h
   simp only[List.lookup,hb,if_pos h]
  ·have hb:(g==f)=false:=beq_eq_false_iff_ne.mpr h
   simp only[List.lookup,hb,if_neg h]
 |(k,x)::r=>by
  have ih:=lZ f g v r
  rw[show mG f v ((k,x)::r)=(if k=f then (k,v)::r else (k,x)::mG f v r) from rfl]
  by_cases hk:k=f
  ·rw[if_pos hk]
   by_cases h:g=k
   ·have hb:(g==k)=true:=beq_iff_eq.mpr h
    simp only[List.lookup,hb,if_pos (h.trans hk)]
   ·have hb:(g==k)=false:=beq_eq_false_iff_ne.mpr h
    simp only[List.lookup,hb,if_neg (fun e:g=f=>h (e.trans hk.symm))]
  ·rw[if_neg hk]
   by_cases h:g=k
   ·have hb:(g==k)=true:=beq_iff_eq.mpr h
    simp only[List.lookup,hb,if_neg (fun e:g=f=>hk (h.symm.trans e))]
   ·have hb:(g==k)=false:=beq_eq_false_iff_ne.mpr h
    simp only[List.lookup,hb]
    exact ih
theorem lz (f:Str) (v:V): ∀fs:List (Str×V),f∈(mG f v fs).map (·.1)/\ ∀g,g∈fs.map (·.1)->g∈(mG f v fs).map (·.1)
 | []=>⟨by simp[mG],fun g h=>by simp at h⟩
 |(k,x)::r=>by
  obtain ⟨i1,i2⟩:=lz f v r
  rw[show mG f v ((k,x)::r)=(if k=f then (k,v)::r else (k,x)::mG f v r) from rfl]
  by_cases hk:k=f
  ·rw[if_pos hk]
   subst hk
   exact ⟨by simp,fun g h=>by simpa using h⟩
  ·rw[if_neg hk]
   refine ⟨?_,fun g h=>?_⟩
   ·rw[List.map_cons]
    exact List.mem_cons_of_mem _ i1
   ·rw[List.map_cons]at h ⊢
    rcases List.mem_cons.mp h with e | e
    ·exact List.mem_cons.mpr (.inl e)
    ·exact List.mem_cons_of_mem _ (i2 g e)
theorem ip.some_of {v:V} {o:Option Value} (r:ip (some v) o): ∃u,o=some u/\RelV v u:=by
 cases o with
 | none=>exact (show False from r).elim
 | some u=>exact ⟨u,rfl,r⟩
theorem zH {v:V} {u:Value} (r:RelV v u):PySem.W.handedIn u=true:=by
 cases v with
 | cT=>cases (show u=Value.none from r);rfl
 | bl b=>cases (show u=Value.bool b from r);rfl
 | int i=>obtain ⟨t,e⟩:=(show ∃t,u=Value.int i t from r);cases e;rfl
 | str x=>obtain ⟨t,e⟩:=(show ∃t,u=Value.str x t from r);cases e;rfl
 | xS b=>obtain ⟨t,e⟩:=(show ∃t,u=Value.bytes b t from r);cases e;rfl
 | Hf b=>obtain ⟨t,e⟩:=(show ∃t,u=Value.float b t from r);cases e;rfl
 | ref a=>cases (show u=Value.ref a from r);rfl
 | ty n=>cases (show u=Value.type n from r);rfl
section
variable {P:Program} {w:World} {H H':Hp} {h h':Heap} {a C dx:Addr} {fs Xr:List (Str×V)}
theorem DC (a_:iq P w H h) (e:H a=some (.ins C dx fs)): ∃mA,HD h a dx C mA/\(∀f,ip (fs.lookup f) (mA f))/\PySem.Within mA (fs.map (·.1))/\fs.length<=1000/\H dx=some (.own a):=by
 obtain ⟨d,z,ne,ob,mA,n,r,q⟩:=(show bI P w H h a (.ins C dx fs) from a_ a _ e)
 exact ⟨mA,⟨ob,n,ne⟩,r,q,z,d⟩
end
structure Pe (K:PySem.W.Frag) (C:Addr):Prop where
 pg:PySem.W.plainGet K C Str.empty=true
 hd:PySem.W.hasDictIn K C=true
 po:PySem.W.plainOver K C=true
 sa:PySem.W.findIn K (.ref C) "__setattr__"=some (some (.builtin "object.__setattr__"))
theorem Pe.get {K:PySem.W.Frag} {C:Addr} (c:Pe K C) (f:Str):PySem.W.plainGet K C f=true:=c.pg
noncomputable def wy (K:PySem.W.Frag) (C:Addr) (f:Str):Prop:=PySem.W.findIn K (.ref C) f=some none
structure Con (K:PySem.W.Frag) (C:Addr) (f:Str) (v:V) (u:Value):Prop where
 at_:PySem.W.findIn K (.ref C) f=some (some u)
 rel:RelV v u
 get:PySem.W.specialIn K u "__get__"=some none
 cp:PySem.W.copiedNames.contains f=false
structure Meth (K:PySem.W.Frag) (C:Addr) (m:Str) (f:Addr):Prop where
 at_:PySem.W.findIn K (.ref C) m=some (some (.ref f))
 fn:PySem.W.isFn K (.ref f)=true
 kp:PySem.W.keepIn K (.ref f)=true
section
variable {X:Cx} {pins:List (Addr×Obj)} {σ:St} {H:Hp} {s:Shared} {a C dx:Addr} {fs:List (Str×V)} {f:Str} {v:V} {A:Around} {E:Value->Shared->Prop}
theorem DD {prog:Program} {w:World} {env:Env} {e:Expr} {f:Str} {pos:Pos} {s:Shared} {Q:Value->Shared->Prop} (hb:attributeBase e f env (eval e env)=eval e env)
  (h:wpAny (model prog w) A (eval e env) (fun o s₁=>wpAny (model prog w) A (getAttr o f true) Q E s₁) E s):wpAny (model prog w) A (eval (.Attribute e f pos) env) Q E s:=
 Attribute_any_ h (by rw[arm_eval_Attribute,hb])
end
section
variable {X:Cx} {o e value:Expr} {f:Str} {pos pos' Le:Pos} {ta tv:TE}
end
section
variable {X:Cx} {pins:List (Addr×Obj)} {σ:St} {H:Hp} {s:Shared} {A:Around} {E:Value->Shared->Prop} {Q:Value->Shared->Prop} {c:Value} {b:Bool}
inductive mH (K:PySem.W.Frag) (H:Hp):V->Value->Prop where
 | cT:mH K H .cT (.type "NoneType")
 | bl (x:Bool):mH K H (.bl x) (.type "bool")
 | int (i:Int):mH K H (.int i) (.type "int")
 | str (x:Str):mH K H (.str x) (.type "str")
 | Hf (x:UInt64):mH K H (.Hf x) (.type "float")
 | lst {a:Addr} {xs:List V} (e:H a=some (.lst xs)):mH K H (.ref a) (.type "list")
 | wc {a:Addr} {o:Obj} {xs:List V} (e:H a=some (.wc o (.lst xs))):mH K H (.ref a) (.type "list")
 | tup {a:Addr} {xs:List V} (e:H a=some (.tup xs)):mH K H (.ref a) (.type "tuple")
 | dK {a:Addr} {kvs:List (Key×V)} (e:H a=some (.dK kvs)):mH K H (.ref a) (.type "dict")
 | dT {a:Addr} {kvs:List (List Key×V)} (e:H a=some (.dT kvs)):mH K H (.ref a) (.type "dict")
 | ins {a C dx:Addr} {fs:List (Str×V)} (e:H a=some (.ins C dx fs)) (cl:Pe K C) (ha:PySem.W.findIn K (.ref C) "__class__"=some (some (.builtin "object.__class__")))
   (hn:PySem.W.specialIn K (.builtin "object.__class__") "__get__"=some (some (.builtin "getset_descriptor.__get__"))) (Vl:PySem.W.takesIn K (.builtin "object.__class__")=some true)
   (hm:PySem.W.mroIn K C (.type "object")=some true):mH K H (.ref a) (.ref C)
theorem g7 {x:V} {u t:Value} (I:Inv X pins σ H s) (rx:RelV x u) (ty:mH X.K H x t) (e:PySem.W.kitOne X.K t c=some b) (h: ∀tk,Q (.bool b) { s with toks:=tk }):
  wpAny (model X.prog X.w) A (call (.builtin "isinstance") [u,c]) Q E s:=by
 cases ty with
 | cT=>cases (show u=Value.none from rx);exact PySem.W.kia_one PySem.W.kitx_none I.iU True.intro e (fun z=>nomatch z) h
 | bl y=>cases (show u=Value.bool y from rx);exact PySem.W.kia_one PySem.W.kitx_bool I.iU True.intro e (fun z=>nomatch z) h
 | int i=>obtain ⟨t,q⟩:=(show ∃t,u=Value.int i t from rx);cases q;exact PySem.W.kia_one PySem.W.kitx_int I.iU True.intro e (fun z=>nomatch z) h
 | str y=>obtain ⟨t,q⟩:=(show ∃t,u=Value.str y t from rx);cases q;exact PySem.W.kia_one PySem.W.kitx_str I.iU True.intro e (fun z=>nomatch z) h
 | Hf y=>obtain ⟨t,q⟩:=(show ∃t,u=Value.float y t from rx);cases q;exact PySem.W.kia_one PySem.W.kitx_float I.iU True.intro e (fun z=>nomatch z) h
 | @lst a xs ea=>
  cases (show u=Value.ref a from rx)
  obtain ⟨_,_,n,_,h1⟩:=(show bI X.prog X.w H s.heap a (.lst xs) from I.a_ a _ ea)
  exact PySem.W.kia_one PySem.W.kitx_list I.iU ⟨_,h1,rfl⟩ e (fun z=>nomatch z) h
 | @wc a ob xs ea=>
  cases (show u=Value.ref a from rx)
  obtain ⟨_,_,_,n,_,h1⟩:=(show bI X.prog X.w H s.heap a (.wc ob (.lst xs)) from I.a_ a _ ea)
  exact PySem.W.kia_one PySem.W.kitx_list I.iU ⟨_,h1,rfl⟩ e (fun z=>nomatch z) h
 | @tup a xs ea=>
  cases (show u=Value.ref a from rx)
  obtain ⟨_,_,_,p⟩:=(show bI X.prog X.w H s.heap a (.tup xs) from I.a_ a _ ea)
  obtain ⟨o,h1,h2,_⟩:=p
  exact PySem.W.kia_one PySem.W.kitx_tuple I.iU ⟨o,h1,h2⟩ e (fun z=>nomatch z) h
 | @dK a kvs ea=>
  cases (show u=Value.ref a from rx)
  obtain ⟨_,_,vs,_,p⟩:=(show bI X.prog X.w H s.heap a (.dK kvs) from I.a_ a _ ea)
  obtain ⟨o,es,ep,h1,h2,_⟩:=p
  exact PySem.W.kia_one PySem.W.kitx_dict I.iU ⟨o,h1,h2.1⟩ e (fun z=>nomatch z) h
 | @dT a kvs ea=>
  cases (show u=Value.ref a from rx)
  obtain ⟨_,_,xs,_,o,es,ep,h1,h2,_⟩:=(show bI X.prog X.w H s.heap a (.dT kvs) from I.a_ a _ ea)
  exact PySem.W.kia_one PySem.W.kitx_dict I.iU ⟨o,h1,h2.1⟩ e (fun z=>nomatch z) h
 | @ins a C dx fs ea cl ha hn Vl hm=>
  cases (show u=Value.ref a from rx)
  obtain ⟨mA,O,_⟩:=DC I.a_ ea
  obtain ⟨od,J,_⟩:=O.look
  exact PySem.W.kia_one (PySem.W.kitx_own (cl.get _) cl.hd ha hn Vl hm) I.iU J e (fun z=>nomatch z) h
end
end L2
namespace L2
open PySem PySem.Spec PyProof.Rows
structure eh (k:Nat) (A:Around):Prop where
 hd:A.handled=none
 dp:A.depth+3*k+5<recursionLimit
 un:A.units+16*k+200<cLine
 gd:A.guards=some []
theorem eh.mono {j k:Nat} {A:Around} (r:eh k A) (h:j<=k):eh j A:=⟨r.hd,by have:=r.dp;omega,by have:=r.un;omega,r.gd⟩
theorem eh.deeper {k:Nat} {A:Around} (r:eh (k+1) A) (env:Env):eh k (A.deeper env):=
 ⟨r.hd,by have:=r.dp;show A.depth+1+3*k+5<_;omega,by have:=r.un;show A.units+3+16*k+200<_;omega,r.gd⟩
theorem wz {A:Around} {C:Addr} {us:List Value} {kw:List (Str×Value)}:(A.under (.builtin "type.__call__" ⟨.ref C::us,kw⟩)).depth=A.depth+1:=by
 first | rfl | simp[Around.under,Code.weight,Code.isCreation,Code.isGuard,Code.isCaller,Code.frames,Code.isFrame,guardIds]
theorem wA {A:Around} {C:Addr} {us:List Value} {kw:List (Str×Value)}:(A.under (.builtin "type.__call__" ⟨.ref C::us,kw⟩)).units=A.units+1:=by
 first | rfl | simp[Around.under,Code.cUnits,Code.frames,Code.isFrame]
theorem eh.make {k:Nat} {A:Around} (r:eh (k+1) A) (C:Addr) (us:List Value) (kw:List (Str×Value)):eh k (A.under (.builtin "type.__call__" ⟨.ref C::us,kw⟩)):=
 ⟨r.hd,by have:=r.dp;rw[wz];omega,by have:=r.un;rw[wA];omega,by first | exact r.gd | (simpa [Around.under,Code.guards,Code.isGuard,pushGuards,guardIds]using r.gd)⟩
theorem eh.depth {k:Nat} {A:Around} (r:eh k A):A.depth<recursionLimit:=by have:=r.dp;omega
theorem eh.units {k:Nat} {A:Around} (r:eh k A):A.units+64<cLine:=by have:=r.un;omega
noncomputable def DE:TA:=fun _ H Q=>Q [] H
noncomputable def qB (ta:TE) (tr:TA):TA:=fun σ H Q=>ta σ H fun x H1=>tr σ H1 fun xs H2=>Q (x::xs) H2
section
variable {X:Cx} {e:Expr} {es:List Expr} {te:TE} {t:TA} {pos:Pos}
theorem af:PA X [] DE:=fun _ _ _ _ H Q I h=>Calls.spliced_nil ⟨[],H,I, .nil,h⟩
theorem ae (ha:PE X e te) (hr:PA X es t) (hs:starEach (e::es) X.env=(false,eval e X.env)::starEach es X.env:=by rfl):PA X (e::es) (qB te t):=by
 intro pos pins s σ H Q I h
 rw[hs]
 show wpAny _ _ (spliced ((false,eval e X.env)::backTo pos (starEach es X.env))) _ _ s
 refine Calls.spliced_cons (aS (ha pins s σ H _ I h) fun u s1 ⟨x,H1,I1,r1,q1⟩=>?_)
 exact aS (hr pos pins s1 σ H1 _ I1 q1) fun us s2 ⟨xs,H2,I2,r2,q2⟩=>⟨x::xs,H2,I2, .cons r1 r2,q2⟩
noncomputable def HE (t:TA):TE:=fun σ H Q=>t σ H fun xs H1=>xs.length<=sizeLine/\ ∀p,H1 p=none->Q (.ref p) (upd H1 p (.tup xs))
noncomputable def Pf (t:TA):TE:=fun σ H Q=>t σ H fun xs H1=>xs.length<=sizeLine/\ ∀p,H1 p=none->Q (.ref p) (upd H1 p (.lst xs))
theorem aZ {x1} (h:PA X es t):PE X (.Tuple es x1 pos) (HE t):=by
 intro pins s σ H Q I hq
 refine wpAny_Tuple_spliced (aS (h pos pins s σ H _ I hq) fun us s1 ⟨xs,H1,I1,r,z,q⟩=>⟨by rw[<-r.length];exact z,?_⟩)
 have hf:H1 s1.heap.objs.size=none:=I1.a_.fresh (Nat.le_refl _)
 refine ⟨.ref s1.heap.objs.size,upd H1 s1.heap.objs.size (.tup xs),I1.laid (t':=s1.toks) (fun b u e=>Heap.get?_push_of_some _ e) (Nat.le_refl _) ?_,rfl,q _ hf⟩
 exact ⟨z,us,r,⟨_,Heap.get?_push_size _ rfl,rfl,_,rfl⟩⟩
theorem bL (h:PA X es t):PE X (.List es pos) (Pf t):=by
 intro pins s σ H Q I hq
 refine wpAny_List_spliced (aS (h pos pins s σ H _ I hq) fun us s1 ⟨xs,H1,I1,r,z,q⟩=>⟨by rw[<-r.length];exact z,?_⟩)
 have hf:H1 s1.heap.objs.size=none:=I1.a_.fresh (Nat.le_refl _)
 refine ⟨.ref s1.heap.objs.size,upd H1 s1.heap.objs.size (.lst xs),I1.laid (t':=s1.toks) (fun b u e=>Heap.get?_push_of_some _ e) (Nat.le_refl _) ?_,rfl,q _ hf⟩
 exact ⟨z,us,0,r,Heap.get?_push_size _ rfl⟩
end
noncomputable abbrev Sp:=List V->Hp->VK->XK->Prop
noncomputable abbrev wB:=List Env->Hp->Shared->XK->Value->Shared->Prop
structure uk (P:Program) (w:World) (K:PySem.W.Frag) (mg:Str->Option Value) (base:Heap) (A:Around) (outer:List Env) (s:Shared) (H:Hp):Prop where
 frames:A.frames=some outer
 mod:Mod K mg base
 bs: ∀b o,base.get? b=some o->s.heap.get? b=some o/\H b=none
 xT:base.objs.size<=s.heap.objs.size
 iT:s.heap.FunFrames base outer
 A8: ∀b∈jF outer,H b=none
 a_:iq P w H s.heap
 bare:AllBare s.gens
noncomputable def CE (outer:List Env) (P:Program) (w:World) (H:Hp) (s:Shared) (Q:VK) (u:Value) (s':Shared):Prop:=
 ∃v H',s'.os=s.os/\AllBare s'.gens/\Un (jF outer) [] H H' s.heap s'.heap/\iq P w H' s'.heap/\RelV v u/\Q v H'
noncomputable def CR (CX:wB) (outer:List Env) (P:Program) (w:World) (H:Hp) (s:Shared) (Q:VK) (E:XK) (r:Result) (s':Shared):Prop:=
 match r with
 | .ok (.ret u)=>CE outer P w H s Q u s'
 | .ok _=>False
 | .error e=>CX outer H s E e s'
structure bE (P:Program) (w:World) (K:PySem.W.Frag) (mg:Str->Option Value) (base:Heap) (CX:wB) (k:Nat) (f:Addr) (fd:FuncData) (ps:List Str) (sp:Sp):Prop where
 len: ∀vs H Q E,sp vs H Q E->vs.length=ps.length
 run: ∀(A:Around) (outer:List Env) (s:Shared) (H:Hp) (args:Args) (us:List Value) (vs:List V) (Q:VK) (E:XK),eh k A->uk P w K mg base A outer s H->BindsTo s fd args (ps.zip us)->Vals vs us->sp vs H Q E->
  codeAny (model P w) A (.call (.ref f) args) (CR CX outer P w H s Q E) s
theorem uk.make {P:Program} {w:World} {K:PySem.W.Frag} {mg:Str->Option Value} {base:Heap} {A:Around} {outer:List Env} {s:Shared} {H:Hp} (e:uk P w K mg base A outer s H) (C:Addr) (us:List Value) (kw:List (Str×Value)):
  uk P w K mg base (A.under (.builtin "type.__call__" ⟨.ref C::us,kw⟩)) outer s H:=⟨by first | exact e.frames | (simpa [Around.under,Code.envs,Code.isFrame,pushEnvs]using e.frames),e.mod,e.bs,e.xT,e.iT,e.A8,e.a_,e.bare⟩
section
variable {X:Cx} {pins:List (Addr×Obj)} {σ:St} {H:Hp} {s s':Shared}
theorem Inv.HF (I:Inv X pins σ H s):uk X.prog X.w X.K X.mg X.base X.A X.stack s H:=
 ⟨I.ok.frames,I.ok.mod,I.bs,Nat.le_trans I.ok.xT I.sz,I.stack,I.jk,I.a_,I.bare⟩
theorem Inv.after {Q:VK} {u:Value} (I:Inv X pins σ H s) (h:CE X.stack X.prog X.w H s Q u s'):EP X pins σ Q u s':=by
 obtain ⟨v,H',os,bare,un,a_,r,q⟩:=h
 obtain ⟨hh,g,d,t,XD⟩:=s'
 obtain rfl:XD=s.os:=os
 exact ⟨v,H',I.call (h':=hh) (g':=g) (d':=d) (t':=t) (ch:=[]) un a_ bare (fun b z=>absurd z (by simp)),r,q⟩
end
noncomputable def Gb (sp:Sp) (wC:List V) (E:XK) (t:TA):TE:=fun σ H Q=>t σ H fun vs H1=>sp (vs++wC) H1 Q E
noncomputable def Binds (K:PySem.W.Frag) (fd:FuncData) (ps:List Str) (ds:List Value):Prop:=
 ∀(s:Shared) (us:List Value),K.In s.heap->(us++ds).length=ps.length->BindsTo s fd ⟨us,[]⟩ (ps.zip (us++ds))
theorem Binds.all {K:PySem.W.Frag} {fd:FuncData} {ps:List Str} (h: ∀us:List Value,us.length=ps.length->bindArgs fd ⟨us,[]⟩=pure (ps.zip us)):Binds K fd ps []:=fun s us _ hl=>by
 rw[List.append_nil]at hl ⊢
 exact .of_eq (h us hl)
noncomputable def Passes (CX:wB) (X:Cx) (E:XK):Prop:= ∀(pins:List (Addr×Obj)) (σ:St) (H:Hp) (s:Shared) (e:Value) (s':Shared),Inv X pins σ H s->CX X.stack H s E e s'->X.xe e s'
section
variable {X:Cx} {CX:wB} {k:Nat} {f C:Addr} {fd:FuncData} {ps:List Str} {sp:Sp} {wC:List V} {ds:List Value} {E:XK} {x m:Str} {p pos apos:Pos} {e o:Expr} {es:List Expr} {ta:TE} {t:TA}
theorem HG {pins:List (Addr×Obj)} {σ:St} {H:Hp} {s:Shared} {Q:VK} {us:List Value} {vs:List V} (F:bE X.prog X.w X.K X.mg X.base CX k f fd ps sp) (hr:eh k X.A) (hb:Binds X.K fd ps ds) (hd:Vals wC ds) (hx:Passes CX X E)
  (I:Inv X pins σ H s) (r:Vals vs us) (h:sp (vs++wC) H Q E):wpAny (model X.prog X.w) X.A (call (.ref f) us) (EP X pins σ Q) X.xe s:=by
 have r2:Vals (vs++wC) (us++ds):=r.append hd
 have hl:(us++ds).length=ps.length:=by rw[<-r2.length];exact F.len _ _ _ _ h
 refine wpAny_call (codeAny_mono (F.run X.A X.stack s H ⟨us,[]⟩ (us++ds) (vs++wC) Q E hr I.HF (hb s us I.iU hl) r2 h) fun r s' hq=>?_)
 cases r with
 | error e=>exact hx pins σ H s e s' I hq
 | ok fl=>
  cases fl with
  | ret u=>exact I.after hq
  | next=>exact False.elim hq
  | brk=>exact False.elim hq
  | cont=>exact False.elim hq
theorem aw (F:bE X.prog X.w X.K X.mg X.base CX k f fd ps sp) (hr:eh k X.A) (hg:Gl X x) (hm:X.mg x=some (.ref f)) (hk:PySem.W.keepIn X.K (.ref f)=true) (hb:Binds X.K fd ps ds) (hd:Vals wC ds) (hx:Passes CX X E)
  (ha:PA X (e::es) t) (vZ:(x==("__debug__":Str))=false:=by decide) (he:starEach (e::es) X.env=(false,eval e X.env)::starEach es X.env:=by rfl) (j4:(backTo pos (starEach es X.env)).any (·.1)=false:=by rfl):
  PE X (.Call (.Name x p) (e::es) [] pos) (Gb sp wC E t):=by
 intro pins s σ H Q I h
 refine wpAny_Call_Name_kw (jl I hg hm ?_ vZ)
 refine PySem.W.callWith_K (h₀:=X.base) I.ok.mod.KO hk (aS (ha pos pins s σ H _ I h) fun us s1 ⟨vs,H1,I1,r,q⟩=>⟨I1.iU,?_⟩) he j4
 exact HG F hr hb hd hx I1 r q
structure Mk (K:PySem.W.Frag) (C f:Addr):Prop where
 makes:PySem.W.makesIn K C=true
 init:PySem.W.findIn K (.ref C) "__init__"=some (some (.ref f))
 fn:PySem.W.isFn K (.ref f)=true
 kp:PySem.W.keepIn K (.ref C)=true
end
section
variable {X:Cx} {CX:wB} {k:Nat} {f C:Addr} {fd:FuncData} {ps ks:List Str} {sp:Sp} {E:XK} {x m:Str} {p pos apos XF:Pos} {e o:Expr} {es:List Expr} {kws:List Keyword} {te ta:TE} {t tk:TA} {nm:Option Str}
structure Ph (K:PySem.W.Frag) (fd:FuncData) (ps ks:List Str) (g:List Value->List Value->List Value) (gV:List V->List V->List V):Prop where
 to: ∀(s:Shared) (us ws:List Value),K.In s.heap->(g us ws).length=ps.length->BindsTo s fd ⟨us,ks.zip ws⟩ (ps.zip (g us ws))
 rel: ∀{vs:List V} {us:List Value} {zs:List V} {ws:List Value},Vals vs us->Vals zs ws->Vals (gV vs zs) (g us ws)
variable {g:List Value->List Value->List Value} {gV:List V->List V->List V}
end
structure aQ (N P:List Str) (sc:Scope):Prop where
 kind:sc.kind= .function
 co:sc.isCoroutine=false
 gen:sc.isGenerator=false
 nd:N.Nodup
 pre:N.take P.length=P
 par: ∀x∈P,sc.names.lookup x=some .local\/sc.names.lookup x=some .cell
 HH: ∀y∈sc.names,y.2≠ .free
theorem qC {kindOf:Str->Option NameKind} {x:Str}: ∀{binds:List (Str×Value)} {m:Str->Option Value},(∀v,(x,v)∉binds)->bindL kindOf binds m x=m x
 | [],_,_=>rfl
 |(n,v)::r,m,h=>by
  unfold bindL
  rw[qC fun w hw=>h w (List.mem_cons_of_mem _ hw)]
  split
  ·have:x≠n:=by rintro rfl;exact h v List.mem_cons_self
   simp[this]
  ·rfl
theorem qD {kindOf:Str->Option NameKind} {x:Str}: ∀{binds:List (Str×Value)} {m:Str->Option Value},(∀v,(x,v)∉binds)->bindC kindOf binds m x=m x
 | [],_,_=>rfl
 |(n,v)::r,m,h=>by
  unfold bindC
  rw[qD fun w hw=>h w (List.mem_cons_of_mem _ hw)]
  split
  ·rfl
  ·have:x≠n:=by rintro rfl;exact h v List.mem_cons_self
   simp[this]
theorem qE {kindOf:Str->Option NameKind} {x:Str} {v:Value}: ∀{P:List Str} {vs:List Value} {i:Nat} {m:Str->Option Value},P.Nodup->P[i]? =some x->vs[i]? =some v->kindOf x=some .local->
  bindL kindOf (P.zip vs) m x=some v
 | [],_,_,_,_,h,_,_=>by simp at h
 | _::_,[],_,_,_,_,h,_=>by simp at h
 | p::P,w::vs,0,m,nd,h1,h2,hk=>by
  simp at h1 h2;subst h1;subst h2
  show bindL kindOf ((p,w)::P.zip vs) m p=_
  unfold bindL
  rw[qC fun v hv=>(List.nodup_cons.mp nd).1 (List.of_mem_zip hv).1,if_pos hk]
  simp
 | p::P,w::vs,i+1,m,nd,h1,h2,hk=>by
  show bindL kindOf ((p,w)::P.zip vs) m x=_
  unfold bindL
  exact qE (i:=i) (List.nodup_cons.mp nd).2 (by simpa using h1) (by simpa using h2) hk
theorem qF {kindOf:Str->Option NameKind} {x:Str} {v:Value}: ∀{P:List Str} {vs:List Value} {i:Nat} {m:Str->Option Value},P.Nodup->P[i]? =some x->vs[i]? =some v->kindOf x≠some .local->
  bindC kindOf (P.zip vs) m x=some v
 | [],_,_,_,_,h,_,_=>by simp at h
 | _::_,[],_,_,_,_,h,_=>by simp at h
 | p::P,w::vs,0,m,nd,h1,h2,hk=>by
  simp at h1 h2;subst h1;subst h2
  show bindC kindOf ((p,w)::P.zip vs) m p=_
  unfold bindC
  rw[qD fun v hv=>(List.nodup_cons.mp nd).1 (List.of_mem_zip hv).1,if_neg hk]
  simp
 | p::P,w::vs,i+1,m,nd,h1,h2,hk=>by
  show bindC kindOf ((p,w)::P.zip vs) m x=_
  unfold bindC
  exact qF (i:=i) (List.nodup_cons.mp nd).2 (by simpa using h1) (by simpa using h2) hk
noncomputable def start (N:List Str) (vs:List V):St:=vs.map some++List.replicate (N.length - vs.length) none
noncomputable def pQ (CX:wB) (P:Program) (w:World) (K:PySem.W.Frag) (mg:Str->Option Value) (base:Heap) (N:List Str) (qual:Str) (scope:Scope) (f:Addr) (cd:Value) (A:Around) (outer:List Env) (s:Shared) (H:Hp) (E:XK):Cx where
 prog:=P
 w:=w
 K:=K
 mg:=mg
 base:=base
 A:=A.deeper (envOfC qual scope s.heap.objs.size f cd)
 N:=N
 s₀:=s
 H₀:=H
 env:=envOfC qual scope s.heap.objs.size f cd
 outer:=outer
 stack:=envOfC qual scope s.heap.objs.size f cd::outer
 ex:=[]
 calm:=true
 fn:=fun _=>true
 pn:=[]
 xe:=fun e s'=>wpAny (model P w) (A.deeper (envOfC qual scope s.heap.objs.size f cd)) (leaving (envOfC qual scope s.heap.objs.size f cd) e) (fun _ HI=>CX outer H s E e HI) (fun e' HI=>CX outer H s E e' HI) s'
theorem um {sc:Scope} {n:Nat} {x:Str} (h:sc.names.lookup x=some .cell): ∃c,(cellsFrom n sc.names []).lookup x=some c:=by
 have q:=PySem.W.cellsFrom_some sc.names n [] (.inl h)
 exact Option.isSome_iff_exists.mp q
theorem zI {CX:wB} {P:Program} {w:World} {K:PySem.W.Frag} {mg:Str->Option Value} {base:Heap} {N ps:List Str} {qual:Str} {scope:Scope} {f:Addr} {cd:Value} {A:Around} {outer:List Env} {s s1:Shared} {H:Hp} {E:XK} {us:List Value} {vs:List V}
  (S:aQ N ps scope) (hd:A.handled=none) (e0:uk P w K mg base A outer s H) (hl:vs.length=ps.length) (r:Vals vs us)
  (x:InCallC s s.heap.objs.size (bindL (envOfC qual scope s.heap.objs.size f cd).kindOf (ps.zip us) fun _=>none) (cellsFrom (s.heap.objs.size+1) scope.names []) (bindC (envOfC qual scope s.heap.objs.size f cd).kindOf (ps.zip us) fun _=>none) s1):
  Inv (pQ CX P w K mg base N qual scope f cd A outer s H E) [] (start N vs) H s1:=by
 have j4:ps.length<=N.length:=by have:=congrArg List.length S.pre;rw[List.length_take]at this;omega
 obtain ⟨h1,tk,rfl,hk⟩:=x.done
 have Lf: ∀b:Addr,b∉(pQ CX P w K mg base N qual scope f cd A outer s H E).ex:=fun b z=>absurd (show b∈([]:List Addr) from z) (by simp)
 refine ⟨⟨e0.mod,S.kind,rfl,rfl,Nat.le_refl _,fun y z c h1 h2=>?_,fun y hy=>?_,fun y c _ h=>?_,fun _=>hd,Around.frames_deeper e0.frames, .inr ⟨rfl,rfl⟩,fun b z=>absurd z (Lf b),e0.bs,e0.xT,fun b _ _=>Lf b,fun b z=>absurd z (Lf b),e0.iT,e0.A8⟩,
  rfl,e0.bare,Un.kept hk,⟨_,x.toInCall.ns,fun i y v h1 h2 h3=>?_⟩,fun y c h=>⟨_,x.cell y c h⟩,e0.a_.fresh (Nat.le_refl _),fun y c h=>?_,fun p hp=>absurd (show p∈([]:List (Addr×Obj)) from hp) (by simp),e0.a_.kept hk,?_⟩
 ·exact name_of_addr x.apart (PySem.mem_of_lookup h1) (PySem.mem_of_lookup h2)
 ·have hy:scope.names.lookup y=some .cell\/scope.names.lookup y=some .free:=hy
  rcases hy with hy | hy
  ·exact um hy
  ·exact absurd rfl (S.HH _ (PySem.mem_of_lookup hy))
 ·exact Nat.le_of_lt (x.above y c (PySem.mem_of_lookup h))
 ·have hi:i<vs.length:=by
   unfold start at h2
   by_cases hi:i<vs.length
   ·exact hi
   ·rw[List.getElem?_append_right (by simpa using hi)]at h2
    rw[List.getElem?_replicate]at h2
    split at h2<;>cases h2
  have ha:vs[i]? =some v:=by
   unfold start at h2
   rw[List.getElem?_append_left (by simpa using hi),List.getElem?_map]at h2
   cases e:vs[i]? with
   | none=>rw[e]at h2;cases h2
   | some a=>rw[e]at h2;cases h2;rfl
  obtain ⟨u,hu,rv⟩:=r.get ha
  have hp:ps[i]? =some y:=by
   rw[<-S.pre,List.getElem?_take_of_lt (by omega)];exact h1
  have Vm:ps.Nodup:=by rw[<-S.pre];exact S.nd.sublist (List.take_sublist _ _)
  refine ⟨u,rv,?_⟩
  rcases S.par y (List.mem_of_getElem? hp) with k | k
  ·exact .inl ⟨k,qE Vm hp hu k⟩
  ·obtain ⟨c,e⟩:=um (n:=s.heap.objs.size+1) k
   refine .inr ⟨.inl k,c,e,?_⟩
   have q:=x.cell y c e
   rw[qF Vm hp hu (by show scope.names.lookup y≠_;rw[k];decide)]at q
   exact q
 ·exact e0.a_.fresh (Nat.le_of_lt (x.above y c (PySem.mem_of_lookup h)))
 ·unfold start
  show _=N.length
  rw[List.length_append,List.length_map,List.length_replicate]
  omega
theorem Gd {CX:wB} {P:Program} {w:World} {K:PySem.W.Frag} {mg:Str->Option Value} {base:Heap} {k:Nat} {f:Addr} {name qual:Str} {params:Arguments} {body:List Stmt} {scope:Scope} {dV kV doc pm cN ct oc:Value} {an od:Option Addr}
  {x_:Array (Option Value)} {N ps:List Str} {sp:Sp} (lk:K.lookup f=some ⟨oc,od, .func (PySem.W.fnOf name qual params body scope dV kV doc pm an cN ct),x_⟩) (t_:PySem.W.codeIn K cN qual=true) (S:aQ N ps scope)
  (len: ∀vs H Q E,sp vs H Q E->vs.length=ps.length)
  (uo: ∀(A:Around) (outer:List Env) (s:Shared) (H:Hp) (vs:List V) (Q:VK) (E:XK),eh k (A.deeper (envOfC qual scope s.heap.objs.size f cN))->sp vs H Q E->
   ∃t,rH (pQ CX P w K mg base N qual scope f cN A outer s H E) body t/\t { nx:=fun _ H'=>Q .cT H',rt:=Q } (start N vs) H):
  bE P w K mg base CX (k+1) f (PySem.W.fnOf name qual params body scope dV kV doc pm an cN ct) ps sp:=by
 refine ⟨len,fun A outer s H args us vs Q E hr e0 hb r C8=>?_⟩
 have hl:=len _ _ _ _ C8
 have KX:K.In s.heap:=e0.mod.KO.keeps fun b o e=>(e0.bs b o e).1
 have lim:s.heap.NoLimit:=e0.mod.nolimit.keeps fun b o e=>(e0.bs b o e).1
 have dM: ∀y∈ps.zip us,scope.names.lookup y.1=some .local\/(scope.names.lookup y.1=some .cell/\((cellsFrom (s.heap.objs.size+1) scope.names []).lookup y.1).isSome=true):=fun ⟨n,v⟩ hy=>by
  rcases S.par n (List.of_mem_zip hy).1 with q | q
  ·exact .inl q
  ·exact .inr ⟨q,PySem.W.cellsFrom_some _ _ _ (.inl q)⟩
 refine codeAny_call_function hr.depth (KX _ _ lk) rfl S.co S.gen rfl (PySem.W.codeRec_of KX t_) (hb _ _ _ _ ?_)
 refine wpAny_newFunctionEnv_cells S.kind dM fun env he s1 x=>?_
 subst he
 refine ⟨lim.keeps x.toInCall.keep,codeAny_func ?_⟩
 obtain ⟨t,ht,hq⟩:=uo A outer s H vs Q E (hr.deeper _) C8
 have I:Inv (pQ CX P w K mg base N qual scope f cN A outer s H E) [] (start N vs) H s1:=zI S hr.hd e0 hl r x
 refine wpAny_mono (ht [] s1 (start N vs) H _ I hq) (fun fl s' hs=>?_) fun e s' hs=>hs
 have fin: ∀{σ':St} {H':Hp} {v:V} {u:Value},Inv (pQ CX P w K mg base N qual scope f cN A outer s H E) [] σ' H' s'->RelV v u->Q v H'->CE outer P w H s Q u s':=
  fun {σ' H' v u} J rv q=>⟨v,H',J.os,J.bare,J.base,J.a_,rv,q⟩
 cases fl with
 | ret u=>
  obtain ⟨v,σ',H',J,rv,q⟩:=hs
  exact fin J rv q
 | next=>
  obtain ⟨σ',H',J,q⟩:=hs
  exact fin (v:=V.cT) (u:=Value.none) J rfl q
 | brk=>
  obtain ⟨_,_,_,q⟩:=hs
  exact False.elim q
 | cont=>
  obtain ⟨_,_,_,q⟩:=hs
  exact False.elim q
end L2
namespace L2
open PySem PySem.Spec PyProof.Rows
section
variable {X:Cx} {x:Str} {p pos:Pos} {e:Expr} {es:List Expr} {t:TA} {id T:String} {r:List V->Hp->VK->Prop}
noncomputable def Vn (r:List V->Hp->VK->Prop) (t:TA):TE:=fun σ H Q=>t σ H fun vs H1=>r vs H1 Q
theorem aV (hc:cL X (.builtin id) r) (hg:Gl X x) (hm:X.mg x=none) (hv:bootBuiltins x=some (.builtin id)) (ha:PA X (e::es) t) (hn:x≠"__name__":=by decide) (vZ:(x==("__debug__":Str))=false:=by decide)
  (he:starEach (e::es) X.env=(false,eval e X.env)::starEach es X.env:=by rfl) (j4:(backTo pos (starEach es X.env)).any (·.1)=false:=by rfl):PE X (.Call (.Name x p) (e::es) [] pos) (Vn r t):=by
 intro pins s σ H Q I h
 refine wpAny_Call_Name_kw (iV I hg hm hv ?_ hn vZ)
 exact PyProof.Rows.callWith_builtin1 (aS (ha pos pins s σ H _ I h) fun us s1 ⟨vs,H1,I1,r1,q1⟩=>hc pins s1 σ H1 vs us Q I1 r1 q1) he j4
theorem c_ (hc:cL X (.type T) r) (hg:Gl X x) (hm:X.mg x=none) (hv:bootBuiltins x=some (.type T)) (ha:PA X (e::es) t) (hn:x≠"__name__":=by decide) (vZ:(x==("__debug__":Str))=false:=by decide)
  (he:starEach (e::es) X.env=(false,eval e X.env)::starEach es X.env:=by rfl) (j4:(backTo pos (starEach es X.env)).any (·.1)=false:=by rfl):PE X (.Call (.Name x p) (e::es) [] pos) (Vn r t):=by
 intro pins s σ H Q I h
 refine wpAny_Call_Name_kw (iV I hg hm hv ?_ hn vZ)
 exact PyProof.Rows.callWith_type1 (aS (ha pos pins s σ H _ I h) fun us s1 ⟨vs,H1,I1,r1,q1⟩=>hc pins s1 σ H1 vs us Q I1 r1 q1) he j4
end
end L2
namespace HT
open PySem PyProof.Rows
section
open PySem.SeqAt
open PySem.AutoSeq1 (wpAny_loadPart')
open PySem.MeetsSeq PySem.MeetsSeq2 PySem.MeetsSeq3
end
section
variable {prog:Program} {w:World} {A:Around} {E:Value->Shared->Prop} {s:Shared}
theorem DF {t b:Addr} {vs ws:List Value} {Q:Value->Shared->Prop} (ht:IsTup s.heap t vs.toArray) (hb:IsTup s.heap b ws.toArray) (hv:vs≠[])
  (h1:ws=[]->Q (.ref t) s) (h2:ws≠[]->Q (.ref s.heap.objs.size) { s with heap:=s.heap.push { cls:= .type "tuple",data:= .seq (vs++ws).toArray } })
  (hsz:vs.length+ws.length<=sizeLine):wpAny (model prog w) A (binaryOp .Add (.ref t) (.ref b)) Q E s:=by
 obtain ⟨⟨cls,dd,data,sl⟩,ho,hc,n,hd⟩:=id ht
 obtain ⟨⟨XG,Vo,data2,zJ⟩,HJ,Vp,n2,hd2⟩:=id hb
 simp only at hc hd Vp hd2
 subst hc hd Vp hd2
 have e:vs.toArray++ws.toArray=(vs++ws).toArray:=by simp
 by_cases hw:ws=[]
 ·exact concat_meets ⟨_,ho,rfl⟩ ⟨_,HJ,rfl⟩ noFill_tuple_add seq_tuple_add PySem.F.slot_tuple_add PySem.F.entry_tuple_add (PySem.F.args_tuple_add_2 _ _)
   (tuple_addW1 t b vs.toArray ws.toArray n n2 dd Vo sl zJ (by simpa using hv) (by simp[hw])) ⟨ho,HJ,h1 hw⟩
 ·refine concat_meets ⟨_,ho,rfl⟩ ⟨_,HJ,rfl⟩ noFill_tuple_add seq_tuple_add PySem.F.slot_tuple_add PySem.F.entry_tuple_add (PySem.F.args_tuple_add_2 _ _)
   (tuple_addW2 t b vs.toArray ws.toArray n n2 dd Vo sl zJ (by simpa using hv) (by simpa using hw) (by rw[List.size_toArray,List.size_toArray];exact hsz)) ⟨ho,HJ,?_⟩
  rw[e]
  exact h2 hw
noncomputable def cB (n d:Nat):Option Int->Nat
 | none=>d
 | some v=>if v<0 then (v+(n:Int)).toNat else min v.toNat n
theorem uq (n d:Nat):cB n d none=d:=rfl
theorem j9 (n d k:Nat):cB n d (some (k:Int))=min k n:=by
 show (if (k:Int)<0 then ((k:Int)+(n:Int)).toNat else min (k:Int).toNat n)=min k n
 rw[if_neg (by omega),Int.toNat_natCast]
theorem Bp (n d:Nat) (hd:d<=n) (o:Option Int):cB n d o<=n:=by
 cases o with
 | none=>exact hd
 | some v=>
  show (if v<0 then (v+(n:Int)).toNat else min v.toNat n)<=n
  by_cases hv:v<0
  ·rw[if_pos hv];omega
  ·rw[if_neg hv];exact Nat.min_le_right _ _
theorem ya (v:Int) (n d:Nat):(if v<0 then max (v+(n:Int)) 0 else min v (n:Int))=((cB n d (some v):Nat):Int):=by
 show (if v<0 then max (v+(n:Int)) 0 else min v (n:Int))=(((if v<0 then (v+(n:Int)).toNat else min v.toNat n):Nat):Int)
 by_cases hv:v<0
 ·simp only[if_pos hv];omega
 ·simp only[if_neg hv];omega
theorem wD (lo hi:Option Int) (n:Nat):Builtin.Slice.sliceAdjust lo hi 1 (n:Int)=(((cB n 0 lo:Nat):Int),((cB n n hi:Nat):Int)):=by
 have h1: ¬((1:Int)<0):=by omega
 unfold Builtin.Slice.sliceAdjust
 simp only[h1,if_false]
 refine Prod.ext ?_ ?_
 ·cases lo with
  | none=>rfl
  | some v=>exact ya v n 0
 ·cases hi with
  | none=>rfl
  | some v=>exact ya v n n
theorem wF (i j:Nat):Builtin.Slice.slicePlaces (i:Int) (j:Int) 1=j - i:=by
 unfold Builtin.Slice.slicePlaces
 have h1:(1:Int)>0:=by omega
 simp only[h1,if_true,Int.ediv_one]
 split<;>omega
theorem nC {v:Value} {o:Option Int} {Q:Option Int->Shared->Prop} (p:IsPart v o) (h:Q o s):wpAny (model prog w) A (Builtin.Slice.slicePartIndex v) Q E s:=by
 cases p with
 | none=>exact slicePart_none h
 | int i t=>exact slicePart_int h
theorem g8 {sl:Addr} {vl vu:Value} {lo hi:Option Int} {n:Nat} {Q:Int×Int×Nat->Shared->Prop} (hs:s.heap.IsSliceOf sl vl vu .none) (pl:IsPart vl lo) (pu:IsPart vu hi)
  (h:Q (((cB n 0 lo:Nat):Int),1,cB n n hi - cB n 0 lo) s):wpAny (model prog w) A (Builtin.Slice.sliceApplied (.ref sl) (pure (n:Int))) Q E s:=by
 obtain ⟨os,HK,Ke,Lg⟩:=id hs
 unfold Builtin.Slice.sliceApplied Builtin.Slice.sliceFields
 refine wpAny_bind (wpAny_bind (wpAny_field HK Lg (x:=vl) rfl (wpAny_bind (wpAny_field HK Lg (x:=vu) rfl (wpAny_bind (wpAny_field HK Lg (x:= .none) rfl (wpAny_pure ?_)))))))
 refine wpAny_bind (slicePart_none ?_)
 show wpAny _ _ (if ((1:Int)==0)=true then _ else _) _ _ s
 rw[if_neg (by decide)]
 refine wpAny_bind (nC pl (wpAny_bind (nC pu (wpAny_bind (wpAny_pure ?_)))))
 show wpAny _ _ (match Builtin.Slice.sliceAdjust lo hi 1 (n:Int) with | (lo,hi)=>pure (lo,(1:Int),Builtin.Slice.slicePlaces lo hi 1)) _ _ s
 rw[wD lo hi n]
 show wpAny _ _ (pure (((cB n 0 lo:Nat):Int),(1:Int),Builtin.Slice.slicePlaces ((cB n 0 lo:Nat):Int) ((cB n n hi:Nat):Int) 1)) _ _ s
 rw[wF]
 exact wpAny_pure h
theorem Bq (xs:Array Value) (i k:Nat):((List.range k).filterMap fun (m:Nat)=>xs[((i:Int)+(m:Int)*1).toNat]?).toArray=((xs.toList.drop i).take k).toArray:=by
 have e:(fun (m:Nat)=>xs[((i:Int)+(m:Int)*1).toNat]?)=fun m=>xs[i+m]?:= by
  funext m
  have:((i:Int)+(m:Int)*1).toNat=i+m:=by omega
  rw[this]
 rw[e]
 have:=pick_run xs i k
 rw[List.filterMap_map]at this
 have e2:((fun x=>xs[x]?) ∘ fun x=>i+x)=fun m=>xs[i+m]?:= rfl
 rw[e2]at this
 rw[this]
theorem j_ {t sl:Addr} {items:Array Value} {vl vu:Value} {lo hi:Option Int} {Q:Value->Shared->Prop} (ht:IsTup s.heap t items) (hs:s.heap.IsSliceOf sl vl vu .none) (pl:IsPart vl lo) (pu:IsPart vu hi)
  (hw: ¬(cB items.size 0 lo=0/\cB items.size items.size hi=items.size))
  (h:Q (.ref s.heap.objs.size) { s with heap:=s.heap.push { cls:= .type "tuple",data:= .seq ((items.toList.drop (cB items.size 0 lo)).take (cB items.size items.size hi - cB items.size 0 lo)).toArray } })
  (hsz:items.size<=sizeLine):wpAny (model prog w) A (getItem (.ref t) (.ref sl)) Q E s:=by
 have yb:sizeOk (.seq ((items.toList.drop (cB items.size 0 lo)).take (cB items.size items.size hi - cB items.size 0 lo)).toArray):=by
  show ((items.toList.drop (cB items.size 0 lo)).take (cB items.size items.size hi - cB items.size 0 lo)).toArray.size<=sizeLine
  rw[List.size_toArray,List.length_take,List.length_drop,Array.length_toList]
  omega
 have hj:cB items.size items.size hi<=items.size:=Bp _ _ (Nat.le_refl _) hi
 obtain ⟨os,HK,Ke,Lg⟩:=id hs
 have Ge:s.TypeIs (.ref sl) "slice":=⟨os,HK,Ke⟩
 unfold getItem
 try with_reducible refine wpAny_holding ?_
 first | refine wpAny_bind (wpAny_pure ?_) | skip
 refine wpAny_bind (wpAny_sequenceKey ht.typeIs (by decide) ?_)
 refine wpAny_bind (wpAny_callSpecial?_slot (name:=Str.ofString "__getitem__") ht.typeIs PyProof.Rows.slot_tuple_getitem
  (wpAny_call_entry PyProof.Rows.slot_tuple_getitem ht.typeIs entry_tuple_getitem ?_ (args_tuple_getitem _ _)))
 show wpAny _ _ (Builtin.Tuple.tupleItemsOf (.ref t) >>= _) _ _ s
 refine wpAny_bind (tupleItemsOf_ ht ?_)
 refine wpAny_bind (wpAny_typeOf Ge ?_)
 rw[if_pos (by decide)]
 refine wpAny_bind (g8 hs pl pu ?_)
 have yc: ¬((((cB items.size 0 lo:Nat):Int)==0&&(1:Int)==1&&(cB items.size items.size hi - cB items.size 0 lo)==items.size)=true):=by
  intro q
  rw[Bool.and_eq_true,Bool.and_eq_true]at q
  have q1:((cB items.size 0 lo:Nat):Int)=0:=eq_of_beq q.1.1
  have q2:cB items.size items.size hi - cB items.size 0 lo=items.size:=eq_of_beq q.2
  exact hw ⟨by omega,by omega⟩
 show wpAny _ _ (if (((cB items.size 0 lo:Nat):Int)==0&&(1:Int)==1&&(cB items.size items.size hi - cB items.size 0 lo)==items.size)=true then _ else _) _ _ s
 rw[if_neg yc,Bq]
 first
  | exact wpAny_bind (m:=Builtin.Tuple.tupleExact _) (wpAny_newObj_type (wpAny_pure ⟨_,rfl,wpAny_pure h⟩) yb)
  | exact wpAny_bind (m:=Builtin.Tuple.tupleExact _) (wpAny_newObj_type (wpAny_bind (wpAny_pure (wpAny_pure ⟨_,rfl,wpAny_pure h⟩))) yb)
  | exact wpAny_bind (wpAny_bind (m:=Builtin.Tuple.tupleExact _) (wpAny_newObj_type (wpAny_pure (wpAny_pure ⟨_,rfl,wpAny_pure h⟩)) yb))
  | exact wpAny_bind (wpAny_bind (m:=Builtin.Tuple.tupleExact _) (wpAny_newObj_type (wpAny_pure ⟨_,rfl,wpAny_pure h⟩) yb))
end
end HT
namespace L2
open PySem PySem.Spec PyProof.Rows
noncomputable abbrev TO:=St->Hp->(Option Int->Hp->Prop)->Prop
noncomputable def PO (X:Cx) (e:Option Expr) (t:TO):Prop:=
 ∀(pins:List (Addr×Obj)) (s:Shared) (σ:St) (H:Hp) (Q:Option Int->Hp->Prop),Inv X pins σ H s->t σ H Q->
  wpAny (model X.prog X.w) X.A (evalPart e X.env) (fun u s'=> ∃o H',Inv X pins σ H' s'/\IsPart u o/\Q o H') X.xe s
noncomputable def DG:TO:=fun _ H Q=>Q none H
noncomputable def uu (t:TE):TO:=fun σ H Q=>t σ H fun x H1=> ∃i,x= .int i/\Q (some i) H1
section
variable {X:Cx} {e:Expr} {te:TE} {lo hi:Option Expr} {tl th:TO} {pos p2:Pos}
theorem ef:PO X none DG:=by
 intro pins s σ H Q I h
 rw[evalPart_none]
 exact wpAny_pure ⟨none,H,I, .none,h⟩
theorem bC (h:PE X e te):PO X (some e) (uu te):=by
 intro pins s σ H Q I hw
 rw[evalPart_some]
 refine aS (h pins s σ H _ I hw) fun u s1 ⟨x,H1,I1,r1,q1⟩=>?_
 obtain ⟨i,rfl,q⟩:=q1
 obtain ⟨t,rfl⟩:=r1
 exact ⟨some i,H1,I1, .int i t,q⟩
noncomputable def Lh (X:Cx) (r:V->Option Int->Option Int->Hp->VK->Prop):Prop:=
 ∀(pins:List (Addr×Obj)) (s:Shared) (σ:St) (H:Hp) (x:V) (v vl vu:Value) (lo hi:Option Int) (sl:Addr) (Q:VK),Inv X pins σ H s->RelV x v->s.heap.IsSliceOf sl vl vu .none->IsPart vl lo->IsPart vu hi->r x lo hi H Q->
  ∃T id,typeLookup (.type T) "__getitem__"=pure (some (.builtin id))/\s.TypeIs v T/\wpAny (model X.prog X.w) X.A (getItem v (.ref sl)) (EP X pins σ Q) X.xe s
noncomputable def Pj (r:V->Option Int->Option Int->Hp->VK->Prop) (te:TE) (tl th:TO):TE:=fun σ H Q=>te σ H fun x H1=>tl σ H1 fun l H2=>th σ H2 fun u H3=>r x l u H3 Q
theorem bJ {r:V->Option Int->Option Int->Hp->VK->Prop} (hr:Lh X r) (he:PE X e te) (hl:PO X lo tl) (hu:PO X hi th):PE X (.Subscript e (.Slice lo hi none p2) pos) (Pj r te tl th):=by
 intro pins s σ H Q I h
 refine Subscript_ (aS (he pins s σ H _ I h) fun v s1 ⟨x,H1,I1,r1,q1⟩=>?_)
 refine wpAny_Slice (aS (hl pins s1 σ H1 _ I1 q1) fun vl s2 ⟨l,H2,I2,pl,q2⟩=>aS (hu pins s2 σ H2 _ I2 q2) fun vu s3 ⟨u,H3,I3,pu,q3⟩=>?_)
 rw[evalPart_none]
 refine wpAny_pure ?_
 have I4:Inv X pins σ H3 { s3 with heap:=s3.heap.push { cls:= .type "slice",data:= .fields #[vl,vu, .none] } }:=I3.kept (t':=s3.toks) fun b ob q=>Heap.get?_push_of_some _ q
 obtain ⟨T,id,hT,ht,hg⟩:=hr pins { s3 with heap:=s3.heap.push { cls:= .type "slice",data:= .fields #[vl,vu, .none] } } σ H3 x v vl vu l u s3.heap.objs.size Q I4 r1 (Heap.IsSliceOf.new ..) pl pu q3
 show wpAny (model X.prog X.w) X.A (subscriptTail e (.Slice lo hi none p2) v (.ref s3.heap.objs.size)) (EP X pins σ Q) X.xe { s3 with heap:=s3.heap.push { cls:= .type "slice",data:= .fields #[vl,vu, .none] } }
 exact tail_any (ops:=[.ref s3.heap.objs.size,v]) ht hT hg (by with_unfolding_all rfl)
noncomputable def ka (xs:List V) (lo hi:Option Int):List V:=(xs.drop (HT.cB xs.length 0 lo)).take (HT.cB xs.length xs.length hi - HT.cB xs.length 0 lo)
theorem l_ (xs:List V) (lo hi:Option Int):(ka xs lo hi).length<=xs.length:=by
 unfold ka
 rw[List.length_take,List.length_drop]
 omega
noncomputable def Gf (K:PySem.W.Frag):R2:=fun x y H Q=> ∃a b xs ys,x= .ref a/\y= .ref b/\bp K H a xs/\bp K H b ys/\xs≠[]/\xs.length+ys.length<=sizeLine/\
 (ys=[]->Q (.ref a) H)/\(ys≠[]-> ∀p,H p=none->Q (.ref p) (upd H p (.tup (xs++ys))))
theorem Vals.rO {xs:List V} {us:List Value} (r:Vals xs us):us=[]↔xs=[]:=by
 cases r with
 | nil=>simp
 | cons _ _=>simp
theorem DH:ik X (binaryOp .Add) (Gf X.K):=by
 intro pins s σ H x y v u Q I rx ry h
 obtain ⟨a,b,xs,ys,rfl,rfl,ha,hb,hx,hz,q1,q2⟩:=h
 cases rx
 cases ry
 obtain ⟨its,r1,p1,_⟩:=I.tuple ha
 obtain ⟨uv,r2,p2,_⟩:=I.tuple hb
 refine HT.DF p1 p2 (fun z=>hx (r1.rO.mp z)) (fun z=>⟨.ref a,H,I,rfl,q1 (r2.rO.mp z)⟩) (fun z=>?_) (by rw[<-r1.length, <-r2.length];exact hz)
 refine ⟨.ref s.heap.objs.size,_,I.laid (t':=s.toks) (o:= .tup (xs++ys)) (fun b ob q=>Heap.get?_push_of_some _ q) (Nat.le_refl _) ?_,rfl,q2 (fun w=>z (r2.rO.mpr w)) _ (I.a_.fresh (Nat.le_refl _))⟩
 exact ⟨by rw[List.length_append];exact hz,_,r1.append r2,IsTup.new _ _⟩
end
end L2
namespace L2
open PySem PySem.Spec PyProof.Rows
noncomputable def DI (n:Nat) (i:Int):Option Nat:=if 0<=i then (if i<n then some i.toNat else none) else if -(n:Int)<=i then some (i+n).toNat else none
noncomputable def rP {α:Type} (xs:List α) (i:Int):Option α:=(DI xs.length i).bind fun j=>xs[j]?
theorem ye {n:Nat} {i:Int} {j:Nat} (h:DI n i=some j):seqIndex? i n=some j/\j<n/\ -(n:Int)<=i/\i<n:=by
 unfold DI at h
 by_cases h0:0<=i
 ·rw[if_pos h0]at h
  by_cases h1:i<n
  ·rw[if_pos h1]at h
   have e:i.toNat=j:=Option.some.inj h
   exact ⟨by rw[seqIndex_of h0 h1,e],by omega,by omega,h1⟩
  ·rw[if_neg h1]at h;cases h
 ·rw[if_neg h0]at h
  by_cases h1: -(n:Int)<=i
  ·rw[if_pos h1]at h
   have e:(i+n).toNat=j:=Option.some.inj h
   exact ⟨by rw[seqIndex_neg (by omega) h1,e],by omega,h1,by omega⟩
  ·rw[if_neg h1]at h;cases h
theorem rQ {α:Type} {xs:List α} {i:Int} {v:α} (h:rP xs i=some v): ∃j,seqIndex? i xs.length=some j/\xs[j]? =some v/\j<xs.length/\ -(xs.length:Int)<=i/\i<xs.length:=by
 unfold rP at h
 cases e:DI xs.length i with
 | none=>rw[e]at h;cases h
 | some j=>
  rw[e]at h
  obtain ⟨h1,h2,h3,h4⟩:=ye e
  exact ⟨j,h1,h,h2,h3,h4⟩
theorem aH {α:Type} {xs:List α} {j:Nat} {v:α} (h:xs[j]? =some v):rP xs (j:Int)=some v:=by
 have hj:j<xs.length:=(List.getElem?_eq_some_iff.mp h).1
 have e:DI xs.length (j:Int)=some j:=by
  unfold DI
  rw[if_pos (by omega),if_pos (by omega)];simp
 unfold rP;rw[e];exact h
theorem Br {α:Type} (xs:List α) (v:α):rP (xs++[v]) (-1)=some v:=by
 have hl:(xs++[v]).length=xs.length+1:=by simp
 have e:DI (xs++[v]).length (-1)=some xs.length:=by
  unfold DI
  rw[hl,if_neg (by decide),if_pos (by omega)]
  congr 1
  omega
 unfold rP
 rw[e]
 show (xs++[v])[xs.length]? =some v
 simp
noncomputable def DJ (b:Expr):Prop:= ∀o i,subscripted b false o i=operate [o,i] (getItem o i)
noncomputable def HL (X:Cx) (r:R2):Prop:=
 ∀(value slice:Expr) (pins:List (Addr×Obj)) (s:Shared) (σ:St) (H:Hp) (x y:V) (v u:Value) (Q:VK),Inv X pins σ H s->RelV x v->RelV y u->r x y H Q->
  subscripted slice false v u=operate [v,u] (getItem v u)->wpAny (model X.prog X.w) X.A (subscriptTail value slice v u) (EP X pins σ Q) X.xe s
noncomputable def rR (X:Cx) (id:String) (r:V->List V->Hp->VK->Prop):Prop:=
 ∀(pins:List (Addr×Obj)) (s:Shared) (σ:St) (H:Hp) (x:V) (xs:List V) (v:Value) (us:List Value) (Q:VK),Inv X pins σ H s->RelV x v->Vals xs us->r x xs H Q->
  wpAny (model X.prog X.w) X.A (call (.builtin id) (v::us)) (EP X pins σ Q) X.xe s
section
variable {X:Cx} {a b:Expr} {ta tb:TE} {pos:Pos}
theorem aJ {r:R2} (hr:HL X r) (ha:PE X a ta) (hb:PE X b tb) (hs:DJ b):PE X (.Subscript a b pos) (Of r ta tb):=by
 intro pins s σ H Q I h
 exact Subscript_ (Hz ha hb I h fun v u s2 x y H2 I2 rx ry q=>hr a b pins s2 σ H2 x y v u Q I2 rx ry q (hs _ _))
noncomputable def Li (K:PySem.W.Frag):R2:=fun x y H Q=> ∃p xs i v,x= .ref p/\y= .int i/\bt K H p xs/\rP xs i=some v/\Q v H
noncomputable def Lj (K:PySem.W.Frag):R2:=fun x y H Q=> ∃p xs i v,x= .ref p/\y= .int i/\bp K H p xs/\rP xs i=some v/\Q v H
noncomputable def Pk:R2:=fun x y H Q=> ∃z i c,x= .str z/\y= .int i/\z.length<=sizeLine/\rP z.cps.toList i=some c/\Q (.str ⟨#[c]⟩) H
theorem DK:HL X (Li X.K):=by
 intro value slice pins s σ H x y v u Q I rx ry h hs
 obtain ⟨p,xs,i,z,rfl,rfl,hq,he,q⟩:=h
 cases rx
 obtain ⟨t,rfl⟩:=ry
 obtain ⟨its,r,pl,hz⟩:=I.list hq
 obtain ⟨j,h1,h2,h3,h4,h5⟩:=rQ he
 obtain ⟨w,ew,zK⟩:=r.get h2
 have hl:=r.length
 have hn:=ff
 have fin:EP X pins σ Q w s:=⟨z,H,I,zK,q⟩
 by_cases h0:0<=i
 ·have hj:i.toNat=j:=by
   rw[seqIndex_of h0 h5]at h1
   exact Option.some.inj h1
  exact item_listR pl.isList h0 (by omega) (by rw[hj];simpa using ew) fin hs
 ·have hj:(i+(its.toArray.size:Int)).toNat=j:=by
   rw[seqIndex_neg (by omega) h4]at h1
   rw[List.size_toArray, <-hl]
   exact Option.some.inj h1
  exact subscriptTail_builtinR (x:=w) pl.isList.typeIs slot_list_getitem.lookup
   (wpAny_getItem_list_neg (Q:=fun r s'=>r=w/\EP X pins σ Q r s') pl.isList (by omega) (by rw[List.size_toArray]<;>omega) (by omega) (by rw[hj];simpa using ew) ⟨rfl,fin⟩) hs
theorem HM:HL X (Lj X.K):=by
 intro value slice pins s σ H x y v u Q I rx ry h hs
 obtain ⟨p,xs,i,z,rfl,rfl,hq,he,q⟩:=h
 cases rx
 obtain ⟨t,rfl⟩:=ry
 obtain ⟨its,r,pl,hz⟩:=I.tuple hq
 obtain ⟨j,h1,h2,h3,h4,h5⟩:=rQ he
 obtain ⟨w,ew,zK⟩:=r.get h2
 have hl:=r.length
 have hn:=ff
 have fin:EP X pins σ Q w s:=⟨z,H,I,zK,q⟩
 exact subscriptTail_builtinR (x:=w) pl.typeIs slot_tuple_getitem.lookup
  (getItem_tuple (j:=j) (Q:=fun r s'=>r=w/\EP X pins σ Q r s') pl (by omega) (by omega) (by rw[List.size_toArray, <-hl];exact h1) (by simpa using ew) ⟨rfl,fin⟩) hs
theorem HN:HL X Pk:=by
 intro value slice pins s σ H x y v u Q I rx ry h hs
 obtain ⟨z,i,c,rfl,rfl,hz,he,q⟩:=h
 obtain ⟨t,rfl⟩:=rx
 obtain ⟨t',rfl⟩:=ry
 obtain ⟨j,h1,h2,h3,h4,h5⟩:=rQ he
 have hl:z.cps.toList.length=z.length:=by simp[Str.length]
 rw[hl]at h1 h4 h5
 have hn:=ff
 exact tail_any (typeIs_str s z t) slot_str_getitem.lookup (getItem_str (c:=c) (by
  have e1:decide (i< -(2 ^ 63:Int))=false:=decide_eq_false (by omega)
  have e2:decide (i ≥ 2 ^ 63)=false:=decide_eq_false (by omega)
  rw[e1,e2,Bool.or_false]) (by rw[h1];simpa using h2) ⟨.str ⟨#[c]⟩,H,I.tok _,⟨_,rfl⟩,q⟩) hs
theorem wG (its:List Value) (n j:Nat) (u:Value):Obj.mapSeq (·.setIfInBounds j u) { cls:= .type "list",data:= .seq its.toArray n }={ cls:= .type "list",data:= .seq (its.set j u).toArray n }:=by
 simp[Obj.mapSeq]
theorem Inv.lst {pins:List (Addr×Obj)} {σ:St} {H:Hp} {s:Shared} {p:Addr} {xs:List V} (I:Inv X pins σ H s) (h:H p=some (.lst xs)):
  ∃(its:List Value) (n:Nat),Vals xs its/\s.heap.get? p=some { cls:= .type "list",data:= .seq its.toArray n }/\xs.length<=sizeLine:=by
 obtain ⟨z,its,n,r,e⟩:=I.a_ p _ h
 exact ⟨its,n,r,e,z⟩
theorem Inv.HP {pins:List (Addr×Obj)} {σ:St} {H:Hp} {s:Shared} {p:Addr} {xs ys:List V} {its its':List Value} {n n':Nat} {f:Obj->Obj} (I:Inv X pins σ H s) (h:H p=some (.lst xs))
  (ho:s.heap.get? p=some { cls:= .type "list",data:= .seq its.toArray n }) (hf:f { cls:= .type "list",data:= .seq its.toArray n }={ cls:= .type "list",data:= .seq its'.toArray n' }) (r:Vals ys its') (hz:ys.length<=sizeLine) (t:Nat):
  Inv X pins σ (upd H p (.lst ys)) { s with heap:=s.heap.update p f,toks:=t }:=by
 have e:(s.heap.update p f).get? p=some { cls:= .type "list",data:= .seq its'.toArray n' }:=by
  rw[Heap.get?_update_self f ho (by rw[hf]<;>rfl),hf]
 refine I.write (x:=p) (e:=p) (by rw[h];trivial) (.inl rfl) (fun b u hb q=>(Heap.get?_update_other _ _ (Ne.symm hb)).trans q) ⟨_,e⟩ ?_
 exact ⟨hz,its',n',r,e⟩
noncomputable def Lk:V->V->V->Hp->(Hp->Prop)->Prop:=fun o i v H Q=> ∃p xs k j,o= .ref p/\i= .int k/\H p=some (.lst xs)/\DI xs.length k=some j/\Q (upd H p (.lst (xs.set j v)))
theorem set_list:K0 X Lk:=by
 intro pins s σ H o i v ov iv u Q I ro ri rv h
 obtain ⟨p,xs,k,j,rfl,rfl,hp,hj,q⟩:=h
 cases ro
 obtain ⟨t,rfl⟩:=ri
 obtain ⟨its,n,r,ho,hz⟩:=I.lst hp
 obtain ⟨h1,h2,h3,h4⟩:=ye hj
 have hl:=r.length
 have hn:=ff
 have I':Inv X pins σ (upd H p (.lst (xs.set j v))) { s with heap:=s.heap.update p (Obj.mapSeq (·.setIfInBounds j u)) }:=
  I.HP hp ho (wG its n j u) (r.set rv j) (by rw[List.length_set];exact hz) s.toks
 by_cases h0:0<=k
 ·have hk:k.toNat=j:=by
   rw[seqIndex_of h0 h4]at h1
   exact Option.some.inj h1
  exact PySem.W.ki_setAt ho h0 (by omega) (by rw[List.size_toArray, <-hl];exact h4) (by rw[hk];exact ⟨_,I',q⟩)
 ·have hk:(k+(its.toArray.size:Int)).toNat=j:=by
   rw[seqIndex_neg (by omega) h3]at h1
   rw[List.size_toArray, <-hl]
   exact Option.some.inj h1
  exact PySem.W.ki_setBack ho (by omega) (by rw[List.size_toArray, <-hl];exact h3) (by omega) (by rw[hk];exact ⟨_,I',q⟩)
theorem rS (lo hi:Option Int) (n:Nat):(sliceBounds lo hi none n).1=((HT.cB n 0 lo:Nat):Int)/\(sliceBounds lo hi none n).2.1=((HT.cB n n hi:Nat):Int)/\(sliceBounds lo hi none n).2.2=1:=by
 refine ⟨?_,?_,rfl⟩
 ·cases lo with
  | none=>simp[sliceBounds,HT.cB]
  | some i=>
   simp only[sliceBounds,HT.cB,Option.getD_none,show (1:Int)>0 by decide,if_true]
   by_cases h:i<0
   ·simp only[h,if_true]<;>omega
   ·simp only[h,if_false]<;>omega
 ·cases hi with
  | none=>simp[sliceBounds,HT.cB]
  | some i=>
   simp only[sliceBounds,HT.cB,Option.getD_none,show (1:Int)>0 by decide,if_true]
   by_cases h:i<0
   ·simp only[h,if_true]<;>omega
   ·simp only[h,if_false]<;>omega
theorem pR (its:List Value) (lo hi:Option Int):slicePick its.toArray lo hi none=((its.drop (HT.cB its.length 0 lo)).take (HT.cB its.length its.length hi - HT.cB its.length 0 lo)).toArray:=by
 obtain ⟨h1,h2,h3⟩:=rS lo hi its.toArray.size
 unfold slicePick
 rw[h1,h2,h3]
 simp only[sliceRange_one,pick_run,List.size_toArray]<;>rfl
noncomputable def Ll (K:PySem.W.Frag):V->Option Int->Option Int->Hp->VK->Prop:=fun x lo hi H Q=> ∃a xs,x= .ref a/\bt K H a xs/\ ∀p,H p=none->Q (.ref p) (upd H p (.lst (ka xs lo hi)))
theorem DL:Lh X (Ll X.K):=by
 intro pins s σ H x v vl vu lo hi sl Q I rx hs pl pu h
 obtain ⟨a,xs,rfl,hx,q⟩:=h
 cases rx
 obtain ⟨its,r,ht,hz⟩:=I.list hx
 have hlen:=r.length
 refine ⟨"list",_,slot_list_getitem.lookup,ht.isList.typeIs,?_⟩
 refine wpAny_getItem_list_slice ht.isList hs pl pu .none (by simp) ?_ (by rw[List.size_toArray]<;>omega)
 rw[pR, <-hlen]
 refine ⟨.ref s.heap.objs.size,_,I.laid (t':=s.toks) (o:= .lst (ka xs lo hi)) (fun b ob q=>Heap.get?_push_of_some _ q) (Nat.le_refl _) ?_,rfl,q _ (I.a_.fresh (Nat.le_refl _))⟩
 exact ⟨Nat.le_trans (l_ xs lo hi) hz,_,0,(r.drop (HT.cB xs.length 0 lo)).take (HT.cB xs.length xs.length hi - HT.cB xs.length 0 lo),Heap.get?_push_size _ rfl⟩
noncomputable def kc:V->Bool
 | .cT=>true
 | .bl _=>true
 | .int _=>true
 | .str _=>true
 | _=>false
noncomputable def C9:V->V->Bool
 | .cT, .cT=>true
 | .bl a, .bl b=>a==b
 | .bl a, .int b=>(if a then 1 else 0)==b
 | .int a, .bl b=>a==(if b then 1 else 0)
 | .int a, .int b=>a==b
 | .str a, .str b=>a==b
 | _,_=>false
theorem HQ {A:Around} {s:Shared} {y x:V} {u v:Value} (ry:RelV y u) (rx:RelV x v) (fy:kc y=true) (fx:kc x=true):SeqAt.EqAt A s u v (C9 y x):=by
 cases y with
 | cT=>
  cases ry
  cases x with
  | cT=>cases rx;exact SeqAt.EqAt.same _
  | bl b=>cases rx;exact SeqAt.EqAt.none_bool b
  | int b=>obtain ⟨t,rfl⟩:=rx;exact SeqAt.EqAt.none_int b t
  | str b=>obtain ⟨t,rfl⟩:=rx;exact SeqAt.EqAt.none_str b t
  | _=>exact absurd (show false=true from fx) Bool.false_ne_true
 | bl a=>
  cases ry
  cases x with
  | cT=>cases rx;exact SeqAt.EqAt.bool_none a
  | bl b=>cases rx;exact SeqAt.EqAt.bool_bool a b
  | int b=>obtain ⟨t,rfl⟩:=rx;exact SeqAt.EqAt.bool_int a b t
  | str b=>obtain ⟨t,rfl⟩:=rx;exact SeqAt.EqAt.bool_str a b t
  | _=>exact absurd (show false=true from fx) Bool.false_ne_true
 | int a=>
  obtain ⟨t',rfl⟩:=ry
  cases x with
  | cT=>cases rx;exact SeqAt.EqAt.int_none a t'
  | bl b=>cases rx;exact SeqAt.EqAt.int_bool a t' b
  | int b=>obtain ⟨t,rfl⟩:=rx;exact SeqAt.EqAt.int_int a t' b t
  | str b=>obtain ⟨t,rfl⟩:=rx;exact SeqAt.EqAt.int_str a t' b t
  | _=>exact absurd (show false=true from fx) Bool.false_ne_true
 | str a=>
  obtain ⟨t',rfl⟩:=ry
  cases x with
  | cT=>cases rx;exact SeqAt.EqAt.str_none a t'
  | bl b=>cases rx;exact SeqAt.EqAt.str_bool a t' b
  | int b=>obtain ⟨t,rfl⟩:=rx;exact SeqAt.EqAt.str_int a t' b t
  | str b=>obtain ⟨t,rfl⟩:=rx;exact SeqAt.EqAt.str_str a t' b t
  | _=>exact absurd (show false=true from fx) Bool.false_ne_true
 | _=>exact absurd (show false=true from fy) Bool.false_ne_true
noncomputable def wH (x:V) (u:Value):Bool:=match u with
 | .none=>C9 .cT x
 | .bool b=>C9 (.bl b) x
 | .int i _=>C9 (.int i) x
 | .str z _=>C9 (.str z) x
 | _=>false
theorem Bs {x y:V} {u:Value} (r:RelV y u) (f:kc y=true):wH x u=C9 y x:=by
 cases y with
 | cT=>cases r;rfl
 | bl b=>cases r;rfl
 | int i=>obtain ⟨t,rfl⟩:=r;rfl
 | str z=>obtain ⟨t,rfl⟩:=r;rfl
 | _=>exact absurd (show false=true from f) Bool.false_ne_true
theorem ke {x:V}: ∀{xs:List V} {us:List Value},Vals xs us->xs.all kc=true->us.any (wH x)=xs.any fun y=>C9 y x
 | _,_, .nil,_=>rfl
 | y::xs,u::us, .cons r t,f=>by
  rw[List.all_cons,Bool.and_eq_true]at f
  rw[List.any_cons,List.any_cons,Bs r f.1,ke t f.2]
theorem iX {A:Around} {s:Shared} {x:V} {v:Value} (rx:RelV x v) (fx:kc x=true): ∀{xs:List V} {us:List Value},Vals xs us->xs.all kc=true-> ∀u∈us,SeqAt.EqAt A s u v (wH x u)
 | _,_, .nil,_=>fun u hu=>by cases hu
 | y::xs,u::us, .cons r t,f=>fun u' hu=>by
  rw[List.all_cons,Bool.and_eq_true]at f
  rcases List.mem_cons.mp hu with rfl | hu
  ·rw[Bs r f.1];exact HQ r rx f.1 fx
  ·exact iX rx fx t f.2 u' hu
noncomputable def Kf (x:V) (xs:List V):Bool:=xs.any fun y=>C9 y x
noncomputable def Oh (K:PySem.W.Frag) (neg:Bool):R2:=fun x y H Q=> ∃p xs,y= .ref p/\(bt K H p xs\/bp K H p xs)/\kc x=true/\xs.all kc=true/\Q (.bl (if neg then !Kf x xs else Kf x xs)) H
theorem zL:ik X (compareOp .In) (Oh X.K false):=by
 intro pins s σ H x y v u Q I rx ry h
 obtain ⟨p,xs,rfl,hq,fx,fs,q⟩:=h
 cases ry
 rcases hq with hq | hq
 ·obtain ⟨its,r,pl,hz⟩:=I.list hq
  refine SeqAt.in_listAt (wH x) pl.isList (fun w hw=>iX rx fx r fs w (by simpa using hw)) ⟨.bl _,H,I,rfl,?_⟩
  rw[show its.toArray.any (wH x)=its.any (wH x) by simp,ke r fs]
  exact q
 ·obtain ⟨its,r,pl,hz⟩:=I.tuple hq
  refine SeqAt.in_tupleAt (wH x) pl (fun w hw=>iX rx fx r fs w (by simpa using hw)) ⟨.bl _,H,I,rfl,?_⟩
  rw[show its.toArray.any (wH x)=its.any (wH x) by simp,ke r fs]
  exact q
theorem rT:ik X (compareOp .NotIn) (Oh X.K true):=by
 intro pins s σ H x y v u Q I rx ry h
 obtain ⟨p,xs,rfl,hq,fx,fs,q⟩:=h
 cases ry
 rcases hq with hq | hq
 ·obtain ⟨its,r,pl,hz⟩:=I.list hq
  refine SeqAt.notIn_listAt (wH x) pl.isList (fun w hw=>iX rx fx r fs w (by simpa using hw)) ⟨.bl _,H,I,rfl,?_⟩
  rw[show its.toArray.any (wH x)=its.any (wH x) by simp,ke r fs]
  exact q
 ·obtain ⟨its,r,pl,hz⟩:=I.tuple hq
  refine SeqAt.notIn_tupleAt (wH x) pl (fun w hw=>iX rx fx r fs w (by simpa using hw)) ⟨.bl _,H,I,rfl,?_⟩
  rw[show its.toArray.any (wH x)=its.any (wH x) by simp,ke r fs]
  exact q
theorem rV:ik X (compareOp .NotIn) (fun x y H Q=> ∃i j,x= .str i/\y= .str j/\Q (.bl (!(!(Builtin.Str.occurrences j i 0 j.length 1).isEmpty))) H):=by
 intro pins s σ H x y v u Q I rx ry h
 obtain ⟨i,j,rfl,rfl,q⟩:=h
 obtain ⟨t,rfl⟩:=rx
 obtain ⟨t',rfl⟩:=ry
 exact notIn_str ⟨.bl _,H,I,rfl,q⟩
theorem rW:cL X (.builtin "len") (fun xs H Q=> ∃p ys,xs=[.ref p]/\(bt X.K H p ys\/bp X.K H p ys)/\Q (.int ys.length) H):=by
 intro pins s σ H xs us Q I r h
 obtain ⟨p,ys,rfl,hq,q⟩:=h
 obtain ⟨u,rfl,rx⟩:=vals1 r
 cases rx
 have hn:=ff
 rcases hq with hq | hq
 ·obtain ⟨its,r',pl,hz⟩:=I.list hq
  have hlen:=r'.length
  exact Calls.call_len_list pl.isList (by simp only[List.size_toArray]<;>omega) ⟨.int ys.length,H,I.tok _,⟨s.toks+1,by rw[List.size_toArray,hlen]⟩,q⟩
 ·obtain ⟨its,r',pl,hz⟩:=I.tuple hq
  have hlen:=r'.length
  exact len_tuple pl (by simp only[List.size_toArray]<;>omega) ⟨.int ys.length,H,I.tok _,⟨s.toks+1,by rw[List.size_toArray,hlen]⟩,q⟩
theorem rX:cL X (.builtin "len") (fun xs H Q=> ∃z,xs=[.str z]/\z.length<=sizeLine/\Q (.int z.length) H):=by
 intro pins s σ H xs us Q I r h
 obtain ⟨z,rfl,hz,q⟩:=h
 obtain ⟨u,rfl,t,rfl⟩:=vals1 r
 have hn:=ff
 exact len_str (by omega) ⟨.int z.length,H,I.tok _,⟨_,rfl⟩,q⟩
theorem pS:cL X (.type "tuple") (fun xs H Q=> ∃p ys,xs=[.ref p]/\((bt X.K H p ys/\ ∀l,H l=none->Q (.ref l) (upd H l (.tup ys)))\/(bp X.K H p ys/\Q (.ref p) H))):=by
 intro pins s σ H xs us Q I r h
 obtain ⟨p,ys,rfl,h⟩:=h
 obtain ⟨u,rfl,rx⟩:=vals1 r
 cases rx
 rcases h with ⟨hq,q⟩ | ⟨hq,q⟩
 ·obtain ⟨its,r',pl,hz⟩:=I.list hq
  have hlen:=r'.length
  refine call_tuple_list pl.isList (fun h' kp=>?_) (by simp only[List.size_toArray]<;>omega)
  have I1:Inv X pins σ H { s with heap:=h' }:=I.kept (t':=s.toks) kp
  have I2:Inv X pins σ (upd H h'.objs.size (.tup ys)) { s with heap:=h'.push { cls:= .type "tuple",data:= .seq its.toArray } }:=
   I1.laid (t':=s.toks) (fun b o e=>Heap.get?_push_of_some _ e) (Nat.le_refl _) (show bI X.prog X.w _ _ _ (.tup ys) from ⟨hz,its,r',IsTup.new _ _⟩)
  exact ⟨.ref h'.objs.size,_,I2,rfl,q _ (I1.a_.fresh (Nat.le_refl _))⟩
 ·obtain ⟨its,r',pl,hz⟩:=I.tuple hq
  exact call_tuple_same pl ⟨.ref p,H,I,rfl,q⟩
noncomputable def Pl (K:PySem.W.Frag) (T:String) (x:V) (H:Hp):Prop:=match x with
 | .str _=>T="str"
 | .int _=>T="int"
 | .ref p=>(T="list"/\ ∃xs,bt K H p xs)\/(T="tuple"/\ ∃o,K.lookup p=some o/\o.cls= .type "tuple"/\o.dict=none)\/
   (T="dict"/\((∃kvs,H p=some (.dK kvs))\/ ∃kvs,H p=some (.dT kvs)))\/(T="set"/\ ∃S n,H p=some (.set S n))
 | _=>False
theorem Bt {pins:List (Addr×Obj)} {σ:St} {H:Hp} {s:Shared} {T:String} {x:V} {v:Value} (I:Inv X pins σ H s) (r:RelV x v) (ty:Pl X.K T x H):
  s.TypeIs v T/\ ∀a,v= .ref a-> ∃ob,s.heap.get? a=some ob/\ob.dict=none:=by
 cases x with
 | str z=>
  obtain ⟨t,rfl⟩:=r
  cases (show T="str" from ty)
  exact ⟨typeIs_str s z t,fun _ e=>nomatch e⟩
 | int i=>
  obtain ⟨t,rfl⟩:=r
  cases (show T="int" from ty)
  exact ⟨typeIs_int s i t,fun _ e=>nomatch e⟩
 | ref p=>
  cases r
  rcases ty with ⟨rfl,xs,hq⟩ | ⟨rfl,o,hk,hc,hd⟩ | ⟨rfl,hk⟩ | ⟨rfl,S,n,hk⟩
  ·obtain ⟨its,_,pl,_⟩:=I.list hq
   refine ⟨pl.isList.typeIs,fun a e=>?_⟩
   cases e
   obtain ⟨o,n,e,c,hd,_⟩:=pl
   exact ⟨o,e,hd⟩
  ·refine ⟨⟨o,I.iU p o hk,hc⟩,fun a e=>?_⟩
   cases e
   exact ⟨o,I.iU _ o hk,hd⟩
  ·have z: ∃o,s.heap.get? p=some o/\o.ExactDict:=by
    rcases hk with ⟨kvs,hk⟩ | ⟨kvs,hk⟩
    ·obtain ⟨_,_,_,_,o,_,_,e,ex,_⟩:=I.a_ p _ hk
     exact ⟨o,e,ex⟩
    ·obtain ⟨_,_,_,_,o,_,_,e,ex,_⟩:=I.a_ p _ hk
     exact ⟨o,e,ex⟩
   obtain ⟨o,e,ex⟩:=z
   refine ⟨⟨o,e,ex.1⟩,fun a e2=>?_⟩
   cases e2
   exact ⟨o,e,ex.2.1⟩
  ·obtain ⟨o,_,_,_,e,ex,_⟩:=I.a_ p _ hk
   refine ⟨⟨o,e,ex.1⟩,fun a e2=>?_⟩
   cases e2
   exact ⟨o,e,ex.2.1⟩
 | _=>exact False.elim ty
noncomputable def Lm (K:PySem.W.Frag) (T:String) (r:V->List V->Hp->VK->Prop) (to:TE):TE:=fun σ H Q=>to σ H fun x H1=>Pl K T x H1/\r x [] H1 Q
noncomputable def Vq (K:PySem.W.Frag) (T:String) (r:V->List V->Hp->VK->Prop) (to:TE) (t:TA):TE:=fun σ H Q=>to σ H fun x H1=>Pl K T x H1/\t σ H1 fun xs H2=>r x xs H2 Q
variable {o e:Expr} {es:List Expr} {to:TE} {t:TA} {name:Str} {apos du:Pos} {T id:String} {r:V->List V->Hp->VK->Prop}
theorem HR (pa:PlainAttrs T) (slot:Slot T name id) (HS:typeOf (.builtin id)=pure (.type "method_descriptor")) (hm:rR X id r) (ho:PE X o to)
  (nF:attributeBase o name X.env (eval o X.env)=eval o X.env:=by rfl) (ma:(apos.endLine==du.line)=true:=by rfl):PE X (.Call (.Attribute o name apos) [] [] du) (Lm X.K T r to):=by
 intro pins s σ H Q I h
 refine wpAny_Call_method0_late nF ma (aS (ho pins s σ H _ I h) fun v s1 ⟨x,H1,I1,r1,ty,q1⟩=>?_)
 obtain ⟨h1,h2⟩:=Bt I1 r1 ty
 exact ⟨T,id,pa,slot,HS,h1,h2,Calls.callWith_builtin rfl (PySem.evalArgs_none (hm pins s1 σ H1 x [] v [] Q I1 r1 .nil q1))⟩
theorem Ln (pa:PlainAttrs T) (slot:Slot T name id) (HS:typeOf (.builtin id)=pure (.type "method_descriptor")) (hm:rR X id r) (ho:PE X o to) (ha:PA X (e::es) t)
  (nF:attributeBase o name X.env (eval o X.env)=eval o X.env:=by rfl)
  (HU:((backTo du (starEach (e::es) X.env)).all (fun x=>!x.1)&&(backToKw du (keywordEach [] X.env)).all (fun x=>x.1.isSome)
   &&decide ((e::es).length+([]:List Keyword).length+(if ([]:List Keyword).isEmpty then 0 else 1)<30))=true:=by rfl)
  (ma:(apos.endLine==du.line)=true:=by rfl) (hs:starEach (e::es) X.env=(false,eval e X.env)::starEach es X.env:=by rfl) (wI:(backTo du (starEach es X.env)).any (·.1)=false:=by rfl):
  PE X (.Call (.Attribute o name apos) (e::es) [] du) (Vq X.K T r to t):=by
 intro pins s σ H Q I h
 refine wpAny_Call_method_late nF HU ma rfl (aS (ho pins s σ H _ I h) fun v s1 ⟨x,H1,I1,r1,ty,q1⟩=>?_)
 obtain ⟨h1,h2⟩:=Bt I1 r1 ty
 refine ⟨T,id,pa,slot,HS,h1,h2,?_⟩
 have hA:=ha du pins s1 σ H1 _ I1 q1
 rw[hs]at hA ⊢
 refine Calls.callWith_builtin (by show (false||(backTo du (starEach es X.env)).any (·.1))=false;rw[wI]<;>rfl) (Calls.evalArgs_plain ?_)
 exact aS hA fun us s2 ⟨vs,H2,I2,r2,q2⟩=>hm pins s2 σ H2 x vs v us Q I2 r1 r2 q2
end
end L2
namespace L2
open PySem PySem.Spec PyProof.Rows
noncomputable def Pn (X:Cx) (id:String) (r:V->List V->Hp->VK->Prop):Prop:=
 ∀(pins:List (Addr×Obj)) (s:Shared) (σ:St) (H:Hp) (x:V) (xs:List V) (v:Value) (us:List Value) (Q:VK),Inv X pins σ H s->RelV x v->Vals xs us->r x xs H Q->
  wpAny (model X.prog X.w) X.A (call (.builtin id) (v::us)) (EP X pins σ Q) X.xe s
theorem Vals.one: ∀{x:V} {us:List Value},Vals [x] us-> ∃u,us=[u]/\RelV x u
 | _,_, .cons r .nil=>⟨_,rfl,r⟩
theorem Vals.zero: ∀{us:List Value},Vals [] us->us=[]
 | _, .nil=>rfl
theorem Vals.dropLast {xs:List V} {us:List Value} (h:Vals xs us):Vals xs.dropLast us.dropLast:=by
 induction h with
 | nil=>exact .nil
 | cons r t ih=>
  cases t with
  | nil=>exact .nil
  | cons q t'=>exact .cons r ih
theorem wJ {α:Type} (l:List α):l.eraseIdx (l.length - 1)=l.dropLast:=by
 induction l with
 | nil=>rfl
 | cons a r ih=>
  cases r with
  | nil=>rfl
  | cons b r=>
   have e:(a::b::r).length - 1=((b::r).length - 1)+1:=by
    have h1:(a::b::r).length=r.length+2:=rfl
    have h2:(b::r).length=r.length+1:=rfl
    omega
   rw[e,List.eraseIdx_cons_succ,ih]
   all_goals rfl
section
variable {X:Cx} {pins:List (Addr×Obj)} {σ:St} {H:Hp} {s:Shared} {l b:Addr} {xs ys zs:List V}
theorem Inv.DM {its its':List Value} {n:Nat} {f:Array Value->Array Value} {t':Nat} (I:Inv X pins σ H s) (hH:H l=some (.lst xs))
  (e:s.heap.get? l=some { cls:= .type "list",data:= .seq its.toArray n }) (hf:f its.toArray=its'.toArray) (hv:Vals ys its') (hz:ys.length<=sizeLine):
  Inv X pins σ (upd H l (.lst ys)) { s with heap:=s.heap.update l (Obj.mapSeq f),toks:=t' }:=by
 have q:=PySem.IsL.update e f
 rw[hf]at q
 refine I.write (x:=l) (e:=l) (by rw[hH];exact trivial) (.inl rfl) (fun b' u hb hu=>(Heap.get?_update_other s.heap (Obj.mapSeq f) (Ne.symm hb)).trans hu) ⟨_,q⟩ ?_
 exact ⟨hz,its',_,hv,q⟩
theorem Inv.Po {its:List Value} {t':Nat} (I:Inv X pins σ H s) (hv:Vals ys its) (hz:ys.length<=sizeLine):
  Inv X pins σ (upd H s.heap.objs.size (.lst ys)) { s with heap:=s.heap.push { cls:= .type "list",data:= .seq its.toArray },toks:=t' }:=
 I.laid (fun _ _ q=>Heap.get?_push_of_some _ q) (Nat.le_refl _) ⟨hz,its,0,hv,Heap.get?_push_size _ rfl⟩
theorem Inv.fresh (I:Inv X pins σ H s):H s.heap.objs.size=none:=I.a_.fresh (Nat.le_refl _)
theorem Inv.zM (I:Inv X pins σ H s) (hH:H l=some (.lst xs)):xs.length<=sizeLine/\ ∃(its:List Value) (n:Nat),Vals xs its/\xs.length=its.length/\s.heap.get? l=some { cls:= .type "list",data:= .seq its.toArray n }:=by
 obtain ⟨z,its,n,r,e⟩:=I.a_ l _ hH
 exact ⟨z,its,n,r,r.length,e⟩
theorem Bv {n:Nat} (h:n<=sizeLine):Builtin.List.listTooLong n=false:=by
 unfold Builtin.List.listTooLong
 exact decide_eq_false (by omega)
end
section
variable {X:Cx}
noncomputable def DN:V->List V->Hp->VK->Prop:=fun x vs H Q=> ∃l xs y,x= .ref l/\vs=[y]/\H l=some (.lst xs)/\xs.length<sizeLine/\Q .cT (upd H l (.lst (xs++[y])))
theorem g9:Pn X "list.append" DN:=by
 intro pins s σ H x vs v us Q I rx rv h
 obtain ⟨l,xs,y,rfl,rfl,hH,hz,q⟩:=h
 cases rx
 obtain ⟨u,rfl,ru⟩:=rv.one
 obtain ⟨z,its,n,r,hl,e⟩:=I.zM hH
 refine call_meets F.slot_list_append ⟨_,e,rfl⟩ F.entry_list_append (F.args_list_append_2 _ _) (PySem.list_append l its.toArray n u (by rw[List.size_toArray];omega)) ⟨e,?_⟩
 refine ⟨.cT,_,I.DM (its':=its++[u]) hH e (by simp) (r.append (.cons ru .nil)) ?_,rfl,q⟩
 rw[List.length_append,List.length_singleton]
 omega
noncomputable def DO:V->List V->Hp->VK->Prop:=fun x vs H Q=> ∃l b xs zs,x= .ref l/\vs=[.ref b]/\H l=some (.lst xs)/\H b=some (.lst zs)/\xs.length+zs.length<=sizeLine/\Q .cT (upd H l (.lst (xs++zs)))
theorem zN:Pn X "list.extend" DO:=by
 intro pins s σ H x vs v us Q I rx rv h
 obtain ⟨l,b,xs,zs,rfl,rfl,hH,hB,hz,q⟩:=h
 cases rx
 obtain ⟨u,rfl,ru⟩:=rv.one
 cases ru
 obtain ⟨z,its,n,r,hl,e⟩:=I.zM hH
 obtain ⟨z2,uv,n2,r2,lA,e2⟩:=I.zM hB
 have hsz:its.toArray.size+uv.toArray.size<=sizeLine:=by rw[List.size_toArray,List.size_toArray];omega
 have Lo: ¬(!its.toArray.isEmpty&&Builtin.List.listTooLong (its.toArray.size+uv.toArray.size))=true:=by
  rw[Bv hsz,Bool.and_false]
  exact Bool.false_ne_true
 refine call_meets F.slot_list_extend ⟨_,e,rfl⟩ F.entry_list_extend (F.args_list_extend_2 _ _)
  (AutoSeq1.list_extend_list_list_0 l its.toArray n b uv.toArray n2 Lo (by rw[List.size_toArray];omega) (by omega)) ⟨e,e2,?_⟩
 refine ⟨.cT,_,I.DM (its':=its++uv) hH e (by simp) (r.append r2) ?_,rfl,q⟩
 rw[List.length_append]
 omega
noncomputable def Pp:V->List V->Hp->VK->Prop:=fun x vs H Q=> ∃l xs y,x= .ref l/\vs=[]/\H l=some (.lst xs)/\xs[xs.length - 1]? =some y/\Q y (upd H l (.lst xs.dropLast))
theorem HV:Pn X "list.pop" Pp:=by
 intro pins s σ H x vs v us Q I rx rv h
 obtain ⟨l,xs,y,rfl,rfl,hH,hy,q⟩:=h
 cases rx
 have Kg:=rv.zero
 subst Kg
 obtain ⟨z,its,n,r,hl,e⟩:=I.zM hH
 obtain ⟨u,hu,ru⟩:=r.get hy
 have XH:its.toArray[its.toArray.size - 1]? =some u:=by
  show its.toArray[its.length - 1]? =some u
  rw[<-Array.getElem?_toList, <-hl]
  exact hu
 refine call_meets F.slot_list_pop ⟨_,e,rfl⟩ F.entry_list_pop (F.args_list_pop_1 _) (MeetsSeq.list_pop_last l its.toArray n u XH (by rw[List.size_toArray];omega)) ⟨e,?_⟩
 refine ⟨y,_,I.DM (its':=its.dropLast) hH e ?_ r.dropLast ?_,ru,q⟩
 ·show its.toArray.eraseIdxIfInBounds (its.toArray.size - 1)=its.dropLast.toArray
  rw[List.size_toArray,List.eraseIdxIfInBounds_toArray,wJ]
 ·rw[List.length_dropLast]
  omega
noncomputable def Pq:R2:=fun x y H Q=> ∃l b xs zs,x= .ref l/\y= .ref b/\H l=some (.lst xs)/\H b=some (.lst zs)/\xs.length+zs.length<=sizeLine/\ ∀p,H p=none->Q (.ref p) (upd H p (.lst (xs++zs)))
theorem nG:ik X (binaryOp .Add) Pq:=by
 intro pins s σ H x y v u Q I rx ry h
 obtain ⟨l,b,xs,zs,rfl,rfl,hH,hB,hz,q⟩:=h
 cases rx
 cases ry
 obtain ⟨z,its,n,r,hl,e⟩:=I.zM hH
 obtain ⟨z2,uv,n2,r2,lA,e2⟩:=I.zM hB
 refine PySem.P.add_list e e2 ?_ (by rw[List.size_toArray,List.size_toArray];omega)
 have ea:its.toArray++uv.toArray=(its++uv).toArray:=by simp
 rw[ea]
 exact ⟨.ref _,_,I.Po (t':=s.toks) (r.append r2) (by rw[List.length_append];omega),rfl,q _ I.fresh⟩
end
section
variable {prog:Program} {w:World} {A:Around} {E:Value->Shared->Prop} {s:Shared}
end
section
variable {X:Cx}
end
end L2
namespace Vr
open PySem PySem.W PySem.Calls PyProof.Rows
theorem mI {P:Params} {h:Heap}: ∀(ns:List Int) (vs:List Value),WellAll P h vs (ns.map WData.int)->IntsAre vs ns:=by
 intro ns
 induction ns with
 | nil=>
  intro vs w
  rw[List.map_nil]at w
  cases w
  exact .nil
 | cons n ns ih=>
  intro vs w
  rw[List.map_cons]at w
  cases w with
  | cons a b=>
   cases a
   exact .cons _ _ (ih _ b)
theorem zO {l:OpenLaw} {n:Nat} (hn:l.most=some n) {P:Params} {h:Heap} {args:List WData} {vals:List Value}
  (DP:l.row.toRowW.claim.pre args=true) (Gg:WellAll P h vals args):
  ∃a vs ns,vals=[Value.ref a]/\args=[WData.list (ns.map WData.int)]/\h.get? a=some { cls:= .type "list",data:= .seq vs.toArray }/\IntsAre vs ns/\ns.length<=n:=by
 have XI:WShape.hasAll [] args [.list .int]=true:=(pre_splitW DP).1
 have hc:l.pre.holds [] { args:=args }=true:=(pre_splitW DP).2
 obtain ⟨d,r,rfl,h1,h2⟩:=hasAllW_cons XI
 obtain rfl:=hasAllW_nil h2
 obtain ⟨xs,rfl,h3⟩:=hasW_list h1
 obtain ⟨ns,rfl⟩:=items_int h3
 have hlen:ns.length<=n:=by
  unfold OpenLaw.pre at hc
  have h4:(WTm.not (.lt (.lit (.int (n:Int))) (.len (.arg 0)))).holds [] { args:=[.list (ns.map .int)] }=true:=by
   have h4:=(holds_andW hc).1
   rw[hn]at h4
   exact h4
  have h5:=condW_of h4 (w_not (w_lt w_lit (w_len_list (w_arg rfl))))
  rw[List.length_map]at h5
  refine Nat.le_of_not_lt fun q=>?_
  have q':(n:Int)<((ns.length:Nat):Int):=by omega
  first
   |(rw[decide_eq_true q']at h5;exact absurd h5 (by decide))
   |(simp at h5;omega)
 cases Gg with
 | cons w1 w2=>
  cases w2
  cases w1 with
  | list ho iY=>exact ⟨_,_,ns,rfl,rfl,ho,mI ns _ iY,hlen⟩
theorem zP (l:OpenLaw) (args:List WData):l.row.toRowW.claim.post args (.bool true) args=true:=
 postW_of (r:=l.row.toRowW) (X:=(true==true))
  (show WShape.has [] (.bool true) .bool=true by first | rfl | decide | simp[WShape.has,WShape.arms,WShape.armsAll])
  (show (WTm.eq .res (.lit (.bool true))).value [] { args:=args,res:=some (.bool true),after:=args }=some (.bool (true==true)) from w_eq_bool (w_res rfl) w_lit) rfl
theorem uw {l:OpenLaw} {n:Nat} {q:Program} {loose:List Str} {XP:(Str->Option Value)->Heap->Prop} {YP:World->Heap->Prop} {d:DefRec}
  (hn:l.most=some n) (Lp:d.params.defaults=[])
  (call: ∀(w:World) (s₀ s₁:Shared) (mg mb:Str->Option Value) (fa:Addr) (o:Obj) (pm cd doc:Value) (a:Addr) (vs:List Value) (ns:List Int),
   Ground q loose [] XP w s₀ mg mb s₁.heap->YP w s₁.heap->
   s₁.heap.get? fa=some o->o.data= .func (docDef d.name d.params d.body d.scope pm cd doc)->s₁.heap.CodeRec cd d.name->mg d.name=some (.ref fa)->
   s₁.heap.get? a=some { cls:= .type "list",data:= .seq vs.toArray }->IntsAre vs ns->ns.length<=n->s₁.gens= #[]->
   codeAny (model l.prog w) callerA (.call (.ref fa) ⟨[.ref a],[]⟩) (fun r s'=>r= .ok (.ret (.bool true))/\OldK s₁.heap s'.heap/\s'.os=s₁.os/\AllBare s'.gens) s₁):
  WalkO q loose XP YP l.row.toRowW d [] (fun f vs=>PySem.call f vs):=by
 intro w s₀ s₁ mg mb G Y fa o pm cd doc dV kV ho hd t_ hD hmg hg args vals as DP XJ Vs Gg HW
 obtain rfl:dV= .none:=Dflts.none hD Lp
 obtain rfl:kV= .none:=Dflts.noKw hD
 obtain ⟨a,vs,ns,rfl,rfl,HX,hints,hlen⟩:=zO hn DP Gg
 refine enter_call (codeAny_mono (call w s₀ s₁ mg mb fa o pm cd doc a vs ns G Y ho (fd_plain hd) t_ hmg HX hints hlen hg) fun r s' hq=>?_)
 obtain ⟨rfl,h2,h3,h4⟩:=hq
 exact ⟨.inl ⟨.bool true, .bool true,[],rfl,fun _=>rfl, .bool true,zP l _,fun _=>⟨List.Pairwise.nil,fun _ hm=>(nomatch hm)⟩⟩,h2,h3,h4⟩
section
variable {prog:Program} {w:World} {A:Around} {E:Value->Shared->Prop} {s:Shared} {K:Frag}
noncomputable def ledger (h:Heap) (L d:Addr):List (Addr×Obj):=(List.range h.objs.size).filterMap fun a=>if a=L\/a=d then none else (h.get? a).map fun o=>(a,o)
end
end Vr
namespace L2
open PySem PySem.Spec PyProof.Rows
theorem qG: ∀{vs:List Value} {ns:List Int},IntsAre vs ns->Vals (ns.map V.int) vs
 | _,_, .nil=> .nil
 | _,_, .cons n t h=> .cons ⟨t,rfl⟩ (qG h)
noncomputable def HY (H:Hp):Prop:= ∀b,H b=none\/ ∃o xs,H b=some (.wc o (.lst xs))
theorem Bw {P:Program} {w:World} {K:PySem.W.Frag} {mg mb:Str->Option Value} {CX:wB} {k:Nat} {fa a:Addr} {fd:FuncData} {x:Str} {sp:Sp} {s₁:Shared} {vs:List Value} {ns:List Int}
  (KX:K.In s₁.heap) (DQ:s₁.heap.Ns mainGlobals mg) (hb:s₁.heap.Ns builtinsNs mb) (Oi: ∀x:Str,x≠"__name__"->mb x=bootBuiltins x) (Pr:s₁.heap.NoLimit) (hg:s₁.gens= #[])
  (ha:s₁.heap.get? a=some { cls:= .type "list",data:= .seq vs.toArray }) (hi:IntsAre vs ns) (hl:ns.length<=sizeLine) (hr:eh k callerA)
  (F: ∀base:Heap,K.In base->base.Ns mainGlobals mg->bE P w K mg base CX k fa fd [x] sp) (Lq: ∀(s:Shared) (u:Value),BindsTo s fd ⟨[u],[]⟩ [(x,u)])
  (C8: ∀H:Hp,HY H->bt K H a (ns.map V.int)->sp [.ref a] H (fun v _=>v= .bl true) fun _ _ _=>False)
  (Pt: ∀H e s',CX [] H s₁ (fun _ _ _=>False) e s'->False):
  codeAny (model P w) callerA (.call (.ref fa) ⟨[.ref a],[]⟩) (fun r s'=>r= .ok (.ret (.bool true))/\OldK s₁.heap s'.heap/\s'.os=s₁.os/\AllBare s'.gens) s₁:=by
 have rv:=qG hi
 have Pu:=hi.length
 -- from an abstract heap in Vt nothing but Dz script may be tracked
 have core: ∀H:Hp,HY H->bt K H a (ns.map V.int)->iq P w H s₁.heap->(∀b,H b≠none->b=a)->(H a≠none->K.lookup a=none)->
   codeAny (model P w) callerA (.call (.ref fa) ⟨[.ref a],[]⟩) (fun r s'=>r= .ok (.ret (.bool true))/\OldK s₁.heap s'.heap/\s'.os=s₁.os/\AllBare s'.gens) s₁:=by
  intro H hO hS a_ hA hK
  have yf: ∀{b:Addr} {o:Obj},s₁.heap.get? b=some o->H b=none->(rF s₁.heap H).get? b=some o:=fun e n=>Bd e n
  have Lf: ∀{b:Addr} {o:Obj} {es:Array DictEntry} {ep:Nat},s₁.heap.get? b=some o->o.data= .dict es ep->H b=none:=fun {b o es ep} e d=>by
   cases q:H b with
   | none=>rfl
   | some u=>
    have e':b=a:=hA b (by rw[q];simp)
    subst e'
    rw[ha]at e;cases e
    have d':Data.seq vs.toArray _=Data.dict es ep:=d
    cases d'
  have Oj: ∀{b:Addr} {m:Str->Option Value},s₁.heap.Ns b m->(rF s₁.heap H).Ns b m:=fun {b m} ⟨o,es,ep,e,d,r⟩=>⟨o,es,ep,yf e (Lf e d),d,r⟩
  have Vu:K.In (rF s₁.heap H):=fun b o e=>yf (KX b o e) (by
   cases q:H b with
   | none=>rfl
   | some u=>
    have e':b=a:=hA b (by rw[q];simp)
    subst e'
    rw[hK (by rw[q];simp)]at e;cases e)
  have hM:Mod K mg (rF s₁.heap H):=⟨Vu,Oj DQ,⟨mb,Oj hb,Oi⟩,let ⟨mc,h1,h2⟩:=Pr;⟨mc,Oj h1,h2⟩⟩
  have e0:uk P w K mg (rF s₁.heap H) callerA [] s₁ H:=⟨rfl,hM,fun b o e=>Dr e,Nat.le_of_eq (zw _ _),trivial,fun b hb=>absurd (show b∈([]:List Addr) from hb) (by simp),a_, .of_eq hg⟩
  refine codeAny_mono ((F _ Vu (Oj DQ)).run callerA [] s₁ H ⟨[.ref a],[]⟩ [.ref a] [.ref a] _ _ hr e0 (Lq s₁ (.ref a)) (.cons rfl .nil) (C8 H hO hS)) fun r s' h=>?_
  cases r with
  | error e=>exact (Pt H e s' h).elim
  | ok fl=>
   cases fl with
   | next=>exact False.elim h
   | brk=>exact False.elim h
   | cont=>exact False.elim h
   | ret u=>
    obtain ⟨v,H',os,bare,un,Pw,r',q⟩:=h
    have q':v= .bl true:=q
    subst q'
    obtain rfl:u=Value.bool true:=r'
    refine ⟨rfl,OldK.of_keep fun b o e=>?_,os,bare⟩
    cases q:H b with
    | none=>exact un.keep b o e q (by intro z;exact absurd (show b∈([]:List Addr) from z) (by simp)) (by simp)
    | some u=>
     rcases hO b with z | ⟨ob,xs,z⟩
     ·rw[q]at z;cases z
     ·have z2:=un.jE b ob _ z
      obtain ⟨e1,_⟩:=a_ b _ z
      obtain ⟨e2,_⟩:=Pw b _ z2
      rw[e]at e1;cases e1
      exact e2
 cases hk:K.lookup a with
 | some o=>
  -- Dz script is one of Dz Bu own objects
  have e:=KX a o hk
  rw[ha]at e
  cases e
  refine core (fun _=>none) (fun _=> .inl rfl) (.inr ⟨_,vs.toArray,_,hk,rfl,rfl,rfl,by rw[List.size_toArray,Pu];exact hl,by simpa using rv⟩) (fun b u z=>by have z':(none:Option HO)=some u:=z;cases z') (fun b z=>absurd rfl z) fun z=>absurd rfl z
 | none=>
  refine core (fun b=>if b=a then some (.wc { cls:= .type "list",data:= .seq vs.toArray } (.lst (ns.map V.int))) else none) (fun b=>?_) (.inl (.inr ⟨{ cls:= .type "list",data:= .seq vs.toArray },if_pos rfl⟩)) (fun b u z=>?_) (fun b z=>?_) fun _=>hk
  ·by_cases hb:b=a
   ·exact .inr ⟨_,_,if_pos hb⟩
   ·exact .inl (if_neg hb)
  ·by_cases hb:b=a
   ·have z':=(if_pos hb).symm.trans z
    cases z'
    subst hb
    exact ⟨ha,by rw[List.length_map];exact hl,vs,_,rv,ha⟩
   ·have z':=(if_neg hb).symm.trans z
    cases z'
  ·by_cases hb:b=a
   ·exact hb
   ·exact absurd (if_neg hb) z
end L2
namespace L2
open PySem PySem.Spec PyProof.Rows
noncomputable abbrev Vv {K:PySem.W.Frag} {h:Heap} (_:K.In h):PySem.W.Frag:=K
theorem yg {l:PySem.W.OpenLaw} {n k:Nat} {q:Program} {loose:List Str} {XP:(Str->Option Value)->Heap->Prop} {YP:World->Heap->Prop} {d:DefRec} {K:Params->PySem.W.Frag} {CX:World->wB} {sp:World->Sp} {x:Str}
  (hn:l.most=some n) (Lr:n<=sizeLine) (Lp:d.params.defaults=[]) (hr:eh k callerA)
  (hY: ∀(w:World) (h:Heap),YP w h->(K w.params).In h)
  (F: ∀(w:World) (mg:Str->Option Value) (fa:Addr) (h:Heap),(K w.params).In h->h.Ns mainGlobals mg->mg d.name=some (.ref fa)->
   ∃fd:FuncData,(∀(s:Shared) (u:Value),BindsTo s fd ⟨[u],[]⟩ [(x,u)])/\
    ∀base:Heap,(K w.params).In base->base.Ns mainGlobals mg->bE l.prog w (K w.params) mg base (CX w) k fa fd [x] (sp w))
  (C8: ∀(w:World) (H:Hp) (a:Addr) (ns:List Int),ns.length<=n->HY H->bt (K w.params) H a (ns.map V.int)->sp w [.ref a] H (fun v _=>v= .bl true) fun _ _ _=>False)
  (Pt: ∀(w:World) (H:Hp) (s:Shared) (e:Value) (s':Shared),CX w [] H s (fun _ _ _=>False) e s'->False):
  PySem.W.WalkO q loose XP YP l.row.toRowW d [] (fun f vs=>PySem.call f vs):=by
 refine Vr.uw hn Lp fun w s₀ s₁ mg mb fa o pm cd doc a vs ns G Y ho hd t_ hmg HX hints hlen hg=>?_
 have KX:=hY w _ Y
 obtain ⟨fd,hb,hF⟩:=F w mg fa _ KX G.T.g hmg
 exact Bw KX G.T.g G.T.b G.T.builtins G.T.nolimit hg HX hints (Nat.le_trans hlen Lr) hr hF hb (fun H hO hS=>C8 w H a ns hlen hO hS) fun H e s'=>Pt w H s₁ e s'
end L2
namespace L2
open PySem PySem.Spec PyProof.Rows
noncomputable def aR (s:Stmt):Arguments:=match s with
 | .FunctionDef _ a _ _ _ _ _ _ _ _=>a
 | _=>{ posonlyargs:=[],args:=[],vararg:=none,kwonlyargs:=[],kw_defaults:=[],kwarg:=none,defaults:=[] }
noncomputable def aP (s:Stmt):List Stmt:=match s with
 | .FunctionDef _ _ b _ _ _ _ _ _ _=>b
 | _=>[]
noncomputable def au (s:Stmt):Scope:=match s with
 | .FunctionDef _ _ _ _ _ _ sc _ _ _=>sc
 | _=>{ kind:= .function,names:=[],isGenerator:=false,isCoroutine:=false }
noncomputable abbrev eK:wB:=fun _ _ _ _ _ _=>False
noncomputable abbrev E0:XK:=fun _ _ _=>False
theorem aO {X:Cx}:Passes eK X E0:=fun _ _ _ _ _ _ _ h=>h.elim
structure DR (K:PySem.W.Frag) (x qual:Str) (st:Stmt) (f:Addr) (fd:FuncData):Prop where
 ex: ∃(oc:Value) (od:Option Addr) (kV doc pm:Value) (an:Option Addr) (cN ct:Value) (x_:Array (Option Value)),
  fd=PySem.W.fnOf x qual (aR st) (aP st) (au st) .none kV doc pm an cN ct/\K.lookup f=some ⟨oc,od, .func fd,x_⟩/\PySem.W.codeIn K cN qual=true
 kp:PySem.W.keepIn K (.ref f)=true
section
variable {P:Program} {w:World} {K:PySem.W.Frag} {mg:Str->Option Value} {base:Heap}
theorem DR.ok {x qual:Str} {st:Stmt} {f:Addr} {fd:FuncData} {N ps:List Str} {k:Nat} {sp:Sp} (F:DR K x qual st f fd) (S:aQ N ps (au st)) (len: ∀vs H Q E,sp vs H Q E->vs.length=ps.length)
  (uo: ∀(cN:Value) (A:Around) (outer:List Env) (s:Shared) (H:Hp) (vs:List V) (Q:VK) (E:XK),eh k (A.deeper (envOfC qual (au st) s.heap.objs.size f cN))->sp vs H Q E->
   ∃t,rH (pQ eK P w K mg base N qual (au st) f cN A outer s H E).Oc (aP st) t/\t { nx:=fun _ H'=>Q .cT H',rt:=Q } (start N vs) H):bE P w K mg base eK (k+1) f fd ps sp:=by
 obtain ⟨oc,od,kV,doc,pm,an,cN,ct,x_,rfl,lk,t_⟩:=F.ex
 refine Gd lk t_ S len fun A outer s H vs Q E hr C8=>?_
 obtain ⟨t,h,q⟩:=uo cN A outer s H vs Q E hr C8
 exact ⟨t,h.Oc,q⟩
theorem DR.binds {x qual:Str} {st:Stmt} {f:Addr} {fd:FuncData} {ps:List Str} (F:DR K x qual st f fd)
  (h: ∀(kV doc pm:Value) (an:Option Addr) (cN ct:Value) (us:List Value),us.length=ps.length->bindArgs (PySem.W.fnOf x qual (aR st) (aP st) (au st) .none kV doc pm an cN ct) ⟨us,[]⟩=pure (ps.zip us)):Binds K fd ps []:=by
 obtain ⟨oc,od,kV,doc,pm,an,cN,ct,x_,rfl,lk,t_⟩:=F.ex
 exact .all (h kV doc pm an cN ct)
theorem bj {x qual:Str} {st:Stmt} {f:Addr} {oc:Value} {od an:Option Addr} {x_:Array (Option Value)} {kV doc pm cN ct:Value} (l:K.lookup f=some ⟨oc,od, .func (PySem.W.fnOf x qual (aR st) (aP st) (au st) .none kV doc pm an cN ct),x_⟩)
  (c:PySem.W.codeIn K cN qual=true) (k:PySem.W.keepIn K (.ref f)=true):DR K x qual st f (PySem.W.fnOf x qual (aR st) (aP st) (au st) .none kV doc pm an cN ct):=⟨⟨oc,od,kV,doc,pm,an,cN,ct,x_,rfl,l,c⟩,k⟩
end
theorem qH {A:Around} {k:Nat} (hr:eh k A):A.units+1<cLine:=Nat.lt_of_le_of_lt (Nat.add_le_add_left (by decide:1<=64) _) hr.units
theorem zQ {n:Nat} (h:n<=1000):n<sizeLine:=Nat.lt_of_le_of_lt h (by decide)
section
variable {X:Cx}
theorem pv (i:Nat) {x:Str} {pos:Pos} (hN:X.N[i]? =some x:=by rfl) (hv:KP X.env.scope x:=by first | exact Or.inl rfl | exact Or.inr (Or.inl rfl) | exact Or.inr (Or.inr rfl)) (hd:(x==("__debug__":Str))=false:=by decide)
  (t_:(x==("__classdict__":Str))=false:=by decide):PE X (.Name x pos) (rJ i):=Hj hN hv hd t_
end
theorem wK {A B:Prop} (h:B):if false=true then A else B:=by
 rw[if_neg Bool.false_ne_true]
 exact h
theorem wL {A B:Prop} (h:A):if true=true then A else B:=by
 rw[if_pos rfl]
 exact h
theorem cj {c A B:Prop} [Decidable c] (h1:c->A) (h2: ¬c->B):if c then A else B:=by
 by_cases h:c
 ·rw[if_pos h]
  exact h1 h
 ·rw[if_neg h]
  exact h2 h
noncomputable def ar (H H':Hp):Prop:= ∀b o,H b=some o->H' b=some o
theorem ar.refl (H:Hp):ar H H:=fun _ _ h=>h
theorem ar.trans {H H1 H2:Hp} (a:ar H H1) (b:ar H1 H2):ar H H2:=fun c o h=>b c o (a c o h)
theorem ar.free {H H':Hp} (e:ar H H') {l:Addr} (h:H' l=Option.none):H l=Option.none:=by
 cases q:H l with
 | none=>rfl
 | some o=>
  rw[e l o q]at h
  cases h
theorem ar.seq {K:PySem.W.Frag} {H H':Hp} {a:Addr} {xs:List V} (e:ar H H') (h:bt K H a xs):bt K H' a xs:=by
 rcases h with (h | ⟨o,h⟩) | h
 ·exact .inl (.inl (e _ _ h))
 ·exact .inl (.inr ⟨o,e _ _ h⟩)
 ·exact .inr h
end L2
namespace L2
open PySem PySem.Spec PyProof.Rows
noncomputable def eO (env:Env):List (Str×NameKind)->List (Str×Addr)->List (Str×Addr)
 | [],acc=>acc
 |(n,k)::r,acc=>eO env r (if k== .free then (match env.cells.lookup n with | some a=>(n,a)::acc | none=>acc) else acc)
theorem eL {env:Env}: ∀(names:List (Str×NameKind)) (acc:List (Str×Addr)),(∀y∈names,y.2= .free-> ∃c,env.cells.lookup y.1=some c)->
  (forIn names acc fun (x:Str×NameKind) (cs:List (Str×Addr))=>(if (x.2==NameKind.free)=true then do let a <-cellOf env x.1;pure (ForInStep.yield ((x.1,a)::cs)) else pure (ForInStep.yield cs):Sem (ForInStep (List (Str×Addr)))))=pure (eO env names acc)
 | [],acc,_=>rfl
 |(n,k)::r,acc,h=>by
  rw[List.forIn_cons]
  have hr: ∀y∈r,y.2= .free-> ∃c,env.cells.lookup y.1=some c:=fun y hy=>h y (List.mem_cons_of_mem _ hy)
  cases hk:(k==NameKind.free) with
  | false=>
   have e1:eO env ((n,k)::r) acc=eO env r acc:=by
    show eO env r (if (k==NameKind.free)=true then (match env.cells.lookup n with | some a=>(n,a)::acc | none=>acc) else acc)=_
    rw[hk,if_neg Bool.false_ne_true]
   rw[e1, <-eL r acc hr]
   simp only[hk,Bool.false_eq_true,if_false,pure_bind]
  | true=>
   obtain ⟨c,hc⟩:=h (n,k) List.mem_cons_self (by simpa using hk)
   have e1:eO env ((n,k)::r) acc=eO env r ((n,c)::acc):=by
    have qv:env.cells.lookup n=some c:=hc
    show eO env r (if (k==NameKind.free)=true then (match env.cells.lookup n with | some a=>(n,a)::acc | none=>acc) else acc)=_
    rw[hk,qv,if_pos rfl]
   have e2:cellOf env n=pure c:=by
    have qv:env.cells.lookup n=some c:=hc
    unfold cellOf
    rw[qv]
   rw[e1, <-eL r ((n,c)::acc) hr]
   simp only[hk,if_true,e2,pure_bind]
theorem gC {scope:Scope} {env:Env} (h: ∀y∈scope.names,y.2= .free-> ∃c,env.cells.lookup y.1=some c):closureFor scope env=pure (eO env scope.names []):=by
 have e:=eL scope.names [] h
 simp only[closureFor]
 rw[e]
 rfl
theorem jn {env:Env} {x:Str} {c:Addr}: ∀(names:List (Str×NameKind)) (acc:List (Str×Addr)),(∀y d,acc.lookup y=some d->env.cells.lookup y=some d)->(eO env names acc).lookup x=some c->env.cells.lookup x=some c
 | [],acc,ha,h=>ha x c h
 |(n,k)::r,acc,ha,h=>by
  refine jn r _ (fun y d q=>?_) h
  by_cases hk:(k==NameKind.free)=true
  ·rw[if_pos hk]at q
   cases e:env.cells.lookup n with
   | none=>rw[e]at q;exact ha y d q
   | some a=>
    rw[e]at q
    have q':List.lookup y ((n,a)::acc)=some d:=q
    rw[List.lookup_cons]at q'
    cases hy:(y==n) with
    | true=>
     rw[hy]at q'
     have:y=n:=by simpa using hy
     subst this
     rw[e];exact q'
    | false=>rw[hy]at q';exact ha y d q'
  ·rw[if_neg hk]at q;exact ha y d q
theorem ux {env:Env} {x:Str}: ∀(names:List (Str×NameKind)) (acc:List (Str×Addr)),(∃c,acc.lookup x=some c)-> ∃c,(eO env names acc).lookup x=some c
 | [],acc,h=>h
 |(n,k)::r,acc,⟨c,hc⟩=>by
  refine ux r _ ?_
  by_cases hk:(k==NameKind.free)=true
  ·rw[if_pos hk]
   cases e:env.cells.lookup n with
   | none=>exact ⟨c,hc⟩
   | some a=>
    show ∃c,List.lookup x ((n,a)::acc)=some c
    rw[List.lookup_cons]
    cases hy:(x==n) with
    | true=>exact ⟨a,rfl⟩
    | false=>exact ⟨c,hc⟩
  ·rw[if_neg hk];exact ⟨c,hc⟩
theorem nH {env:Env} {x:Str}: ∀(names:List (Str×NameKind)) (acc:List (Str×Addr)),(∀y∈names,y.2= .free-> ∃c,env.cells.lookup y.1=some c)->names.lookup x=some .free-> ∃c,(eO env names acc).lookup x=some c
 | [],acc,_,h=>by simp at h
 |(n,k)::r,acc,hf,h=>by
  have hr: ∀y∈r,y.2= .free-> ∃c,env.cells.lookup y.1=some c:=fun y hy=>hf y (List.mem_cons_of_mem _ hy)
  rw[List.lookup_cons]at h
  cases hy:(x==n) with
  | true=>
   rw[hy]at h
   have hk:k= .free:=Option.some.inj h
   subst hk
   have hx:x=n:=by simpa using hy
   subst hx
   obtain ⟨c,hc⟩:=hf (x, .free) List.mem_cons_self rfl
   have qv:env.cells.lookup x=some c:=hc
   refine ux r _ ⟨c,?_⟩
   rw[if_pos (show (NameKind.free==NameKind.free)=true by decide),qv]
   show List.lookup x ((x,c)::acc)=some c
   rw[List.lookup_cons]
   simp
  | false=>
   rw[hy]at h
   exact nH r _ hr h
theorem kf {env:Env}: ∀{names:List (Str×NameKind)} {x:Str},names.lookup x=some .free->
  ((names.map fun (n,k)=>if (k==NameKind.free&&env.scope.kind== .function&&env.kindOf n==some .cell) then (n,NameKind.cell) else (n,k)).lookup x=some .cell\/
   (names.map fun (n,k)=>if (k==NameKind.free&&env.scope.kind== .function&&env.kindOf n==some .cell) then (n,NameKind.cell) else (n,k)).lookup x=some .free)
 | [],_,h=>by simp at h
 |(n,k)::r,x,h=>by
  have ih:= @kf env r x
  show (List.lookup x ((if (k==NameKind.free&&env.scope.kind== .function&&env.kindOf n==some .cell)=true then (n,NameKind.cell) else (n,k))::_)=_\/List.lookup x ((if (k==NameKind.free&&env.scope.kind== .function&&env.kindOf n==some .cell)=true then (n,NameKind.cell) else (n,k))::_)=_)
  cases hx:x==n with
  | true=>
   simp only[List.lookup_cons,hx]at h
   cases h
   by_cases hc:((NameKind.free==NameKind.free)&&env.scope.kind== .function&&env.kindOf n==some .cell)=true
   ·rw[if_pos hc];simp[List.lookup_cons,hx]
   ·rw[if_neg hc];simp[List.lookup_cons,hx]
  | false=>
   simp only[List.lookup_cons,hx]at h
   by_cases hc:(k==NameKind.free&&env.scope.kind== .function&&env.kindOf n==some .cell)=true
   ·rw[if_pos hc];simp only[List.lookup_cons,hx];exact ih h
   ·rw[if_neg hc];simp only[List.lookup_cons,hx];exact ih h
theorem kg {env:Env}: ∀{names:List (Str×NameKind)} {x:Str},(∀y∈names,y.2≠ .cell)->
  ((names.map fun (n,k)=>if (k==NameKind.free&&env.scope.kind== .function&&env.kindOf n==some .cell) then (n,NameKind.cell) else (n,k)).lookup x=some .cell\/
   (names.map fun (n,k)=>if (k==NameKind.free&&env.scope.kind== .function&&env.kindOf n==some .cell) then (n,NameKind.cell) else (n,k)).lookup x=some .free)->names.lookup x=some .free
 | [],_,_,h=>by simp at h
 |(n,k)::r,x,hn,h=>by
  have ih:= @kg env r x (fun y hy=>hn y (List.mem_cons_of_mem _ hy))
  have hk:=hn (n,k) List.mem_cons_self
  have h':(List.lookup x ((if (k==NameKind.free&&env.scope.kind== .function&&env.kindOf n==some .cell)=true then (n,NameKind.cell) else (n,k))::(r.map fun (n,k)=>if (k==NameKind.free&&env.scope.kind== .function&&env.kindOf n==some .cell) then (n,NameKind.cell) else (n,k)))=some .cell\/List.lookup x ((if (k==NameKind.free&&env.scope.kind== .function&&env.kindOf n==some .cell)=true then (n,NameKind.cell) else (n,k))::(r.map fun (n,k)=>if (k==NameKind.free&&env.scope.kind== .function&&env.kindOf n==some .cell) then (n,NameKind.cell) else (n,k)))=some .free):=h
  cases hx:x==n with
  | true=>
   rw[List.lookup_cons,hx]
   by_cases hc:(k==NameKind.free&&env.scope.kind== .function&&env.kindOf n==some .cell)=true
   ·have:(k==NameKind.free)=true:=by
     rw[Bool.and_eq_true,Bool.and_eq_true]at hc;exact hc.1.1
    have Ki:k= .free:=by simpa using this
    rw[Ki]
   ·rw[if_neg hc]at h'
    simp only[List.lookup_cons,hx]at h'
    rcases h' with h' | h'
    ·exact absurd (Option.some.inj h') hk
    ·exact h'
  | false=>
   rw[List.lookup_cons,hx]
   by_cases hc:(k==NameKind.free&&env.scope.kind== .function&&env.kindOf n==some .cell)=true
   ·rw[if_pos hc]at h';simp only[List.lookup_cons,hx]at h';exact ih h'
   ·rw[if_neg hc]at h';simp only[List.lookup_cons,hx]at h';exact ih h'
noncomputable abbrev C_:Value->Shared->Prop:=fun _ _=>False
theorem rY {prog:Program} {w:World} {A:Around} {R:Result->Shared->Prop} {s:Shared} {elt target iter:Expr} {ifs:List Expr} {scope:Scope} {pos:Pos} {it acc:Value} {env:Env} (I:Nat->Shared->Prop)
  (turn: ∀n s,I n s->wpAny (model prog w) A (pyNext it) (fun r s₁=>match r with
   | none=>R (.ok .next) s₁
   | some v=>wpAny (model prog w) A (letOwnedTupleGo target it v) (fun _ Ls=>wpAny (model prog w) A (assign target env v) (fun _ s₂=>
     wpAny (model prog w) A (forIn ifs true fun c r=>if r=true then do let ok <-isTrue c env (eval c env);pure (ForInStep.yield ok) else pure (ForInStep.yield r)) (fun ok s₃=>
      if ok=true then wpAny (model prog w) A (eval elt env) (fun x s₄=>
       wpAny (model prog w) A (call (.builtin "list.append") [acc,x]) (fun _ s₅=> ∃m,m<n/\I m s₅) C_ s₄) C_ s₃
      else ∃m,m<n/\I m s₃) C_ s₂) C_ Ls) C_ s₁) C_ s)
  (n:Nat) (h:I n s):codeAny (model prog w) A (.compLoop (.ListComp elt [⟨target,iter,ifs,0⟩] scope pos) 0 it acc env) R s:=by
 refine codeAny_loop rfl I (fun n s hI=>?_) n h
 show wpAny _ A ((compTurn (.ListComp elt [⟨target,iter,ifs,0⟩] scope pos) 0 it acc env).onRaise (fun x=>do noteFrame x env;theTreesLotGoes x)) _ _ s
 refine wpAny_noted ?_
 rw[compTurn_list]
 have no: ∀{F:Value->Shared->Prop} (e:Value) (s':Shared),C_ e s'->F e s':=fun _ _ h=>h.elim
 refine wpAny_bind (wpAny_standAt (wpAny_bind (wpAny_mono (turn n s hI) (fun r s₁ h₁=>?_) no)))
 cases r with
 | none=>exact wpAny_pure h₁
 | some v=>
  refine wpAny_bind (wpAny_mono h₁ (fun _ Ls Px=>?_) no)
  refine wpAny_bind (wpAny_mono Px (fun _ s₂ h₂=>wpAny_bind (wpAny_mono h₂ (fun ok s₃ h₃=>?_) no)) no)
  cases ok with
  | false=>exact wpAny_pure ⟨rfl,h₃⟩
  | true=>
   exact wpAny_bind (wpAny_bind (wpAny_mono h₃ (fun x s₄ h₄=>wpAny_bind (wpAny_mono h₄ (fun _ s₅ h₅=>wpAny_pure (wpAny_pure ⟨rfl,h₅⟩)) no)) no))
noncomputable def bh (X:Cx) (scope:Scope) (C:Addr) (Nc:List Str) (s:Shared) (H:Hp) (fp:List Addr):Cx where
 prog:=X.prog
 w:=X.w
 K:=X.K
 mg:=X.mg
 base:=X.base
 A:=X.A
 N:=Nc
 s₀:=s
 H₀:=H
 env:=compEnvC scope (eO X.env scope.names []) C X.env
 outer:=X.stack
 stack:=X.stack
 ex:=fp
 fn:=fun _=>false
 calm:=X.calm
 pn:=[]
 xe:=C_
noncomputable def iR (X:Cx) (scope:Scope):List Str->List (Option Nat)->Prop
 | [],[]=>True
 | _::ys,none::os=>iR X scope ys os
 | y::ys,some j::os=>(X.N[j]? =some y/\scope.names.lookup y=some .free/\(X.env.kindOf y=some .cell\/X.env.kindOf y=some .free))/\iR X scope ys os
 | _,_=>False
noncomputable def iK (σ:St) (ix:List (Option Nat)):St:=ix.map fun o=>match o with | none=>none | some j=>(σ[j]?).getD none
noncomputable def Wk:St->St->Prop
 | [],[]=>True
 | none::a,_::b=>Wk a b
 | some v::a,w::b=>w=some v/\Wk a b
 | _,_=>False
theorem Wk.len: ∀{a b:St},Wk a b->a.length=b.length
 | [],[],_=>rfl
 | none::a,_::b,h=>congrArg (· +1) (Wk.len (a:=a) (b:=b) h)
 | some _::a,_::b,h=>congrArg (· +1) (Wk.len (a:=a) (b:=b) h.2)
theorem Wk.get: ∀{a b:St} {i:Nat} {v:V},Wk a b->a[i]? =some (some v)->b[i]? =some (some v)
 | [],[],i,v,_,h=>by simp at h
 | none::a,x::b,0,v,_,h=>by simp at h
 | none::a,x::b,i+1,v,k,h=>by
  have:=Wk.get (a:=a) (b:=b) (i:=i) (v:=v) k (by simpa using h)
  simpa using this
 | some y::a,x::b,0,v,k,h=>by
  have e:y=v:=by simpa using h
  subst e
  simp[k.1]
 | some y::a,x::b,i+1,v,k,h=>by
  have:=Wk.get (a:=a) (b:=b) (i:=i) (v:=v) k.2 (by simpa using h)
  simpa using this
theorem iR.len {X:Cx} {scope:Scope}: ∀{N:List Str} {ix:List (Option Nat)},iR X scope N ix->ix.length=N.length
 | [],[],_=>rfl
 | _::ys,none::os,h=>congrArg (· +1) (iR.len (N:=ys) (ix:=os) h)
 | _::ys,some _::os,h=>congrArg (· +1) (iR.len (N:=ys) (ix:=os) h.2)
theorem iR.get {X:Cx} {scope:Scope}: ∀{N:List Str} {ix:List (Option Nat)} {i j:Nat},iR X scope N ix->ix[i]? =some (some j)-> ∃y,N[i]? =some y/\X.N[j]? =some y/\scope.names.lookup y=some .free/\(X.env.kindOf y=some .cell\/X.env.kindOf y=some .free)
 | [],[],i,j,_,h=>by simp at h
 | y::ys,none::os,0,j,_,h=>by simp at h
 | y::ys,none::os,i+1,j,k,h=>by
  obtain ⟨z,h1,h2⟩:=iR.get (N:=ys) (ix:=os) (i:=i) (j:=j) k (by simpa using h)
  exact ⟨z,by simpa using h1,h2⟩
 | y::ys,some j'::os,0,j,k,h=>by
  have e:j'=j:=by simpa using h
  subst e
  exact ⟨y,by simp,k.1⟩
 | y::ys,some j'::os,i+1,j,k,h=>by
  obtain ⟨z,h1,h2⟩:=iR.get (N:=ys) (ix:=os) (i:=i) (j:=j) k.2 (by simpa using h)
  exact ⟨z,by simpa using h1,h2⟩
theorem zR {σ:St} {ix:List (Option Nat)} {i:Nat} {v:V} (h:(iK σ ix)[i]? =some (some v)): ∃j,ix[i]? =some (some j)/\σ[j]? =some (some v):=by
 unfold iK at h
 rw[List.getElem?_map]at h
 cases e:ix[i]? with
 | none=>rw[e]at h;cases h
 | some o=>
  rw[e]at h
  cases o with
  | none=>cases h
  | some j=>
   refine ⟨j,rfl,?_⟩
   have h':some ((σ[j]?).getD none)=some (some v):=h
   cases q:σ[j]? with
   | none=>rw[q]at h';cases h'
   | some z=>rw[q]at h';cases h';rfl
end L2
namespace L2
open PySem PySem.Spec PyProof.Rows
theorem nI {X:Cx} {pins:List (Addr×Obj)} {σ:St} {H:Hp} {s:Shared} (I:Inv X pins σ H s) {scope:Scope} {Nc:List Str} {ix:List (Option Nat)} (v5:iR X scope Nc ix) (dJ: ∀y∈scope.names,y.2≠ .cell)
  (dM:scope.kind= .function) (pL: ∀y∈scope.names,y.2= .free->X.env.kindOf y.1=some .cell\/X.env.kindOf y.1=some .free) {fp:List Addr} (hf: ∀b∈fp,iw X pins H b) (DS: ∀b∈fp, ∃o,s.heap.get? b=some o)
  {C:Addr} {h':Heap} {t':Nat} {m0:Str->Option Value} (hC:s.heap.objs.size<=C) (DQ:h'.Ns C m0) (k: ∀b o,s.heap.get? b=some o->h'.get? b=some o):
  Inv (bh X scope C Nc s H fp) [] (iK σ ix) H { s with heap:=h',toks:=t' }:=by
 have Gh: ∀y∈scope.names,y.2= .free-> ∃c,X.env.cells.lookup y.1=some c:=fun y hy e=>I.ok.has y.1 (pL y hy e)
 have iL: ∀{x:Str} {c:Addr},(eO X.env scope.names []).lookup x=some c->X.env.cells.lookup x=some c:=fun {x c} e=>jn scope.names [] (fun y d q=>by simp at q) e
 refine ⟨⟨I.ok.mod,dM,I.ok.glob,I.ok.blt,hC,fun x y c h1 h2=>I.ok.inj x y c (iL h1) (iL h2),fun x hx=>?_,fun x c h=>?_,I.ok.hd,I.ok.frames, .inl rfl,fun b hb=>?_,I.bs,Nat.le_trans I.ok.xT I.sz,fun b o e hb=>?_,fun b hb hs=>?_,I.stack,I.jk⟩,
  rfl,I.bare,Un.kept k,⟨m0,DQ,fun i x v h1 h2 h3=>?_⟩,fun x c e=>?_,I.a_.fresh hC,fun x c e=>I.cO x c (iL e),fun p hp=>absurd (show p∈([]:List (Addr×Obj)) from hp) (by simp),I.a_.kept k,?_⟩
 ·have XR:scope.names.lookup x=some .free:=kg dJ hx
  exact nH scope.names [] Gh XR
 ·exact absurd (show false=true from h) (by decide)
 ·refine ⟨?_,fun x c e=>(hf b hb).2.2.2.2.1 x c (iL e)⟩
  obtain ⟨o,ho⟩:=DS b hb
  exact Nat.ne_of_lt (Nat.lt_of_lt_of_le (Heap.lt_size ho) hC)
 ·rcases (hf b hb).2.2.2.1 with z | z
  ·exact I.ok.pO b o e z
  ·exact absurd (Nat.lt_of_lt_of_le (Heap.lt_size e) (Nat.le_trans I.ok.xT z)) (Nat.lt_irrefl _)
 ·rcases List.mem_cons.mp (I.ir b hs) with z | z
  ·exact (hf b hb).2.1 z
  ·exact (hf b hb).2.2.1 z
 ·obtain ⟨j,e1,e2⟩:=zR h2
  obtain ⟨y,y1,y2,y3,y4⟩:=v5.get e1
  have VA:Nc[i]? =some x:=h1
  rw[y1]at VA
  cases VA
  obtain ⟨m,hn,hl⟩:=I.loc
  have hv:KP X.env.scope x:=by
   rcases y4 with z | z
   ·exact .inr (.inl z)
   ·exact .inr (.inr z)
  obtain ⟨u,r,l⟩:=hl j x v y2 e2 hv
  refine ⟨u,r, .inr ⟨kf y3,?_⟩⟩
  rcases l with ⟨l,_⟩ | ⟨_,c,hc,q⟩
  ·rcases y4 with z | z
   ·rw[z]at l;cases l
   ·rw[z]at l;cases l
  ·obtain ⟨c',qv⟩:=nH scope.names [] Gh y3
   have e:=iL qv
   rw[hc]at e
   cases e
   obtain ⟨o,ho,hd⟩:=q
   exact ⟨c,qv,o,k _ _ ho,hd⟩
 ·obtain ⟨v,o,ho,hd⟩:=I.cell x c (iL e)
  exact ⟨v,o,k _ _ ho,hd⟩
 ·show (iK σ ix).length=Nc.length
  unfold iK
  rw[List.length_map]
  exact v5.len
theorem lC {X:Cx} {pins qu:List (Addr×Obj)} {σ σ':St} {H H':Hp} {s s':Shared} (I:Inv X pins σ H s) {scope:Scope} {Nc:List Str} {fp:List Addr} {C D:Addr} (J:Inv (bh X scope C Nc s H fp) qu σ' H' s')
  (hf: ∀b∈fp,iw X pins H b) (hD:s.heap.objs.size<=D) (hC:s.heap.objs.size<=C) (wM:D≠C) {its:List Value} {n:Nat} {acc:List V} (eD:s'.heap.get? D=some { cls:= .type "list",data:= .seq its.toArray n }) (r:Vals acc its)
  (hz:acc.length<=sizeLine) (nD:H' D=none) {oC:Obj} (eC:s'.heap.get? C=some oC) (dC: ∀v,oC.data≠ .cell v):Inv X (pins++[(C,oC)]) σ (upd H' D (.lst acc)) s':=by
 have lt: ∀b o,s.heap.get? b=some o->b≠D:=fun b o e=>Nat.ne_of_lt (Nat.lt_of_lt_of_le (Heap.lt_size e) hD)
 have U:Un (jF X.stack) fp H H' s.heap s'.heap:=J.base
 have U':Un (jF X.stack) fp H (upd H' D (.lst acc)) s.heap s'.heap:=
  ⟨U.keep,U.slot,fun b o e n hx=>by rw[aA (lt b o e)];exact U.free b o e n hx,U.there,fun b xs e=>by rw[aA (aC (U.jQ b xs e) nD)];exact U.jQ b xs e,
   fun b o u e=>by rw[aA (aC (U.jE b o u e) nD)];exact U.jE b o u e,fun b ps e=>by
    obtain ⟨more,q⟩:=U.j6 b ps e
    exact ⟨more,by rw[aA (aC q nD)];exact q⟩⟩
 have a_:iq X.prog X.w (upd H' D (.lst acc)) s'.heap:=fun b u e=>by
  by_cases hb:b=D
  ·subst hb
   rw[ag]at e;cases e
   exact ⟨hz,its,n,r,eD⟩
  ·rw[aA hb]at e
   exact (J.a_ b u e).mF (fun c v _ q=>q) (fun c q=>by rw[aA (aC q nD)];exact q) fun c xs q=>by rw[aA (aC q nD)];exact q
 have I':Inv X pins σ (upd H' D (.lst acc)) s':=I.xU (ch:=fp) J.os U' a_ J.bare fun b hb=>by
  obtain ⟨_,h1,_,h2,h3,h4⟩:=hf b hb
  exact ⟨h2,h1,h3,h4⟩
 refine I'.iu fun p hp=>?_
 rcases List.mem_append.mp hp with z | z
 ·exact I'.pin p (List.mem_append_right _ z)
 ·have e:p=(C,oC):=List.mem_singleton.mp z
  subst e
  refine ⟨eC,?_,Nat.ne_of_gt (Nat.lt_of_lt_of_le I.lt hC),I.Dt hC,dC⟩
  rw[aA (Ne.symm wM)]
  exact J.free
noncomputable def PF (Y:Cx) (ifs:List Expr) (tc:TT):Prop:=
 ∀(pins:List (Addr×Obj)) (s:Shared) (σ:St) (H:Hp) (Q:Bool->Hp->Prop),Inv Y pins σ H s->tc σ H Q->
  wpAny (model Y.prog Y.w) Y.A (forIn ifs true fun c r=>if r=true then do let ok <-isTrue c Y.env (eval c Y.env);pure (ForInStep.yield ok) else pure (ForInStep.yield r)) (TP Y pins σ Q) Y.xe s
noncomputable def Lu:TT:=fun _ H Q=>Q true H
theorem cV {Y:Cx}:PF Y [] Lu:=fun _ _ _ H _ I h=>wpAny_tests_nil ⟨H,I,h⟩
theorem Bx {Y:Cx} {c:Expr} {tc:TT} (h:PT Y c tc):PF Y [c] tc:=fun pins s σ H Q I hw=>wpAny_tests_one (h pins s σ H Q I hw)
noncomputable def qI (J:It) (σc:St) (g:TG) (tc:TT) (te:TE) (Q:VK) (H1:Hp):Prop:=
 ∃W:Nat->Nat->List V->Hp->Prop,(∃m,W 0 m [] H1)/\ ∀i m acc H,W i m acc H->acc.length<sizeLine/\
 ((J.stop i H/\ ∀D,H D=none->Q (.ref D) (upd H D (.lst acc)))\/
  (J.go i H/\ ∀x H',J.Bj i H x H'->g x σc H' fun σ2 H2=>Wk σc σ2/\tc σ2 H2 fun b H3=>if b=true then te σ2 H3 fun v H4=> ∃m',m'<m/\W (i+1) m' (acc++[v]) H4 else ∃m',m'<m/\W (i+1) m' acc H3))
noncomputable def nJ (wi:TI) (ix:List (Option Nat)) (g:TG) (tc:TT) (te:TE):TE:=fun σ H Q=>wi σ H fun J H1=>qI J (iK σ ix) g tc te Q H1
theorem qJ {X:Cx} {tg iter elt:Expr} {ifs:List Expr} {scope:Scope} {pos:Pos} {wi:TI} {g:TG} {tc:TT} {te:TE} {Nc:List Str} {ix:List (Option Nat)} (hi:PI X tg iter wi) (fg:X.calm=true) (v5:iR X scope Nc ix)
  (dJ: ∀y∈scope.names,y.2≠ .cell) (dM:scope.kind= .function) (pL: ∀y∈scope.names,y.2= .free->X.env.kindOf y.1=some .cell\/X.env.kindOf y.1=some .free)
  (hG: ∀C s H fp,PG (bh X scope C Nc s H fp) tg g) (hT: ∀C s H fp,PF (bh X scope C Nc s H fp) ifs tc) (hE: ∀C s H fp,PE (bh X scope C Nc s H fp) elt te)
  {pins:List (Addr×Obj)} {s:Shared} {σ:St} {H:Hp} {Q:VK} (I:Inv X pins σ H s) (h:nJ wi ix g tc te σ H Q) {RR:Value->Addr->Result->Shared->Prop}
  (Py: ∀(D C:Addr) (oC:Obj) (m:Str->Option Value) (H':Hp) (s':Shared),s'.heap.get? C=some oC->s'.heap.Ns C m->iw X pins H' C->Inv X (pins++[(C,oC)]) σ H' s'->Q (.ref D) H'->RR (.ref D) C (.ok .next) s'):
  wpAny (model X.prog X.w) X.A (eval iter X.env) (fun v s1=>wpAny (model X.prog X.w) X.A (pyIter v) (fun it s2=>wpAny (model X.prog X.w) X.A (newList []) (fun acc s3=>
   wpAny (model X.prog X.w) X.A (newFunctionEnv scope X.env.globals (eO X.env scope.names []) [] X.env.qual none .none (some X.env)) (fun zS s4=>
    codeAny (model X.prog X.w) X.A (.compStart (.ListComp elt [⟨tg,iter,ifs,0⟩] scope pos) 0 it acc { zS with scope:=relabel scope X.env }) (RR acc zS.locals) s4) X.xe s3) X.xe s2) X.xe s1) X.xe s:=by
 refine aS (hi pins s σ H _ I h) fun v s1 h1=>aS h1 fun Oe s2 h2=>?_
 obtain ⟨it,fp,tn,J,H2,e,I2,T,lb,f2,W,⟨m0,w0⟩,turn⟩:=h2
 subst e
 refine wpAny_newObj_type (wpAny_newFunctionEnv dJ (by intro y hy;simp at hy) (fun h₁ wN rZ=>?_) dM)
 dsimp only at wN rZ ⊢
 generalize Ic:s2.heap.push { cls:= .type "list",dict:=none,data:= .seq ([]:List Value).toArray }=P2 at wN rZ ⊢
 have hC:P2.objs.size=s2.heap.objs.size+1:=by rw[<-Ic,Heap.size_push]
 have wM:s2.heap.objs.size≠P2.objs.size:=by rw[hC];exact Nat.ne_of_lt (Nat.lt_succ_self _)
 have r6:s2.heap.objs.size<=P2.objs.size:=by rw[hC];exact Nat.le_succ _
 have C6: ∀b,b<s2.heap.objs.size->b≠P2.objs.size:=fun b hb=>by rw[hC];exact Nat.ne_of_lt (Nat.lt_succ_of_lt hb)
 have old: ∀b o,s2.heap.get? b=some o->h₁.get? b=some o:=fun b o e=>rZ.extBut b o (C6 b (Heap.lt_size e)) (Heap.get?_push_of_some _ (Ic▸Heap.get?_push_of_some _ e))
 have nK:h₁.get? s2.heap.objs.size=some { cls:= .type "list",data:= .seq ([]:List Value).toArray }:=rZ.extBut _ _ wM (Heap.get?_push_of_some _ (Ic▸Heap.get?_push_size _ rfl))
 have Lv:tn 0 h₁:=T.keep 0 _ _ lb fun b _ o e=>old b o e
 have DS: ∀b∈fp, ∃o,s2.heap.get? b=some o:=fun b hb=>let ⟨o,e,_⟩:=T.obj 0 _ lb b hb;⟨o,e⟩
 have Lw: ∀b∈fp,s2.heap.objs.size≠b:=fun b hb=>let ⟨o,e⟩:=DS b hb;Nat.ne_of_gt (Heap.lt_size e)
 have IY:=nI I2 v5 dJ dM pL f2 DS (t':=s2.toks+([]:List (Str×Value)).length) r6 wN old
 have Ie: ∀b,s2.heap.objs.size<=b->b∉jF X.stack:=fun b hb hs=>by
  rcases List.mem_cons.mp (I2.ir b hs) with z | z
  ·exact absurd (Nat.lt_of_lt_of_le I2.lt hb) (by rw[z];exact Nat.lt_irrefl _)
  ·exact I2.Dt hb z
 have iL: ∀{x:Str} {c:Addr},(eO X.env scope.names []).lookup x=some c->X.env.cells.lookup x=some c:=fun {x c} e=>jn scope.names [] (fun y d q=>by simp at q) e
 have By: ∀x c,(eO X.env scope.names []).lookup x=some c->c≠s2.heap.objs.size:=fun x c e z=>by
  obtain ⟨v,q⟩:=I2.cell x c (iL e)
  exact absurd (q.lt) (by rw[z];exact Nat.lt_irrefl _)
 have fY: ∀{pl:List (Addr×Obj)} {H':Hp},(∀p∈pl,p.1=s2.heap.objs.size)->(∀b∈fp,H' b=none)-> ∀b∈fp,iw (bh X scope P2.objs.size Nc s2 H2 fp) pl H' b:=fun {pl H'} j4 hn b hb=>by
  refine ⟨hn b hb,?_,?_, .inl hb,fun x c e=>(f2 b hb).2.2.2.2.1 x c (iL e),fun p hp=>?_⟩
  ·obtain ⟨o,e⟩:=DS b hb
   exact C6 b (Heap.lt_size e)
  ·intro hs
   rcases List.mem_cons.mp (I2.ir b hs) with z | z
   ·exact (f2 b hb).2.1 z
   ·exact (f2 b hb).2.2.1 z
  ·rw[j4 p hp]
   exact Lw b hb
 have loop: ∀s₃:Shared,s₃={ s2 with heap:=h₁,toks:=s2.toks+([]:List (Str×Value)).length }->
   codeAny (model X.prog X.w) X.A (.compLoop (.ListComp elt [⟨tg,iter,ifs,0⟩] scope pos) 0 (.ref it) (.ref s2.heap.objs.size) (compEnvC scope (eO X.env scope.names []) P2.objs.size X.env)) (RR (.ref s2.heap.objs.size) P2.objs.size) s₃:=by
  rintro s₃ rfl
  refine rY (fun n s'=> ∃i acc its nn H',Inv (bh X scope P2.objs.size Nc s2 H2 fp) [] (iK σ ix) H' s'/\tn i s'.heap/\(∀b∈fp,H' b=none)/\
   s'.heap.get? s2.heap.objs.size=some { cls:= .type "list",data:= .seq (its:List Value).toArray nn }/\Vals acc its/\H' s2.heap.objs.size=none/\W i n acc H') ?_ m0
   ⟨0,[],[],0,H2,IY,Lv,fun b hb=>(f2 b hb).1,nK, .nil,I2.a_.fresh (Nat.le_refl _),w0⟩
  rintro n s3 ⟨i,acc,its,nn,H3,I3,ui,FZ,eD,rv,nD,w3⟩
  obtain ⟨hz,alt⟩:=turn i n acc H3 w3
  have IP:Inv (bh X scope P2.objs.size Nc s2 H2 fp) [(s2.heap.objs.size,{ cls:= .type "list",data:= .seq its.toArray nn })] (iK σ ix) H3 s3:=I3.iu fun p hp=>by
   have e:p=(s2.heap.objs.size,_):=List.mem_singleton.mp hp
   subst e
   refine ⟨eD,nD,wM,Ie _ (Nat.le_refl _),fun v z=>?_⟩
   have z':Data.seq its.toArray nn=Data.cell v:=z
   cases z'
  have j4: ∀p∈[(s2.heap.objs.size,({ cls:= .type "list",data:= .seq its.toArray nn }:Obj))],p.1=s2.heap.objs.size:=fun p hp=>by
   have e:p=(s2.heap.objs.size,_):=List.mem_singleton.mp hp
   rw[e]
  rcases alt with ⟨stop,fin⟩ | ⟨go,step⟩
  ·refine aS (T.done (bh X scope P2.objs.size Nc s2 H2 fp) rfl rfl rfl fg i _ s3 _ H3 C_ IP (fY j4 FZ) ui stop) fun r s4 ⟨hr,I4⟩=>?_
   subst hr
   obtain ⟨m,hn,_⟩:=id I4.loc
   obtain ⟨oC,es,ep,eC,dC,_⟩:=id hn
   have Pz:=(I4.pin (s2.heap.objs.size,_) (List.mem_append_right _ (List.mem_singleton.mpr rfl))).1
   have Ig:=fin _ nD
   refine Py _ _ oC m _ s4 eC hn ?_ (lC I2 I4 f2 (Nat.le_refl _) r6 wM Pz rv (Nat.le_of_lt hz) nD eC fun v z=>?_) Ig
   ·refine I2.lj r6 ?_
    rw[aA (Ne.symm wM)]
    exact I4.free
   ·rw[dC]at z;cases z
  ·refine aS (T.item (bh X scope P2.objs.size Nc s2 H2 fp) rfl rfl rfl fg i _ s3 _ H3 C_ IP (fY j4 FZ) ui go) fun r s4 ⟨u,hr,h4⟩=>?_
   subst hr
   refine aS h4 fun _ s5 ⟨x,H5,I5,r5,y5,mY,K9⟩=>?_
   have Kd:=I5.pinned (fY j4 K9) (T.obj _ _ mY)
   refine aS (hG _ s2 H2 fp _ s5 _ H5 x u _ Kd r5 (step x H5 y5)) fun _ s6 ⟨σ6,H6,I6,wk,q6⟩=>?_
   refine aS (hT _ s2 H2 fp _ s6 σ6 H6 _ I6 q6) fun b s7 ⟨H7,I7,q7⟩=>?_
   have again: ∀{H9:Hp} {s9:Shared} {m':Nat},Inv (bh X scope P2.objs.size Nc s2 H2 fp) ([(s2.heap.objs.size,({ cls:= .type "list",data:= .seq its.toArray nn }:Obj))]++jR fp s5.heap) σ6 H9 s9->
     (s9.heap.get? s2.heap.objs.size=some { cls:= .type "list",data:= .seq its.toArray nn }/\H9 s2.heap.objs.size=none)/\tn (i+1) s9.heap/\(∀b∈fp,H9 b=none)/\Inv (bh X scope P2.objs.size Nc s2 H2 fp) [] (iK σ ix) H9 s9:=fun {H9 s9 m'} I9=>by
    have pD:=I9.pin (s2.heap.objs.size,_) (List.mem_append_right _ (List.mem_append_left _ (List.mem_singleton.mpr rfl)))
    refine ⟨⟨pD.1,pD.2.1⟩,T.keep _ _ _ mY fun b hb o e=>(I9.pin (b,o) (List.mem_append_right _ (List.mem_append_right _ (cU hb e)))).1,fun b hb=>?_,?_⟩
    ·obtain ⟨o,e,d⟩:=T.obj _ _ mY b hb
     exact (I9.pin (b,o) (List.mem_append_right _ (List.mem_append_right _ (cU hb e)))).2.1
    ·exact (I9.weak wk.len fun i v e=>wk.get e).iu fun p hp=>absurd hp (by simp)
   cases b with
   | false=>
    rw[if_neg Bool.false_ne_true]at q7 ⊢
    obtain ⟨m',hm,w7⟩:=q7
    obtain ⟨⟨e7,n7⟩,t7,f7,J7⟩:=again (m':=0) I7
    exact ⟨m',hm,i+1,acc,its,nn,H7,J7,t7,f7,e7,rv,n7,w7⟩
   | true=>
    rw[if_pos rfl]at q7 ⊢
    refine aS (hE _ s2 H2 fp _ s7 σ6 H7 _ I7 q7) fun y s8 ⟨v,H8,I8,r8,m',hm,w8⟩=>?_
    obtain ⟨⟨e8,n8⟩,t8,f8,J8⟩:=again (m':=0) I8
    refine wpAny_list_append_plain (items:=its.toArray) ⟨nn,e8⟩ (fun h9 PD Lx=>?_) (by rw[List.size_toArray, <-rv.length];exact Nat.le_of_lt hz)
    obtain ⟨n9,e9⟩:=PD
    refine ⟨m',hm,i+1,acc++[v],its++[y],n9,H8,J8.turned (t':=s8.toks) (fun b o hb e=>(Lx.2 b hb).trans e) n8 wM (.inr (Nat.le_refl _)) By (fun p hp=>absurd hp (by simp[bh])),?_,f8,?_,rv.append (.cons r8 .nil),n8,w8⟩
    ·exact T.keep _ _ _ t8 fun b hb o e=>(Lx.2 b (Ne.symm (Lw b hb))).trans e
    ·simpa using e9
 exact codeAny_compStart_list (loop _ rfl) (T.self _ 0 _ _ _ Lv (loop _ rfl))
theorem DT {X:Cx} {tg iter elt:Expr} {ifs:List Expr} {scope:Scope} {pos:Pos} {wi:TI} {g:TG} {tc:TT} {te:TE} (Nc:List Str) (ix:List (Option Nat)) (hi:PI X tg iter wi) (fg:X.calm=true) (v5:iR X scope Nc ix)
  (dJ: ∀y∈scope.names,y.2≠ .cell) (dM:scope.kind= .function) (pL: ∀y∈scope.names,y.2= .free->X.env.kindOf y.1=some .cell\/X.env.kindOf y.1=some .free)
  (nM: ∀x∈scope.names,x.2= .local->scope.names.lookup x.1=some .local)
  (hG: ∀C s H fp,PG (bh X scope C Nc s H fp) tg g) (hT: ∀C s H fp,PF (bh X scope C Nc s H fp) ifs tc) (hE: ∀C s H fp,PE (bh X scope C Nc s H fp) elt te)
  (hs: ∀x,foldedSetIterable iter X.env x=pure x:=by intro _;rfl):PE X (.ListComp elt [⟨tg,iter,ifs,0⟩] scope pos) (nJ wi ix g tc te):=by
 intro pins s σ H Q I h
 rw[eval_ListComp]
 have Gh: ∀y∈scope.names,y.2= .free-> ∃c,X.env.cells.lookup y.1=some c:=fun y hy e=>I.ok.has y.1 (pL y hy e)
 refine wpAny_comprehension_free (use:=none) rfl hs (gC Gh) dM nM (qJ hi fg v5 dJ dM pL hG hT hE I h (RR:=fun acc C=>compPost (model X.prog X.w) X.A X.xe none (EP X pins σ Q) acc C) ?_)
 intro D C oC m H' s' eC hn fC I' q
 refine ⟨m,hn,fun h' iS=>⟨.ref D,H',?_,rfl,q⟩⟩
 exact I'.fe.turned (t':=s'.toks) (fun b o hb e=>(iS.2 b hb).trans e) fC.1 fC.2.1 fC.2.2.2.1 fC.2.2.2.2.1 fC.2.2.2.2.2
theorem DU {X:Cx} {i:Nat} {x:Str} {tg iter elt:Expr} {ifs:List Expr} {scope:Scope} {pos uy pos':Pos} {wi:TI} {g:TG} {tc:TT} {te:TE} (Nc:List Str) (ix:List (Option Nat)) (hN:X.N.Nodup) (Ly:X.N[i]? =some x) (hx:Loc X.env.scope x)
  (Lz:swapsWith (.ListComp elt [⟨tg,iter,ifs,0⟩] scope pos) (some (.Name x pos')) uy.line X.env=pure true) (hi:PI X tg iter wi) (fg:X.calm=true) (v5:iR X scope Nc ix)
  (dJ: ∀y∈scope.names,y.2≠ .cell) (dM:scope.kind= .function) (pL: ∀y∈scope.names,y.2= .free->X.env.kindOf y.1=some .cell\/X.env.kindOf y.1=some .free)
  (nM: ∀x∈scope.names,x.2= .local->scope.names.lookup x.1=some .local)
  (hG: ∀C s H fp,PG (bh X scope C Nc s H fp) tg g) (hT: ∀C s H fp,PF (bh X scope C Nc s H fp) ifs tc) (hE: ∀C s H fp,PE (bh X scope C Nc s H fp) elt te)
  (hs: ∀x,foldedSetIterable iter X.env x=pure x:=by intro _;rfl) (hf:X.fn x=true\/X.env.scope.names.lookup x=some .local:=by first | exact .inl rfl | exact .inr rfl | assumption):
  PS X (.Assign [.Name x pos'] (.ListComp elt [⟨tg,iter,ifs,0⟩] scope pos) uy) (Bi (nJ wi ix g tc te) (uh i)):=by
 intro pins s σ H E I h
 have Gh: ∀y∈scope.names,y.2= .free-> ∃c,X.env.cells.lookup y.1=some c:=fun y hy e=>I.ok.has y.1 (pL y hy e)
 rw[exec_Assign_Name_used _ _ _ _ Lz]
 refine wpAny_bind (wpAny_standAt (wpAny_bind ?_))
 show wpAny _ X.A (do let _ <-comprehension (.ListComp elt [⟨tg,iter,ifs,0⟩] scope pos) scope X.env _ (newList []) false (eval iter X.env) (some (assign (.Name x pos') X.env))) _ _ s
 refine wpAny_bind (wpAny_mono (wpAny_comprehension_free (use:=some (assign (.Name x pos') X.env)) (Q:=fun _ s'=>SP X pins E .next s') rfl hs (gC Gh) dM nM
  (qJ hi fg v5 dJ dM pL hG hT hE I h (RR:=fun acc C=>compPost (model X.prog X.w) X.A X.xe (some (assign (.Name x pos') X.env)) (fun _ s'=>SP X pins E .next s') acc C) ?_)) (fun _ s' hq=>wpAny_pure (wpAny_pure hq)) fun _ _ e=>e)
 intro D C oC m H' s' eC hn fC I' q
 show wpAny _ X.A (assign (.Name x pos') X.env (.ref D)) _ _ _
 refine wpAny_assign_Name (fb I' hN Ly hx (show RelV (.ref D) _ from rfl) (fun HI LA=>?_) hf)
 have pC:=LA.pin (C,oC) (List.mem_append_right _ (List.mem_append_right _ (List.mem_singleton.mpr rfl)))
 refine ⟨m,?_,fun h' iS=>?_⟩
 ·obtain ⟨o,es,ep,e,r⟩:=hn
  rw[eC]at e;cases e
  exact ⟨oC,es,ep,pC.1,r⟩
 ·refine ⟨_,H',LA.fe.turned (t':=HI.toks) (fun b o hb e=>(iS.2 b hb).trans e) fC.1 fC.2.1 fC.2.2.2.1 fC.2.2.2.2.1 fC.2.2.2.2.2,q⟩
end L2
namespace L2
open PySem PySem.Spec PyProof.Rows
noncomputable def S (l:List Nat):Str:=⟨l.toArray⟩
theorem dP (l:List Nat):(S l).cps.toList=l:=by simp[S]
theorem aY (l:List Nat):(S l).length=l.length:=by simp[S,Str.length]
theorem lD (l:List Nat):(S l).cps.size=l.length:=by simp[S]
theorem Gi {a b:List Nat} (h:S a=S b):a=b:=by
 have:=congrArg (fun x:Str=>x.cps.toList) h
 simpa [S]using this
theorem LB (x:Str):x=S x.cps.toList:=by cases x;simp[S]
theorem Bz (a b:List Nat):S a++S b=S (a++b):=by
 apply Str.ext'
 apply Array.toList_inj.mp
 simp[S,Str.cps_append]
theorem Gj {a b:List Nat}:decide (V.str (S a)=V.str (S b))=decide (a=b):=by
 by_cases h:a=b
 ·subst h;simp
 ·rw[decide_eq_false h,decide_eq_false]
  intro q
  exact h (Gi (V.str.inj q))
noncomputable def cut {α:Type} (xs:List α) (lo hi:Option Int):List α:=(xs.drop (HT.cB xs.length 0 lo)).take (HT.cB xs.length xs.length hi - HT.cB xs.length 0 lo)
theorem uz (n d:Nat) (v:Int):max 0 (min (if v<0 then v+(n:Int) else v) (n:Int))=((HT.cB n d (some v):Nat):Int):=by
 show _=(((if v<0 then (v+(n:Int)).toNat else min v.toNat n):Nat):Int)
 by_cases hv:v<0
 ·simp only[if_pos hv];omega
 ·simp only[if_neg hv];omega
theorem md (lo hi:Option Int) (n:Nat):Builtin.Str.strSliceIndices lo hi 1 n=(List.range (HT.cB n n hi - HT.cB n 0 lo)).map (HT.cB n 0 lo+ ·):=by
 have h1:(1:Int)>0:=by decide
 rw[<-sliceRange_one]
 unfold Builtin.Str.strSliceIndices
 simp only[h1,if_true]
 congr 1
 ·cases lo with
  | none=>rfl
  | some v=>exact uz n 0 v
 ·cases hi with
  | none=>rfl
  | some v=>exact uz n n v
theorem DV (l:List Nat) (lo hi:Option Int):Txt.slice (S l) lo hi=S (cut l lo hi):=by
 have hx:((Builtin.Str.strSliceIndices lo hi 1 (S l).length).filterMap ((S l).cps[·]?))=cut l lo hi:=by
  rw[aY,md,pick_run,dP]
  rfl
 have hlen:(Builtin.Str.strSliceIndices lo hi 1 (S l).length).length=HT.cB l.length l.length hi - HT.cB l.length 0 lo:=by
  rw[aY,md,List.length_map,List.length_range]
 unfold Txt.slice
 by_cases hc:((1:Int)==1&&(Builtin.Str.strSliceIndices lo hi 1 (S l).length).length==(S l).length)=true
 ·rw[if_pos hc]
  rw[hlen,aY]at hc
  have e:HT.cB l.length l.length hi - HT.cB l.length 0 lo=l.length:=by simpa using hc
  have h2:=HT.Bp l.length l.length (Nat.le_refl _) hi
  have e0:HT.cB l.length 0 lo=0\/l.length=0:=by omega
  unfold cut
  rw[e]
  rcases e0 with z | z
  ·rw[z];simp
  ·have:l=[]:=List.eq_nil_of_length_eq_zero z
   subst this
   simp
 ·rw[if_neg hc]
  rw[hx]
  rfl
section
variable {X:Cx}
theorem bg {x:Str} {j pos} (l:List Nat) (h:x=S l):PE X (.Constant (.str x) j pos) (tC (.str (S l))):=by
 subst h
 exact Hk
noncomputable def LC:R2:=fun x y H Q=> ∃a b,x= .str (S a)/\y= .str (S b)/\a.length+b.length<=sizeLine/\Q (.str (S (a++b))) H
theorem cC:ik X (binaryOp .Add) LC:=by
 intro pins s σ H x y v u Q I rx ry h
 obtain ⟨a,b,rfl,rfl,hz,q⟩:=h
 exact wu pins s σ H _ _ v u Q I rx ry ⟨S a,S b,rfl,rfl,by rw[aY,aY];exact hz,by rw[Bz];exact q⟩
noncomputable def LD:R2:=fun x y H Q=> ∃l i c,x= .str (S l)/\y= .int i/\l.length<=sizeLine/\rP l i=some c/\Q (.str (S [c])) H
theorem pU:HL X LD:=by
 intro value slice pins s σ H x y v u Q I rx ry h hs
 obtain ⟨l,i,c,rfl,rfl,hz,he,q⟩:=h
 exact HN value slice pins s σ H _ _ v u Q I rx ry ⟨S l,i,c,rfl,rfl,by rw[aY];exact hz,by rw[dP];exact he,q⟩ hs
noncomputable def Ih:V->Option Int->Option Int->Hp->VK->Prop:=fun x lo hi H Q=> ∃l,x= .str (S l)/\l.length<=sizeLine/\Q (.str (S (cut l lo hi))) H
theorem nN:Lh X Ih:=by
 intro pins s σ H x v vl vu lo hi sl Q I rx hs pl pu h
 obtain ⟨l,rfl,hz,q⟩:=h
 obtain ⟨t,rfl⟩:=rx
 refine ⟨"str",_,F.slot_str_getitem.lookup,typeIs_str _ _ _,?_⟩
 have key: ∀(a b:Option (Int×Tok)),vl=partValue a->vu=partValue b->a.map (·.1)=lo->b.map (·.1)=hi->wpAny (model X.prog X.w) X.A (getItem (.str (S l) t) (.ref sl)) (EP X pins σ Q) X.xe s:=by
  rintro a b rfl rfl rfl rfl
  obtain ⟨o,e,c,d⟩:=hs
  refine wpAny_getItem_str_slice (l:=a) (u:=b) (st:=none) ⟨o,e,c,d⟩ rfl (post_val_or_str ⟨?_,fun t' k=>?_⟩)
  ·exact Nat.le_trans (Txt.slice_le (S l) _ _) (by rw[aY];exact hz)
  ·exact ⟨.str (S (cut l _ _)),H,I.tok _,⟨t',congrArg (fun z=>Value.str z t') (DV l _ _)⟩,q⟩
 cases pl with
 | none=>
  cases pu with
  | none=>exact key none none rfl rfl rfl rfl
  | int i ti=>exact key none (some (i,ti)) rfl rfl rfl rfl
 | int i ti=>
  cases pu with
  | none=>exact key (some (i,ti)) none rfl rfl rfl rfl
  | int j tj=>exact key (some (i,ti)) (some (j,tj)) rfl rfl rfl rfl
theorem da:cL X (.builtin "len") (fun xs H Q=> ∃l,xs=[.str (S l)]/\l.length<=sizeLine/\Q (.int l.length) H):=by
 intro pins s σ H xs us Q I r h
 obtain ⟨l,rfl,hz,q⟩:=h
 exact rX pins s σ H _ us Q I r ⟨S l,rfl,by rw[aY];exact hz,by rw[aY];exact q⟩
noncomputable def cI (l:List Nat):List V:=l.map fun c=>V.str (S [c])
theorem nO {l:List Nat}: ∀{acc:List Value},acc.length=l.length->(∀j v,acc[j]? =some v->SignAt (S l) j v)->Vals (cI l) acc:=by
 induction l with
 | nil=>intro acc h _;have:acc=[]:=List.eq_nil_of_length_eq_zero h;subst this;exact .nil
 | cons c l ih=>
  intro acc h k
  cases acc with
  | nil=>cases h
  | cons a acc=>
   refine .cons ?_ (ih (by simpa using h) fun j v e=>?_)
   ·obtain ⟨c',u,e1,e2⟩:=k 0 a rfl
    have:c=c':=by simpa [S]using e1
    subst this
    exact ⟨u,e2⟩
   ·obtain ⟨c',u,e1,e2⟩:=k (j+1) v (by simpa using e)
    exact ⟨c',u,by simpa [S]using e1,e2⟩
theorem wO (hc:X.calm=true):cL X (.type "list") (fun xs H Q=> ∃l,xs=[.str (S l)]/\l.length<=sizeLine/\ ∀p,H p=none->Q (.ref p) (upd H p (.lst (cI l)))):=by
 intro pins s σ H xs us Q I r h
 obtain ⟨l,rfl,hz,q⟩:=h
 obtain ⟨u,rfl,t,rfl⟩:=vals1 r
 refine call_list_str (I.ok.hd hc) (S l) t (fun h' tk cW c' hk e nK=>?_) (by rw[lD];exact hz)
 obtain ⟨h1,h2⟩:=nK
 rw[lD]at h1
 refine ⟨.ref s.heap.objs.size,_,I.laid (t':=tk) (o:= .lst (cI l)) hk (Nat.le_refl _) ?_,rfl,q _ I.fresh⟩
 exact ⟨by unfold cI;rw[List.length_map];exact hz,cW.toList,c',nO (by simpa using h1) (fun j v e=>h2 j v (by simpa using e)),by simpa using e⟩
noncomputable def PH:R2:=fun x y H Q=> ∃c l,x= .str (S [c])/\y= .str (S l)/\Q (.bl (decide (c∈l))) H
theorem wQ:ik X (compareOp .In) PH:=by
 intro pins s σ H x y v u Q I rx ry h
 obtain ⟨c,l,rfl,rfl,q⟩:=h
 refine zD pins s σ H _ _ v u Q I rx ry ⟨S [c],S l,rfl,rfl,?_⟩
 have e:=StrLaws.found_one (S l) c
 rw[dP]at e
 rw[show (S [c])=(⟨#[c]⟩:Str) from rfl,e]
 exact q
noncomputable def LG:R2:=fun x y H Q=> ∃c l,x= .str (S [c])/\y= .str (S l)/\Q (.bl (!decide (c∈l))) H
theorem DW:ik X (compareOp .NotIn) LG:=by
 intro pins s σ H x y v u Q I rx ry h
 obtain ⟨c,l,rfl,rfl,q⟩:=h
 refine rV pins s σ H _ _ v u Q I rx ry ⟨S [c],S l,rfl,rfl,?_⟩
 have e:=StrLaws.found_one (S l) c
 rw[dP]at e
 rw[show (S [c])=(⟨#[c]⟩:Str) from rfl,e]
 exact q
end
end L2
namespace L2
open PySem PySem.Spec PyProof.Rows
theorem qK (s sub:Str) (hi:Nat): ∀(l:List Nat) (st:Array Nat×Nat),1<=st.fst.size->(forIn l st (StrLaws.occBody s sub hi 1)).run.fst=st.fst
 | [],st,h=>rfl
 | a::l,st,h=>by
  rw[List.forIn_cons]
  unfold StrLaws.occBody
  rw[if_neg (fun z=>absurd z.1.1.1 (Nat.not_lt.mpr h))]
  exact qK s sub hi l _ h
theorem occ_first (s sub:Str) (hi:Nat): ∀(l:List Nat) (free:Nat),(∀i∈l,free<=i)->
  (forIn l ((#[]:Array Nat),free) (StrLaws.occBody s sub hi 1)).run.fst.toList=(l.find? fun i=>decide (i+sub.length<=hi)&&Builtin.Str.subAt s sub i).toList
 | [],free,_=>rfl
 | a::l,free,hf=>by
  rw[List.forIn_cons,List.find?_cons]
  unfold StrLaws.occBody
  have ha:free<=a:=hf a List.mem_cons_self
  by_cases hc:a+sub.length<=hi/\Builtin.Str.subAt s sub a=true
  ·rw[if_pos ⟨⟨⟨by simp,ha⟩,hc.1⟩,hc.2⟩]
   have:(decide (a+sub.length<=hi)&&Builtin.Str.subAt s sub a)=true:=by simp[hc]
   rw[this]
   show (forIn l (#[].push a,a+sub.length) (StrLaws.occBody s sub hi 1)).run.fst.toList=_
   rw[qK s sub hi l _ (by simp)]
   rfl
  ·rw[if_neg (fun z=>hc ⟨z.1.2,z.2⟩)]
   have:(decide (a+sub.length<=hi)&&Builtin.Str.subAt s sub a)=false:=by
    cases h1:decide (a+sub.length<=hi) with
    | false=>rfl
    | true=>
     cases h2:Builtin.Str.subAt s sub a with
     | false=>rfl
     | true=>exact absurd ⟨of_decide_eq_true h1,h2⟩ hc
   rw[this]
   exact occ_first s sub hi l free fun i Om=>hf i (List.mem_cons_of_mem _ Om)
theorem subAt_one (l:List Nat) (c i:Nat):Builtin.Str.subAt (S l) (S [c]) i=(l[i]? ==some c):=by
 unfold Builtin.Str.subAt
 rw[aY]
 show ((S l).cps.extract i (i+1)== #[c])=_
 have e:((S l).cps.extract i (i+1))=((l.drop i).take 1).toArray:=by
  apply Array.toList_inj.mp
  simp[S,List.take_drop]
 rw[e]
 by_cases h:i<l.length
 ·have e2:(l.drop i).take 1=[l[i]]:=by
   rw[List.drop_eq_getElem_cons h];rfl
  rw[e2,List.getElem?_eq_getElem h]
  by_cases hc:l[i]=c
  ·rw[hc];simp
  ·have h1:([l[i]].toArray== #[c])=false:=by
    rw[beq_eq_false_iff_ne]
    intro z
    apply hc
    have:=congrArg Array.toList z
    simpa using this
   have h2:(some l[i]==some c)=false:=by simpa using hc
   rw[h1,h2]
 ·have e2:(l.drop i).take 1=[]:=by rw[List.drop_eq_nil_of_le (by omega)];rfl
  rw[e2,List.getElem?_eq_none (by omega)]
  rfl
theorem kh (l:List Nat) (c:Nat): ∀(k n:Nat),k+n=l.length+1->((List.range' k n).find? fun i=>decide (i+1<=l.length)&&(l[i]? ==some c))=if c∈l.drop k then some (k+(l.drop k).idxOf c) else none
 | k,0,h=>by
  have:l.drop k=[]:=List.drop_eq_nil_of_le (by omega)
  rw[this];simp
 | k,n+1,h=>by
  rw[List.range'_succ,List.find?_cons]
  by_cases hk:k<l.length
  ·have e:l.drop k=l[k]::l.drop (k+1):=List.drop_eq_getElem_cons hk
   rw[List.getElem?_eq_getElem hk,e]
   by_cases hc:l[k]=c
   ·have:(decide (k+1<=l.length)&&(some l[k]==some c))=true:=by simp[hc];omega
    rw[this,if_pos (by simp[hc])]
    simp[hc]
   ·have:(decide (k+1<=l.length)&&(some l[k]==some c))=false:=by simp[hc]
    rw[this,kh l c (k+1) n (by omega)]
    have qv: ¬c=l[k]:=fun z=>hc z.symm
    by_cases hm:c∈l.drop (k+1)
    ·rw[if_pos hm,if_pos (List.mem_cons_of_mem _ hm),List.idxOf_cons]
     have:(l[k]==c)=false:=by simpa using hc
     rw[this]
     show some (k+1+List.idxOf c (List.drop (k+1) l))=some (k+(List.idxOf c (List.drop (k+1) l)+1))
     congr 1
     omega
    ·rw[if_neg hm,if_neg (by intro z;rcases List.mem_cons.mp z with z | z;exact qv z;exact hm z)]
  ·have:l.drop k=[]:=List.drop_eq_nil_of_le (by omega)
   have e1:(decide (k+1<=l.length)&&(l[k]? ==some c))=false:=by
    rw[decide_eq_false (by omega)];rfl
   have e2:l.drop (k+1)=[]:=List.drop_eq_nil_of_le (by omega)
   rw[e1,kh l c (k+1) n (by omega),this,e2]
   simp
theorem LH (l:List Nat) (c:Nat):Builtin.Str.occurrences (S l) (S [c]) 0 (S l).length 1=if c∈l then [l.idxOf c] else []:=by
 rw[StrLaws.occ_eq,occ_first _ _ _ _ 0 fun _ _=>Nat.zero_le _]
 have e:(fun i=>decide (i+(S [c]).length<=(S l).length)&&Builtin.Str.subAt (S l) (S [c]) i)=fun i=>decide (i+1<=l.length)&&(l[i]? ==some c):=by
  funext i
  rw[subAt_one,aY,aY]
  rfl
 rw[e,aY,Nat.sub_zero,kh l c 0 (l.length+1) (by omega),List.drop_zero]
 by_cases h:c∈l
 ·rw[if_pos h,if_pos h,Nat.zero_add];rfl
 ·rw[if_neg h,if_neg h];rfl
section
variable {X:Cx}
noncomputable def DX:V->List V->Hp->VK->Prop:=fun x vs H Q=> ∃l c,x= .str (S l)/\vs=[.str (S [c])]/\c∈l/\Q (.int (l.idxOf c:Nat)) H
theorem zT:rR X "str.index" DX:=by
 intro pins s σ H x xs v us Q I rx rv h
 obtain ⟨l,c,rfl,rfl,hc,q⟩:=h
 obtain ⟨t,rfl⟩:=rx
 obtain ⟨u,rfl,t',rfl⟩:=vals1 rv
 exact SC.index (i:=l.idxOf c) (rest:=[]) (by rw[LH,if_pos hc]) ⟨.int (l.idxOf c:Nat),H,I.tok _,⟨_,rfl⟩,q⟩
noncomputable def LI (f:Nat->Bool):V->List V->Hp->VK->Prop:=fun x vs H Q=> ∃c,x= .str (S [c])/\vs=[]/\c<128/\Q (.bl (f c)) H
noncomputable def LJ (f:Nat->Nat):V->List V->Hp->VK->Prop:=fun x vs H Q=> ∃c,x= .str (S [c])/\vs=[]/\c<128/\Q (.str (S [f c])) H
noncomputable def yh (c:Nat):Bool:=decide (97<=c)&&decide (c<=122)
theorem DY: ∀c,c<128->Txt.islower ⟨#[c]⟩=yh c:=by decide+kernel
theorem wR:rR X "str.islower" (LI yh):=by
 intro pins s σ H x xs v us Q I rx rv h
 obtain ⟨c,rfl,rfl,hc,q⟩:=h
 obtain ⟨t,rfl⟩:=rx
 have e:us=[]:=by cases rv;rfl
 subst e
 exact SC.islower ⟨.bl (yh c),H,I,congrArg Value.bool (DY c hc),q⟩
theorem upper_one {c:Nat} (hc:c<128):Txt.upper (S [c])=S [up1 c]:=by
 rw[upper_ascii (by intro d hd;rw[dP]at hd;simp at hd;omega)]
 simp[S]
theorem qL {c:Nat} (hc:c<128):Txt.lower (S [c])=S [lo1 c]:=by
 rw[lower_ascii (by intro d hd;rw[dP]at hd;simp at hd;omega)]
 simp[S]
theorem Gk (c:Nat):Builtin.Str.tooLong (S [c]).length=false:=by
 rw[aY]
 show Builtin.Str.tooLong 1=false
 decide
theorem uA:rR X "str.upper" (LJ up1):=by
 intro pins s σ H x xs v us Q I rx rv h
 obtain ⟨c,rfl,rfl,hc,q⟩:=h
 obtain ⟨t,rfl⟩:=rx
 have e:us=[]:=by cases rv;rfl
 subst e
 exact SC.upper (by rw[upper_one hc];exact Gk _) ⟨.str (S [up1 c]),H,I.tok _,⟨_,congrArg (fun z=>Value.str z _) (upper_one hc)⟩,q⟩
theorem BA:rR X "str.lower" (LJ lo1):=by
 intro pins s σ H x xs v us Q I rx rv h
 obtain ⟨c,rfl,rfl,hc,q⟩:=h
 obtain ⟨t,rfl⟩:=rx
 have e:us=[]:=by cases rv;rfl
 subst e
 exact SC.lower (by rw[qL hc];exact Gk _) ⟨.str (S [lo1 c]),H,I.tok _,⟨_,congrArg (fun z=>Value.str z _) (qL hc)⟩,q⟩
theorem BB: ∀(ls:List (List Nat)) (a:Array Nat),(ls.map S).foldl (fun acc p=>acc++(S []).cps++p.cps) a=a++ls.flatten.toArray
 | [],a=>by simp
 | l::ls,a=>by
  rw[List.map_cons,List.foldl_cons,BB ls]
  simp[S]
theorem Ii (ls:List (List Nat)):Txt.join (S []) (ls.map S)=S ls.flatten:=by
 unfold Txt.join Builtin.Str.glued
 cases ls with
 | nil=>rfl
 | cons l ls=>
  show Str.mk ((List.map S ls).foldl (fun acc p=>acc++(S []).cps++p.cps) (S l).cps)=_
  rw[BB]
  simp[S]
theorem jT: ∀{ls:List (List Nat)} {us:List Value},Vals (ls.map fun l=>V.str (S l)) us->StrsAre us (ls.map S)
 | [],us,r=>by cases r;exact .nil
 | l::ls,us,r=>by
  cases r with
  | cons r1 r2=>
   obtain ⟨t,rfl⟩:=r1
   exact .cons _ t (jT r2)
noncomputable def BC (K:PySem.W.Frag):V->List V->Hp->VK->Prop:=fun x vs H Q=> ∃(p:Addr) (ls:List (List Nat)),x= .str (S [])/\vs=[.ref p]/\bt K H p (ls.map fun l=>V.str (S l))/\(ls.map List.length).sum<=16777216/\Q (.str (S ls.flatten)) H
theorem BD:rR X "str.join" (BC X.K):=by
 intro pins s σ H x xs v us Q I rx rv h
 obtain ⟨p,ls,rfl,rfl,hq,hz,q⟩:=h
 obtain ⟨t,rfl⟩:=rx
 obtain ⟨u,rfl,ru⟩:=vals1 rv
 cases ru
 obtain ⟨its,r,pl,_⟩:=I.list hq
 have e:(S []).length=0:=rfl
 refine join_list pl.isList (by simpa using jT r) ?_ fun t' k=>?_
 ·rw[e,Nat.mul_zero,Nat.add_zero,List.map_map]
  have e2:(Str.length ∘ S)=List.length:=by funext l;exact aY l
  have e3:((fun x:Str=>x.length) ∘ S)=List.length:=by funext l;exact aY l
  first | (rw[e2];exact hz) | (rw[e3];exact hz)
 ·exact ⟨.str (S ls.flatten),H,I.tok _,⟨t',congrArg (fun z=>Value.str z t') (Ii ls)⟩,q⟩
theorem zU (hc:X.calm=true):cL X (.builtin "all") (fun xs H Q=> ∃(p:Addr) (bs:List Bool),xs=[.ref p]/\bt X.K H p (bs.map V.bl)/\Q (.bl (bs.all id)) H):=by
 intro pins s σ H xs us Q I r h
 obtain ⟨p,bs,rfl,hq,q⟩:=h
 obtain ⟨u,rfl,ru⟩:=vals1 r
 cases ru
 obtain ⟨its,rv,pl,hz⟩:=I.list hq
 have hlen:its.length=bs.length:=by rw[<-rv.length,List.length_map]
 have hp:p<s.heap.objs.size:=by
  obtain ⟨o,n,e,_⟩:=pl
  exact Heap.lt_size e
 refine call_all_walk (wpAny_pyIter_list pl.isList ?_)
 refine ⟨s.heap.objs.size,_,_,_,_,_,fun i=>(bs[i]?).getD true,rfl,Walks.list (A:=X.A.in1) (I.ok.hd hc) s.heap.objs.size p (Nat.ne_of_lt hp) its.toArray,⟨⟨_,Heap.get?_push_size _ rfl,rfl,rfl⟩,?_⟩,fun i v s' Q' E' hP hQ=>?_,fun h' tk hk=>?_⟩
 ·obtain ⟨o,ho,hr⟩:=pl.isList
  exact ⟨o,Heap.get?_push_of_some _ ho,hr⟩
 ·have VC:its[i]? =some v:=by simpa using hP
  have hi:i<bs.length:=by rw[<-hlen];exact (List.getElem?_eq_some_iff.mp VC).1
  have hb:(bs.map V.bl)[i]? =some (V.bl bs[i]):=by rw[List.getElem?_map,List.getElem?_eq_getElem hi];rfl
  obtain ⟨u,hu,ru⟩:=rv.get hb
  rw[VC]at hu;cases hu
  cases (show v=Value.bool bs[i] from ru)
  have e:(bs[i]?).getD true=bs[i]:=by rw[List.getElem?_eq_getElem hi];rfl
  have VD:Q' ((bs[i]?).getD true) s':=hQ
  rw[e]at VD
  exact wpAny_pure VD
 ·have e:((List.range its.toArray.size).all fun i=>(bs[i]?).getD true)=bs.all id:=by
   rw[List.size_toArray,hlen]
   clear hq rv hlen q
   rw[Bool.eq_iff_iff,List.all_eq_true,List.all_eq_true]
   constructor
   ·intro h b hb
    obtain ⟨i,hi,e⟩:=List.getElem_of_mem hb
    have:=h i (List.mem_range.mpr hi)
    rw[List.getElem?_eq_getElem hi,e]at this
    exact this
   ·intro h i hi
    have Om:=List.mem_range.mp hi
    rw[List.getElem?_eq_getElem Om]
    exact h _ (List.getElem_mem Om)
  have I1:Inv X pins σ H { s with heap:=h',toks:=tk }:=by
   have I0:Inv X pins σ H { s with heap:=s.heap.push { cls:= .type "list_iterator",data:= .fields #[.ref p, .int 0 0] } }:=I.kept (t':=s.toks) fun b o e=>Heap.get?_push_of_some _ e
   have f:=I.lj (H':=H) (b:=s.heap.objs.size) (Nat.le_refl _) I.fresh
   have J:=I0.turned (h':=h') (t':=tk) (it:=s.heap.objs.size) (fun b o hb e=>hk b o (by simpa using hb) e) f.1 f.2.1 f.2.2.2.1 f.2.2.2.2.1 f.2.2.2.2.2
   exact J
  exact ⟨.bl (bs.all id),H,I1,by rw[e];rfl,q⟩
end
end L2
namespace L2.F2
open PySem PySem.Spec PyProof.Rows
theorem qM:Manifest.owners.lookup (String.ofList ['d','e','s','r','e','v','e','r'].reverse)=some Manifest.sig_reversed:=by kernel_rfl
theorem cP:Slot "reversed" "__next__" "reversed.__next__":=
 .of (owner:="reversed") (n:="__next__") (by rw[typeLookup_type,builtinLookup_eq_fast];kernel_rfl) (by decide+kernel) (by decide+kernel) (by decide+kernel)
  (by first | exact .inl (by decide+kernel) | exact .inr (by decide+kernel)) (by rw[isSubtype_type];kernel_rfl)
theorem iZ:entryFor table "reversed.__next__"=some Builtin.«reversed.__next__» :=entryFor_of_tree (by kernel_rfl)
theorem iM (a:Value):argsOk "reversed.__next__" ⟨[a],[]⟩:=by
 unfold argsOk;rw[signature?_of (id:="reversed.__next__") (n:=['_','_','t','x','e','n','_','_']) (o:=['d','e','s','r','e','v','e','r']) (by kernel_rfl) qM];kernel_rfl
theorem jJ:Slot "reversed" "__iter__" "reversed.__iter__":=
 .of (owner:="reversed") (n:="__iter__") (by rw[typeLookup_type,builtinLookup_eq_fast];kernel_rfl) (by decide+kernel) (by decide+kernel) (by decide+kernel)
  (by first | exact .inl (by decide+kernel) | exact .inr (by decide+kernel)) (by rw[isSubtype_type];kernel_rfl)
theorem mJ (a:Value):argsOk "reversed.__iter__" ⟨[a],[]⟩:=by
 unfold argsOk;rw[signature?_of (id:="reversed.__iter__") (n:=['_','_','r','e','t','i','_','_']) (o:=['d','e','s','r','e','v','e','r']) (by kernel_rfl) qM];kernel_rfl
theorem nP:entryFor table "reversed.__iter__"=some Builtin.«dict_keyiterator.__iter__» :=
 entryFor_alias (id':="dict_keyiterator.__iter__") (by kernel_rfl) (by first | rfl | decide+kernel | (unfold String.splitOn;simp+decide [String.splitOnAux])) (by decide+kernel) (by kernel_rfl)
theorem pV:Slot "reversed" "__init__" "object.__init__":=
 .of (owner:="object") (n:="__init__") (by rw[typeLookup_type,builtinLookup_eq_fast];kernel_rfl) (by decide+kernel) (by decide+kernel) (by decide+kernel)
  (by first | exact .inl (by decide+kernel) | exact .inr (by decide+kernel)) (by rw[isSubtype_type];kernel_rfl)
theorem wU:TypeCalled "reversed" "reversed.__new__" "object.__init__":=
 ⟨by decide+kernel,by decide+kernel,⟨_,_,F.mro_reversed⟩,F.made_reversed,by decide+kernel,by rw[isSubtype_type];kernel_rfl,pV⟩
theorem wV:typeLookup (.type "str") "__reversed__"=pure none:=by rw[typeLookup_type,builtinLookup_eq_fast];kernel_rfl
end L2.F2
namespace L2
open PySem PySem.Spec PyProof.Rows
theorem nQ (x:Str) (t:Tok) (hz:x.length<=sizeLine):Meets (Builtin.«reversed.__new__» ⟨[.type "reversed", .str x t],[]⟩) (fun _ R s=> ∀tk,R (.ok (.ret (.ref s.heap.objs.size))) { s with heap:=s.heap.push { cls:= .type "reversed",data:= .fields #[.str x t,rawInt ((x.length:Int) - 1)] },toks:=tk }):=by
 refine Meets.of_wp fun prog w A R s h=>?_
 unfold Builtin.«reversed.__new__»
 refine wpAny_bind (wpAny_of_eq (newClass_reversed _) ?_)
 try dsimp only
 refine wpAny_bind (wpAny_of_eq (a:=()) (by first | rfl | kernel_rfl) ?_)
 refine wpAny_bind (wpAny_of_eq (a:=()) (by first | rfl | kernel_rfl) ?_)
 try dsimp only
 refine wpAny_bind (wpAny_specialOf (typeIs_str s x t) F2.wV ?_)
 try dsimp only
 refine wpAny_bind (wpAny_of_eq (a:=true) (by first | rfl | kernel_rfl) ?_)
 rw[if_neg (by decide)]
 have hn:=ff
 refine wpAny_bind (len_str (by omega) ?_)
 refine wpAny_bind (wpAny_of_eq (a:=some (x.length:Int)) (by first | rfl | kernel_rfl) ?_)
 show wpAny _ _ (Builtin.SmallTypes.newRecord (Value.type "reversed") [Value.str x t,rawInt ((x.length:Int) - 1)] >>= _) _ _ _
 refine wpAny_bind ?_
 unfold Builtin.SmallTypes.newRecord
 refine wpAny_newObj_type ?_ (by size_fits)
 exact wpAny_pure ⟨_,rfl,h _⟩
section
variable {prog:Program} {w:World} {A:Around} {E:Value->Shared->Prop} {s:Shared}
theorem nS {x:Str} {t:Tok} {Q:Value->Shared->Prop} (hz:x.length<=sizeLine) (h: ∀tk,Q (.ref s.heap.objs.size) { s with heap:=s.heap.push { cls:= .type "reversed",data:= .fields #[.str x t,rawInt ((x.length:Int) - 1)] },toks:=tk }):
  wpAny (model prog w) A (call (.type "reversed") [.str x t]) Q E s:=
 callType_new F2.wU (by decide+kernel) (F.typeCall_reversed_1 _) (F.newCall_reversed_1 _) (fun obj=>by unfold argsOk;kernel_rfl) F.entry_reversed_new (nQ x t hz)
  fun tk=>⟨⟨_,Heap.get?_push_size _ rfl,rfl⟩,h tk⟩
noncomputable def i0 (h:Heap) (it:Addr) (x:Str) (t:Tok) (i:Int):Prop:= ∃o,h.get? it=some o/\o.cls= .type "reversed"/\o.data= .fields #[.str x t,rawInt i]
theorem i0.typeIs {it:Addr} {x:Str} {t:Tok} {i:Int} (h:i0 s.heap it x t i):s.TypeIs (.ref it) "reversed":=let ⟨o,ho,hc,_⟩:=h;⟨o,ho,hc⟩
theorem nU {it:Addr} {x:Str} {t:Tok} {i:Int} {Q:Value->Shared->Prop} (hit:i0 s.heap it x t i) (h:Q (.ref it) s):wpAny (model prog w) A (pyIter (.ref it)) Q E s:=by
 refine wpAny_pyIter_slot hit.typeIs F2.jJ (wpAny_call_entry F2.jJ hit.typeIs F2.nP ?_ (F2.mJ _))
 show wpAny _ _ (ret (.ref it)) _ _ s
 exact wpAny_pure ⟨_,rfl,"reversed",_,hit.typeIs,F2.cP.lookup,h⟩
theorem mK {it:Addr} {x:Str} {t:Tok} {i c:Nat} {Q:Option Value->Shared->Prop} (hit:i0 s.heap it x t (i:Int)) (hx:x.cps[i]? =some c) (hz:x.length<=sizeLine)
  (hQ: ∀h' tk u,i0 h' it x t ((i:Int) - 1)->Heap.SameBut it s.heap h'->Q (some (.str ⟨#[c]⟩ u)) { s with heap:=h',toks:=tk }):wpAny (model prog w) A (pyNext (.ref it)) Q E s:=by
 obtain ⟨o,ho,hc,hd⟩:=id hit
 have hn:=ff
 have hi:i<x.length:=(Array.getElem?_eq_some_iff.mp hx).1
 unfold pyNext
 refine wpAny_bind (wpAny_attempt (wpAny_callSpecial?_slot (name:=Str.ofString "__next__") hit.typeIs F2.cP
  (wpAny_call_entry F2.cP hit.typeIs F2.iZ ?_ (F2.iM _))))
 unfold Builtin.«reversed.__next__»
 refine wpAny_bind (wpAny_of_eq (a:=(Value.ref it,[])) rfl ?_)
 try dsimp only
 refine wpAny_bind (wpAny_field ho hd (x:= .str x t) rfl ?_)
 refine wpAny_bind (wpAny_field ho hd (x:=rawInt (i:Int)) rfl ?_)
 show wpAny _ _ (if (i:Int)<0 then _ else _) _ _ s
 rw[if_neg (by omega)]
 refine wpAny_bind (wpAny_specialOf (typeIs_str s x t) F.slot_str_getitem.lookup ?_)
 show wpAny _ _ (if (some (Value.builtin _)).isNone=true then _ else _) _ _ s
 rw[if_neg (by decide)]
 refine wpAny_bind (wpAny_mkInt ?_)
 refine wpAny_bind (wpAny_attempt (getItem_str (c:=c) (by
  have e1:decide ((i:Int)< -(2 ^ 63:Int))=false:=decide_eq_false (by omega)
  have e2:decide ((i:Int) ≥ 2 ^ 63)=false:=decide_eq_false (by omega)
  rw[e1,e2,Bool.or_false]) (by rw[seqIndex_of (by omega) (by omega),Int.toNat_natCast];exact hx) ?_))
 show wpAny _ _ (field (Value.ref it) 1 >>= _) _ _ _
 refine wpAny_bind (wpAny_field ho hd (x:=rawInt (i:Int)) rfl ?_)
 show wpAny _ _ (setField (Value.ref it) 1 (rawInt ((i:Int) - 1)) >>= _) _ _ _
 refine wpAny_bind (wpAny_setField ho hd (by simp) ?_)
 refine wpAny_pure ⟨_,rfl,wpAny_pure (hQ _ _ _ ?_ (Heap.SameBut.update ..))⟩
 exact ⟨_,Heap.get?_update_self _ ho (Obj.isFreed_of_fields (Obj.data_mapFields hd _)),(Obj.cls_mapFields ..).trans hc,by
  rw[Obj.data_mapFields hd];simp⟩
theorem nV {it:Addr} {x:Str} {t:Tok} {Q:Option Value->Shared->Prop} (hh:A.handled=none) (hit:i0 s.heap it x t (-1))
  (hQ: ∀h',Heap.ExtBut it s.heap h'->Q none { s with heap:=h' }):wpAny (model prog w) A (pyNext (.ref it)) Q E s:=by
 obtain ⟨o,ho,hc,hd⟩:=id hit
 unfold pyNext
 refine wpAny_bind (wpAny_attempt (wpAny_callSpecial?_slot (name:=Str.ofString "__next__") hit.typeIs F2.cP
  (wpAny_call_entry F2.cP hit.typeIs F2.iZ ?_ (F2.iM _))))
 unfold Builtin.«reversed.__next__»
 refine wpAny_bind (wpAny_of_eq (a:=(Value.ref it,[])) rfl ?_)
 try dsimp only
 refine wpAny_bind (wpAny_field ho hd (x:= .str x t) rfl ?_)
 refine wpAny_bind (wpAny_field ho hd (x:=rawInt (-1)) rfl ?_)
 show wpAny _ _ (if (-1:Int)<0 then _ else _) _ _ s
 rw[if_pos (by decide)]
 refine wpAny_bind (wpAny_rule ?_)
 refine wpAny_bind ?_
 show wpAny _ _ (setField (Value.ref it) 1 (rawInt (-1)) >>= fun _=>setField (Value.ref it) 0 .none) _ _ _
 refine wpAny_bind (wpAny_setField ho hd (by simp) ?_)
 refine wpAny_setField (Heap.get?_update_self _ ho (Obj.isFreed_of_fields (Obj.data_mapFields hd _))) (Obj.data_mapFields hd _) (by simp) ?_
 first
 | show wpAny _ _ (newExc (.type "StopIteration") [] >>= _) _ _ _
 |(refine wpAny_bind ?_;show wpAny _ _ (newExc (.type "StopIteration") [] >>= _) _ _ _)
 refine wpAny_bind ?_
 simp only[newExc,newTuple]
 refine wpAny_bind (wpAny_newObj_type ?_ (by size_fits))
 refine wpAny_bind (m:=firstArgMember _ _) (wpAny_of_eq (a:=Value.none) (by first | rfl | (simp only[firstArgMember];rfl)) ?_)
 refine wpAny_newObj_type ?_ (by size_fits)
 simp only[raiseNew]
 refine wpAny_bind (wpAny_handled ?_)
 first | rw[show A.in1.handled=none from hh] | rw[hh]
 refine wpAny_bind (wpAny_pure (wpAny_throw ?_))
 refine wpAny_bind (wpAny_isInstance (T:="StopIteration") (b:=true) ⟨_,Heap.get?_push_size _ rfl,rfl⟩ isSubtype_stop ?_)
 refine wpAny_pure (hQ _ fun b ob hb e=>?_)
 refine Heap.get?_push_of_some _ (Heap.get?_push_of_some _ ?_)
 exact (Heap.get?_update_other _ _ (Ne.symm hb)).trans ((Heap.get?_update_other _ _ (Ne.symm hb)).trans e)
end
noncomputable def BE (xs:List V):It:=⟨fun i _=>i<xs.length,fun i H x H'=>H'=H/\xs[i]? =some x,fun i _=>xs.length<=i⟩
theorem ki {l:List Nat} {i:Nat} {x:V} (h:(cI l)[i]? =some x): ∃c,l[i]? =some c/\x= .str (S [c]):=by
 unfold cI at h
 rw[List.getElem?_map]at h
 cases e:l[i]? with
 | none=>rw[e]at h;cases h
 | some c=>rw[e]at h;cases h;exact ⟨c,rfl,rfl⟩
theorem bV (l:List Nat):(cI l).length=l.length:=by unfold cI;rw[List.length_map]
theorem BF {P:Program} {w:World} {K:PySem.W.Frag} {tg:Expr} (it:Addr) (l:List Nat) (t:Tok):Turn P w K tg (BE (cI l)) [it] it (fun i h=>h.IsStrIter it (strIterType (S l)) (S l) t i) where
 mem:=by simp
 obj:=fun i h st b hb=>by
  have e:b=it:=by simpa using hb
  subst e
  obtain ⟨o,e,c,d⟩:=st
  exact ⟨o,e,fun v z=>by rw[d]at z;cases z⟩
 keep:=fun i h h' st k=>let ⟨o,e,r⟩:=st;⟨o,k it (by simp) o e,r⟩
 item:=by
  intro X hP hw hK hc i pins s σ H E I hf st hg
  subst hP hw hK
  have BG:i<l.length:=by have:i<(cI l).length:=hg;rwa [bV]at this
  obtain ⟨f0,f1,f2,f3,f4,f5⟩:=hf it (by simp)
  have fin: ∀(v:Value) (h':Heap) (tk:Nat),SignAt (S l) i v->h'.IsStrIter it (strIterType (S l)) (S l) t (i+1)->(∀b o,b∉[it]->s.heap.get? b=some o->h'.get? b=some o)->
    ∃u,some v=some u/\wpAny (model X.prog X.w) X.A (letOwnedTupleGo tg (.ref it) u) (fun _ s2=> ∃x H',Inv X pins σ H' s2/\RelV x u/\(BE (cI l)).Bj i H x H'/\s2.heap.IsStrIter it (strIterType (S l)) (S l) t (i+1)/\ ∀b∈[it],H' b=none) E { s with heap:=h',toks:=tk }:=by
   intro v h' tk hv aT kk
   obtain ⟨c,u,e1,e2⟩:=hv
   subst e2
   have I1:Inv X pins σ H { s with heap:=h',toks:=tk }:=I.turned (fun b o hb e=>kk b o (by simpa using hb) e) f0 f1 f3 f4 f5
   obtain ⟨o,e,cc,d⟩:=id aT
   refine ⟨_,rfl,qw (s:={ s with heap:=h',toks:=tk }) e cc d (by unfold strIterType;split<;>decide) ⟨.str (S [c]),H,I1,⟨u,rfl⟩,⟨rfl,?_⟩,aT,fun b hb=>(hf b hb).1⟩⟩
   unfold cI
   rw[List.getElem?_map]
   have XS:l[i]? =some c:=by simpa [S]using e1
   rw[XS]
   rfl
  have hsz:i<(S l).cps.size:=by rw[lD];exact BG
  by_cases ha:(S l).cps.all (· <128)=true
  ·have et:strIterType (S l)="str_ascii_iterator":=by unfold strIterType;rw[if_pos ha]
   rw[et]at st
   exact (Walks.strAscii (prog:=X.prog) (w:=X.w) (I.ok.hd hc) it (S l) t).item i s _ _ hsz st fun v h' tk hv aT kk=>fin v h' tk hv (by rw[et];exact aT) kk
  ·have et:strIterType (S l)="str_iterator":=by unfold strIterType;rw[if_neg ha]
   rw[et]at st
   exact (Walks.strWide (prog:=X.prog) (w:=X.w) (I.ok.hd hc) it (S l) t).item i s _ _ hsz st fun v h' tk hv aT kk=>fin v h' tk hv (by rw[et];exact aT) kk
 done:=by
  intro X hP hw hK hc i pins s σ H E I hf st hg
  subst hP hw hK
  obtain ⟨f0,f1,f2,f3,f4,f5⟩:=hf it (by simp)
  have BG:l.length<=i:=by have:(cI l).length<=i:=hg;rwa [bV]at this
  have hx:(S l).cps[i]? =none:=by rw[Array.getElem?_eq_none_iff,lD];exact BG
  by_cases ha:(S l).cps.all (· <128)=true
  ·have et:strIterType (S l)="str_ascii_iterator":=by unfold strIterType;rw[if_pos ha]
   rw[et]at st
   exact wpAny_pyNext_ascii_end (I.ok.hd hc) st hx fun h' eb=>⟨rfl,I.turned (t':=s.toks) (fun b o hb e=>eb b o hb e) f0 f1 f3 f4 f5⟩
  ·have et:strIterType (S l)="str_iterator":=by unfold strIterType;rw[if_neg ha]
   rw[et]at st
   exact wpAny_pyNext_wide_end (I.ok.hd hc) st hx fun h' eb=>⟨rfl,I.turned (t':=s.toks) (fun b o hb e=>eb b o hb e) f0 f1 f3 f4 f5⟩
 self:=fun _ _ s _ _ st h=>by
  by_cases ha:(S l).cps.all (· <128)=true
  ·have et:strIterType (S l)="str_ascii_iterator":=by unfold strIterType;rw[if_pos ha]
   rw[et]at st
   exact wpAny_pyIter_striter_ascii st h
  ·have et:strIterType (S l)="str_iterator":=by unfold strIterType;rw[if_neg ha]
   rw[et]at st
   exact wpAny_pyIter_striter_wide st h
theorem BH {P:Program} {w:World} {K:PySem.W.Frag} {tg:Expr} (it:Addr) (l:List Nat) (t:Tok) (hz:l.length<=sizeLine):Turn P w K tg (BE (cI l).reverse) [it] it (fun i h=>i<=l.length/\i0 h it (S l) t ((l.length:Int) - 1 - (i:Int))) where
 mem:=by simp
 obj:=fun i h st b hb=>by
  have e:b=it:=by simpa using hb
  subst e
  obtain ⟨_,o,e,c,d⟩:=st
  exact ⟨o,e,fun v z=>by rw[d]at z;cases z⟩
 keep:=fun i h h' st k=>let ⟨q,o,e,r⟩:=st;⟨q,o,k it (by simp) o e,r⟩
 item:=by
  intro X hP hw hK hc i pins s σ H E I hf st hg
  subst hP hw hK
  have BG:i<l.length:=by have:i<(cI l).reverse.length:=hg;rwa [List.length_reverse,bV]at this
  obtain ⟨f0,f1,f2,f3,f4,f5⟩:=hf it (by simp)
  obtain ⟨_,st⟩:=st
  have e:(l.length:Int) - 1 - (i:Int)=((l.length - 1 - i:Nat):Int):=by omega
  rw[e]at st
  have cG:l.length - 1 - i<l.length:=by omega
  refine mK (c:=l[l.length - 1 - i]) st (by simp[S,cG]) (by rw[aY];exact hz) fun h' tk u aT sb=>?_
  have I1:Inv X pins σ H { s with heap:=h',toks:=tk }:=I.turned (fun b o hb e=>(sb.2 b hb).trans e) f0 f1 f3 f4 f5
  obtain ⟨o,e1,cc,d⟩:=id aT
  refine ⟨_,rfl,qw (s:={ s with heap:=h',toks:=tk }) e1 cc d (by decide) ⟨.str (S [l[l.length - 1 - i]]),H,I1,⟨u,rfl⟩,⟨rfl,?_⟩,⟨BG,?_⟩,fun b hb=>(hf b hb).1⟩⟩
  ·rw[List.getElem?_reverse (by rw[bV];exact BG),bV]
   unfold cI
   rw[List.getElem?_map,List.getElem?_eq_getElem cG]
   rfl
  ·have e2:(l.length:Int) - 1 - ((i+1:Nat):Int)=((l.length - 1 - i:Nat):Int) - 1:=by omega
   rw[e2]
   exact aT
 done:=by
  intro X hP hw hK hc i pins s σ H E I hf st hg
  subst hP hw hK
  obtain ⟨f0,f1,f2,f3,f4,f5⟩:=hf it (by simp)
  have BG:l.length<=i:=by have:(cI l).reverse.length<=i:=hg;rwa [List.length_reverse,bV]at this
  obtain ⟨hi,st⟩:=st
  have e:(l.length:Int) - 1 - (i:Int)= -1:=by omega
  rw[e]at st
  exact nV (I.ok.hd hc) st fun h' eb=>⟨rfl,I.turned (t':=s.toks) (fun b o hb e=>eb b o hb e) f0 f1 f3 f4 f5⟩
 self:=fun _ _ _ _ _ st h=>nU st.2 h
section
variable {X:Cx} {tg:Expr}
noncomputable def PJ (tl:TE):TI:=fun σ H R=>tl σ H fun x H1=> ∃l,x= .str (S l)/\R (BE (cI l)) H1
theorem r_ {l:Expr} {tl:TE} (hl:PE X l tl):PI X tg l (PJ tl):=by
 intro pins s σ H R I h
 refine aS (hl pins s σ H _ I h) fun v s1 ⟨x,H1,I1,r1,q1⟩=>?_
 obtain ⟨l,rfl,q⟩:=q1
 obtain ⟨t,rfl⟩:=r1
 refine wpAny_pyIter_strU ?_
 refine ⟨s1.heap.objs.size,[s1.heap.objs.size],_,_,H1,rfl,I1.kept (t':=s1.toks) fun b o e=>Heap.get?_push_of_some _ e,BF _ l t,⟨_,Heap.get?_push_size _ rfl,rfl,rfl⟩,fun b hb=>?_,q⟩
 have e:b=s1.heap.objs.size:=by simpa using hb
 subst e
 exact I1.lj (Nat.le_refl _) (I1.a_.fresh (Nat.le_refl _))
noncomputable def PK (ta:TA):TI:=fun σ H R=>ta σ H fun vs H1=> ∃l,vs=[.str (S l)]/\l.length<=sizeLine/\R (BE (cI l).reverse) H1
theorem Ij {a:Expr} {ta:TA} {p pos:Pos} (hg:Gl X "reversed") (hm:X.mg "reversed"=none) (ha:PA X [a] ta) (hs:starEach [a] X.env=[(false,eval a X.env)]:=by rfl):PI X tg (.Call (.Name "reversed" p) [a] [] pos) (PK ta):=by
 intro pins s σ H R I h
 refine Call_ (iV I hg hm boot_reversed (PyProof.Rows.callWith_type1 (aS (ha pos pins s σ H _ I h) fun us s1 ⟨vs,H1,I1,r1,q1⟩=>?_) hs rfl))
 obtain ⟨l,rfl,hz,q⟩:=q1
 obtain ⟨u,rfl,t,rfl⟩:=vals1 r1
 refine nS (by rw[aY];exact hz) fun tk=>?_
 have hit:i0 (s1.heap.push { cls:= .type "reversed",data:= .fields #[.str (S l) t,rawInt (((S l).length:Int) - 1)] }) s1.heap.objs.size (S l) t (((S l).length:Int) - 1):=⟨_,Heap.get?_push_size _ rfl,rfl,rfl⟩
 refine nU hit ?_
 refine ⟨s1.heap.objs.size,[s1.heap.objs.size],_,_,H1,rfl,I1.kept (t':=tk) fun b o e=>Heap.get?_push_of_some _ e,BH _ l t hz,⟨Nat.zero_le _,?_⟩,fun b hb=>?_,q⟩
 ·have e:(l.length:Int) - 1 - ((0:Nat):Int)=((S l).length:Int) - 1:=by rw[aY];simp
  rw[e]
  exact hit
 ·have e:b=s1.heap.objs.size:=by simpa using hb
  subst e
  exact I1.lj (Nat.le_refl _) (I1.a_.fresh (Nat.le_refl _))
end
theorem yj {xs:List V} {g:TG} {tb:TS} {D:Ends} {σ:St} {H:Hp} (Pv:Nat->St->Hp->Prop) (h0:Pv 0 σ H)
  (hs: ∀i x σ H,xs[i]? =some x->Pv i σ H->g x σ H fun σ2 H2=>tb { D with nx:=Pv (i+1),ct:=Pv (i+1),bk:=D.nx } σ2 H2) (hd: ∀σ H,Pv xs.length σ H->D.nx σ H):
  ∃W:Nat->Nat->St->Hp->Prop,(∃m,W 0 m σ H)/\ ∀i m σ H,W i m σ H->
   ((BE xs).stop i H/\D.nx σ H)\/((BE xs).go i H/\ ∃N:St->Hp->Prop,(∀σ' H',N σ' H'-> ∃m',m'<m/\W (i+1) m' σ' H')/\ ∀x H',(BE xs).Bj i H x H'->g x σ H' fun σ2 H2=>tb { D with nx:=N,ct:=N,bk:=D.nx } σ2 H2):=by
 refine ⟨fun i m σ H=>m=xs.length - i/\i<=xs.length/\Pv i σ H,⟨xs.length,by simp,Nat.zero_le _,h0⟩,?_⟩
 rintro i m σ H ⟨rfl,hi,p⟩
 by_cases cG:i<xs.length
 ·refine .inr ⟨cG,Pv (i+1),fun σ' H' p'=>⟨xs.length - (i+1),by omega,rfl,cG,p'⟩,fun x H' y=>?_⟩
  obtain ⟨e,y⟩:=y
  subst e
  exact hs i x σ _ y p
 ·have e:i=xs.length:=by omega
  subst e
  exact .inl ⟨Nat.le_refl _,hd σ H p⟩
theorem mZ {J:It} {n:Nat} {xs:Nat->V->Prop} {σc:St} {g:TG} {tc:TT} {te:TE} {Q:VK} {H1:Hp} (Pv:Nat->List V->Hp->Prop) (hn:n<sizeLine) (XT: ∀i acc H,i<n->Pv i acc H->J.go i H) (LK: ∀acc H,Pv n acc H->J.stop n H)
  (hy: ∀i acc H x H',i<n->Pv i acc H->J.Bj i H x H'->H'=H/\xs i x) (h0:Pv 0 [] H1)
  (hs: ∀(i:Nat) (x:V) (acc:List V) (H:Hp) (Nx:List V->Hp->Prop),i<n->xs i x->acc.length<=i->Pv i acc H->(∀cW H',cW.length<=i+1->Pv (i+1) cW H'->Nx cW H')->
   g x σc H fun σ2 H2=>Wk σc σ2/\tc σ2 H2 fun b H3=>if b=true then te σ2 H3 fun v H4=>Nx (acc++[v]) H4 else Nx acc H3)
  (hd: ∀acc H D,acc.length<=n->Pv n acc H->H D=none->Q (.ref D) (upd H D (.lst acc))):qI J σc g tc te Q H1:=by
 refine ⟨fun i m acc H=>m=n - i/\i<=n/\acc.length<=i/\Pv i acc H,⟨n,by simp,Nat.zero_le _,Nat.le_refl _,h0⟩,?_⟩
 rintro i m acc H ⟨rfl,hi,hl,p⟩
 refine ⟨by omega,?_⟩
 by_cases cG:i<n
 ·refine .inr ⟨XT i acc H cG p,fun x H' y=>?_⟩
  obtain ⟨rfl,y2⟩:=hy i acc H x H' cG p y
  exact hs i x acc _ (fun cW H'=> ∃m',m'<n - i/\(m'=n - (i+1)/\i+1<=n/\cW.length<=i+1/\Pv (i+1) cW H')) cG y2 hl p fun cW H' h1 h2=>⟨n - (i+1),by omega,rfl,cG,h1,h2⟩
 ·have e:i=n:=by omega
  subst e
  exact .inl ⟨LK acc H p,fun D hD=>hd acc H D hl p hD⟩
theorem kj {xs:List V} {σc:St} {g:TG} {tc:TT} {te:TE} {Q:VK} {H1:Hp} (Pv:Nat->List V->Hp->Prop) (hn:xs.length<sizeLine) (h0:Pv 0 [] H1)
  (hs: ∀(i:Nat) (x:V) (acc:List V) (H:Hp) (Nx:List V->Hp->Prop),i<xs.length->xs[i]? =some x->acc.length<=i->Pv i acc H->(∀cW H',cW.length<=i+1->Pv (i+1) cW H'->Nx cW H')->
   g x σc H fun σ2 H2=>Wk σc σ2/\tc σ2 H2 fun b H3=>if b=true then te σ2 H3 fun v H4=>Nx (acc++[v]) H4 else Nx acc H3)
  (hd: ∀acc H D,acc.length<=xs.length->Pv xs.length acc H->H D=none->Q (.ref D) (upd H D (.lst acc))):qI (BE xs) σc g tc te Q H1:=
 mZ (xs:=fun i x=>xs[i]? =some x) Pv hn (fun i _ _ h _=>h) (fun _ _ _=>Nat.le_refl _) (fun i _ H x H' _ _ y=>y) h0 hs hd
theorem fh {lo:Int} {n:Nat} {σc:St} {g:TG} {tc:TT} {te:TE} {Q:VK} {H1:Hp} (Pv:Nat->List V->Hp->Prop) (hn:n<sizeLine) (h0:Pv 0 [] H1)
  (hs: ∀(i:Nat) (acc:List V) (H:Hp) (Nx:List V->Hp->Prop),i<n->acc.length<=i->Pv i acc H->(∀cW H',cW.length<=i+1->Pv (i+1) cW H'->Nx cW H')->
   g (.int (lo+i)) σc H fun σ2 H2=>Wk σc σ2/\tc σ2 H2 fun b H3=>if b=true then te σ2 H3 fun v H4=>Nx (acc++[v]) H4 else Nx acc H3)
  (hd: ∀acc H D,acc.length<=n->Pv n acc H->H D=none->Q (.ref D) (upd H D (.lst acc))):qI (Ht lo n) σc g tc te Q H1:=
 mZ (xs:=fun i x=>x= .int (lo+i)) Pv hn (fun i _ _ h _=>h) (fun _ _ _=>Nat.le_refl _) (fun i _ H x H' _ _ y=>y) h0 (fun i x acc H Nx h1 h2=>by subst h2;exact hs i acc H Nx h1) hd
theorem lE {K:PySem.W.Frag} {a:Addr} {xs:List V} {σc:St} {g:TG} {tc:TT} {te:TE} {Q:VK} {H1:Hp} (Pv:Nat->List V->Hp->Prop) (hn:xs.length<sizeLine) (hl: ∀i acc H,Pv i acc H->bt K H a xs) (h0:Pv 0 [] H1)
  (hs: ∀(i:Nat) (x:V) (acc:List V) (H:Hp) (Nx:List V->Hp->Prop),i<xs.length->xs[i]? =some x->acc.length<=i->Pv i acc H->(∀cW H',cW.length<=i+1->Pv (i+1) cW H'->Nx cW H')->
   g x σc H fun σ2 H2=>Wk σc σ2/\tc σ2 H2 fun b H3=>if b=true then te σ2 H3 fun v H4=>Nx (acc++[v]) H4 else Nx acc H3)
  (hd: ∀acc H D,acc.length<=xs.length->Pv xs.length acc H->H D=none->Q (.ref D) (upd H D (.lst acc))):qI (Kb K a) σc g tc te Q H1:=
 mZ (xs:=fun i x=>xs[i]? =some x) Pv hn (fun i acc H h p=>⟨xs,xs[i],hl i acc H p,by simp[h]⟩) (fun acc H p=>⟨xs,hl _ acc H p,Nat.le_refl _⟩) (fun i acc H x H' h p y=>⟨y.1,y.2 xs (hl i acc H p)⟩) h0 hs hd
noncomputable def DZ (c:TT) (tb:TS):TS:=fun D σ H=> ∃W:Nat->St->Hp->Prop,(∃m,W m σ H)/\ ∀m σ H,W m σ H->
 c σ H fun b H1=>if b=true then tb { D with nx:=fun σ' H'=> ∃m',m'<m/\W m' σ' H',ct:=fun σ' H'=> ∃m',m'<m/\W m' σ' H',bk:=D.nx } σ H1 else D.nx σ H1
theorem lF {X:Cx} {c:Expr} {body:List Stmt} {tc:TT} {tb:TS} {pos:Pos} (hp:PassesOwn (model X.prog X.w) X.A X.env X.xe) (hc:PT X c tc) (hb:rH X body tb):PS X (.While c body [] pos) (DZ tc tb):=by
 intro pins s σ H D I h
 obtain ⟨W,⟨m0,w0⟩,turn⟩:=h
 refine wpAny_While (codeAny_whileLoop (fun n s'=> ∃σ' H',Inv X pins σ' H' s'/\W n σ' H') ?_ m0 ⟨σ,H,I,w0⟩)
 rintro n s1 ⟨σ1,H1,I1,w1⟩
 refine wpAny_passesOwn hp (aS (hc pins s1 σ1 H1 _ I1 (turn n σ1 H1 w1)) fun b s2 ⟨H2,I2,q2⟩=>?_)
 cases b with
 | true=>
  rw[if_pos rfl]at q2 ⊢
  refine wpAny_passesOwn hp (aS (hb pins s2 σ1 H2 _ I2 q2) fun f s3 q3=>?_)
  cases f with
  | next=>
   obtain ⟨σ3,H3,I3,m',hm,w3⟩:=q3
   exact ⟨m',hm,σ3,H3,I3,w3⟩
  | cont=>
   obtain ⟨σ3,H3,I3,m',hm,w3⟩:=q3
   exact ⟨m',hm,σ3,H3,I3,w3⟩
  | brk=>exact q3
  | ret v=>exact q3
 | false=>
  rw[if_neg Bool.false_ne_true]at q2 ⊢
  exact wpAny_execs_nil ⟨σ1,H2,I2,q2⟩
noncomputable def nW (X:Cx) (scope:Scope):Bool:=(scope.names.all fun y=>y.2 != .cell)&&(scope.kind== .function)&&(scope.names.all fun y=>y.2 != .free||X.env.kindOf y.1==some .cell||X.env.kindOf y.1==some .free)&&(scope.names.all fun y=>y.2 != .local||scope.names.lookup y.1==some .local)
theorem iA {X:Cx} {scope:Scope} (h:nW X scope=true):(∀y∈scope.names,y.2≠ .cell)/\scope.kind= .function/\(∀y∈scope.names,y.2= .free->X.env.kindOf y.1=some .cell\/X.env.kindOf y.1=some .free)/\(∀x∈scope.names,x.2= .local->scope.names.lookup x.1=some .local):=by
 unfold nW at h
 simp only[Bool.and_eq_true]at h
 obtain ⟨⟨⟨h1,h2⟩,h3⟩,h4⟩:=h
 refine ⟨fun y hy e=>?_,by simpa using h2,fun y hy e=>?_,fun y hy e=>?_⟩
 ·have:=List.all_eq_true.mp h1 y hy
  rw[e]at this;simp at this
 ·have:=List.all_eq_true.mp h3 y hy
  rw[e]at this
  simpa using this
 ·have:=List.all_eq_true.mp h4 y hy
  rw[e]at this
  simpa using this
theorem bW {X:Cx} {tg iter elt:Expr} {ifs:List Expr} {scope:Scope} {pos:Pos} {wi:TI} {g:TG} {tc:TT} {te:TE} (Nc:List Str) (ix:List (Option Nat)) (hi:PI X tg iter wi) (v5:iR X scope Nc ix)
  (hG: ∀C s H fp,PG (bh X scope C Nc s H fp) tg g) (hT: ∀C s H fp,PF (bh X scope C Nc s H fp) ifs tc) (hE: ∀C s H fp,PE (bh X scope C Nc s H fp) elt te) (a_:nW X scope=true:=by rfl) (fg:X.calm=true:=by rfl)
  (hs: ∀x,foldedSetIterable iter X.env x=pure x:=by intro _;rfl):PE X (.ListComp elt [⟨tg,iter,ifs,0⟩] scope pos) (nJ wi ix g tc te):=
 let ⟨h1,h2,h3,h4⟩:=iA a_
 DT Nc ix hi fg v5 h1 h2 h3 h4 hG hT hE hs
theorem uB {X:Cx} {i:Nat} {x:Str} {tg iter elt:Expr} {ifs:List Expr} {scope:Scope} {pos uy pos':Pos} {wi:TI} {g:TG} {tc:TT} {te:TE} (Nc:List Str) (ix:List (Option Nat)) (hN:X.N.Nodup) (Ly:X.N[i]? =some x) (hx:Loc X.env.scope x)
  (hi:PI X tg iter wi) (v5:iR X scope Nc ix)
  (hG: ∀C s H fp,PG (bh X scope C Nc s H fp) tg g) (hT: ∀C s H fp,PF (bh X scope C Nc s H fp) ifs tc) (hE: ∀C s H fp,PE (bh X scope C Nc s H fp) elt te)
  (Lz:swapsWith (.ListComp elt [⟨tg,iter,ifs,0⟩] scope pos) (some (.Name x pos')) uy.line X.env=pure true:=by rfl) (a_:nW X scope=true:=by rfl) (fg:X.calm=true:=by rfl)
  (hs: ∀x,foldedSetIterable iter X.env x=pure x:=by intro _;rfl) (hf:X.fn x=true\/X.env.scope.names.lookup x=some .local:=by first | exact .inl rfl | exact .inr rfl | assumption):
  PS X (.Assign [.Name x pos'] (.ListComp elt [⟨tg,iter,ifs,0⟩] scope pos) uy) (Bi (nJ wi ix g tc te) (uh i)):=
 let ⟨h1,h2,h3,h4⟩:=iA a_
 DU Nc ix hN Ly hx Lz hi fg v5 h1 h2 h3 h4 hG hT hE hs hf
section
variable {X:Cx}
noncomputable def PL:R2:=fun x y H Q=> ∃a b,x= .str (S a)/\y= .str (S b)/\Q (.bl (decide (a=b))) H
noncomputable def PM:R2:=fun x y H Q=> ∃a b,x= .str (S a)/\y= .str (S b)/\Q (.bl (!decide (a=b))) H
theorem cM:ik X (compareOp .Eq) PL:=by
 intro pins s σ H x y v u Q I rx ry h
 obtain ⟨a,b,rfl,rfl,q⟩:=h
 exact F_ pins s σ H _ _ v u Q I rx ry ⟨rfl,by rw[Gj];exact q⟩
theorem nX:ik X (compareOp .NotEq) PM:=by
 intro pins s σ H x y v u Q I rx ry h
 obtain ⟨a,b,rfl,rfl,q⟩:=h
 exact Lb pins s σ H _ _ v u Q I rx ry ⟨rfl,by rw[Gj];exact q⟩
theorem LL {i j:Int}:decide (V.int i=V.int j)=decide (i=j):=by
 by_cases h:i=j
 ·subst h;simp
 ·rw[decide_eq_false h,decide_eq_false]
  intro q
  exact h (V.int.inj q)
theorem fj:ik X (compareOp .Eq) (DA fun i j=> .bl (decide (i=j))):=by
 intro pins s σ H x y v u Q I rx ry h
 obtain ⟨a,b,rfl,rfl,q⟩:=h
 exact F_ pins s σ H _ _ v u Q I rx ry ⟨rfl,by rw[LL];exact q⟩
end
end L2
namespace L2
open PySem PySem.Spec PyProof.Rows
section
variable {X:Cx} {tg:Expr}
theorem ba (K:PySem.W.Frag) (h:X.K=K):HL X (Li K):=by subst h;exact DK
theorem aM (K:PySem.W.Frag) (h:X.K=K):HL X (Lj K):=by subst h;exact HM
noncomputable def LM (K:PySem.W.Frag):List V->Hp->VK->Prop:=fun xs H Q=> ∃p ys,xs=[.ref p]/\(bt K H p ys\/bp K H p ys)/\Q (.int ys.length) H
theorem bD (K:PySem.W.Frag) (h:X.K=K):cL X (.builtin "len") (LM K):=by subst h;exact rW
theorem ei (K:PySem.W.Frag) (h:X.K=K):rR X "str.join" (BC K):=by subst h;exact BD
noncomputable def LN (K:PySem.W.Frag):List V->Hp->VK->Prop:=fun xs H Q=> ∃(p:Addr) (bs:List Bool),xs=[.ref p]/\bt K H p (bs.map V.bl)/\Q (.bl (bs.all id)) H
theorem qN (K:PySem.W.Frag) (h:X.K=K) (hc:X.calm=true):cL X (.builtin "all") (LN K):=by subst h;exact zU hc
theorem kl (K:PySem.W.Frag) (h:X.K=K):Lh X (Ll K):=by subst h;exact DL
theorem i3 (K:PySem.W.Frag) (h:X.K=K) {l:Expr} {tl:TE} (hl:PE X l tl):PI X tg l (FY K tl):=by subst h;exact Dy hl
theorem jo (K:PySem.W.Frag) (h:X.K=K) {l:Expr} {tl:TE} (hl:PE X l tl):PI X tg l (K7 K tl):=by subst h;exact Hu hl
end
section
variable {X:Cx} {o e:Expr} {es:List Expr} {to:TE} {t:TA} {name:Str} {apos du:Pos} {T id:String} {r:V->List V->Hp->VK->Prop}
theorem gr (K:PySem.W.Frag) (hK:X.K=K) (pa:PlainAttrs T) (slot:Slot T name id) (HS:typeOf (.builtin id)=pure (.type "method_descriptor")) (hm:rR X id r) (ho:PE X o to)
  (nF:attributeBase o name X.env (eval o X.env)=eval o X.env:=by rfl) (ma:(apos.endLine==du.line)=true:=by rfl):PE X (.Call (.Attribute o name apos) [] [] du) (Lm K T r to):=by
 subst hK
 exact HR pa slot HS hm ho nF ma
theorem bQ (K:PySem.W.Frag) (hK:X.K=K) (pa:PlainAttrs T) (slot:Slot T name id) (HS:typeOf (.builtin id)=pure (.type "method_descriptor")) (hm:rR X id r) (ho:PE X o to) (ha:PA X (e::es) t)
  (nF:attributeBase o name X.env (eval o X.env)=eval o X.env:=by rfl)
  (HU:((backTo du (starEach (e::es) X.env)).all (fun x=>!x.1)&&(backToKw du (keywordEach [] X.env)).all (fun x=>x.1.isSome)
   &&decide ((e::es).length+([]:List Keyword).length+(if ([]:List Keyword).isEmpty then 0 else 1)<30))=true:=by rfl)
  (ma:(apos.endLine==du.line)=true:=by rfl) (hs:starEach (e::es) X.env=(false,eval e X.env)::starEach es X.env:=by rfl) (wI:(backTo du (starEach es X.env)).any (·.1)=false:=by rfl):
  PE X (.Call (.Attribute o name apos) (e::es) [] du) (Vq K T r to t):=by
 subst hK
 exact Ln pa slot HS hm ho ha nF HU ma hs wI
end
end L2
namespace L2
open PySem PySem.Spec PyProof.Rows
mutual
inductive uC (K:PySem.W.Frag) (H:Hp):V->PyData->Prop
 | cT:uC K H .cT .none
 | bl (b:Bool):uC K H (.bl b) (.bool b)
 | int (i:Int):uC K H (.int i) (.int i)
 | str (x:Str):uC K H (.str x) (.str x)
 | lst {a:Addr} {xs:List V} {ds:List PyData} (h:bt K H a xs) (r:i4 K H xs ds):uC K H (.ref a) (.list ds)
 | tup {a:Addr} {xs:List V} {ds:List PyData} (h:bp K H a xs) (r:i4 K H xs ds):uC K H (.ref a) (.tuple ds)
inductive i4 (K:PySem.W.Frag) (H:Hp):List V->List PyData->Prop
 | nil:i4 K H [] []
 | cons {x:V} {xs:List V} {d:PyData} {ds:List PyData} (h:uC K H x d) (r:i4 K H xs ds):i4 K H (x::xs) (d::ds)
end
section
variable {X:Cx} {pins:List (Addr×Obj)} {σ:St} {H:Hp} {s:Shared}
mutual
theorem uC.reads (I:Inv X pins σ H s): ∀{x:V} {d:PyData} {u:Value},uC X.K H x d->RelV x u-> ∃as,Reads s.heap u d as
 | _,_,u, .cT,r=>by cases (show u=Value.none from r);exact ⟨_, .none⟩
 | _,_,u, .bl b,r=>by cases (show u=Value.bool b from r);exact ⟨_, .bool b⟩
 | _,_,u, .int i,r=>by obtain ⟨t,rfl⟩:=r;exact ⟨_, .int i t⟩
 | _,_,u, .str x,r=>by obtain ⟨t,rfl⟩:=r;exact ⟨_, .str x t⟩
 | _,_,u, .lst (a:=a) h q,r=>by
  cases (show u=Value.ref a from r)
  obtain ⟨its,rv,pl,_⟩:=I.list h
  obtain ⟨as,ra⟩:=i4.reads I q rv
  obtain ⟨o,ho,hc,n,hd⟩:=pl.isList
  exact ⟨_, .list ho hc hd (by simpa using ra)⟩
 | _,_,u, .tup (a:=a) h q,r=>by
  cases (show u=Value.ref a from r)
  obtain ⟨its,rv,pl,_⟩:=I.tuple h
  obtain ⟨as,ra⟩:=i4.reads I q rv
  obtain ⟨o,ho,hc,n,hd⟩:=pl
  exact ⟨_, .tuple ho hc hd (by simpa using ra)⟩
theorem i4.reads (I:Inv X pins σ H s): ∀{xs:List V} {ds:List PyData} {us:List Value},i4 X.K H xs ds->Vals xs us-> ∃as,ReadsAll s.heap us ds as
 | _,_,us, .nil,r=>by cases r;exact ⟨_, .nil⟩
 | _,_,us, .cons h q,r=>by
  cases r with
  | cons r1 r2=>
   obtain ⟨as,ra⟩:=uC.reads I h r1
   obtain ⟨bs,rb⟩:=i4.reads I q r2
   exact ⟨_, .cons ra rb⟩
end
mutual
theorem uC.noDict {K:PySem.W.Frag}: ∀{x:V} {d:PyData},uC K H x d->d.hasDict=false
 | _,_, .cT=>rfl
 | _,_, .bl b=>rfl
 | _,_, .int i=>rfl
 | _,_, .str x=>rfl
 | _,_, .lst h q=>by show PyData.hasDictAll _=false;exact i4.noDict q
 | _,_, .tup h q=>by show PyData.hasDictAll _=false;exact i4.noDict q
theorem i4.noDict {K:PySem.W.Frag}: ∀{xs:List V} {ds:List PyData},i4 K H xs ds->PyData.hasDictAll ds=false
 | _,_, .nil=>rfl
 | _,_, .cons h q=>by
  show (PyData.hasDict _||PyData.hasDictAll _)=false
  rw[uC.noDict h,i4.noDict q];rfl
end
end
section
variable {X:Cx}
noncomputable def PN (K:PySem.W.Frag):R2:=fun x y H Q=> ∃dx dy,uC K H x dx/\uC K H y dy/\(dx.canLay0=true/\dy.canLay0=true)/\dx.depth<=60/\Q (.bl (!PyData.eqv dx dy)) H
theorem nY {k:Nat} (K:PySem.W.Frag) (h:X.K=K) (hr:eh k X.A):ik X (compareOp .NotEq) (PN K):=by
 subst h
 intro pins s σ H x y v u Q I rx ry h
 obtain ⟨dx,dy,h1,h2,⟨h3,h4⟩,h5,q⟩:=h
 obtain ⟨as,ra⟩:=h1.reads I rx
 obtain ⟨bs,rb⟩:=h2.reads I ry
 have hu:=hr.units
 exact SeqAt.compareNe_reads ra rb h3 h4 (by omega) ⟨.bl _,H,I,rfl,q⟩
noncomputable def LO (K:PySem.W.Frag) (ta:TE):TT:=fun σ H Q=>ta σ H fun x H'=> ∃p xs,x= .ref p/\bt K H' p xs/\Q (!xs.isEmpty) H'
theorem D0 {a:Expr} {ta:TE} (K:PySem.W.Frag) (h:X.K=K) (ha:PE X a ta) (he: ∀whole,isTrue a X.env whole=(do let v <-whole;standAt a.pos;holding [v] (truthy v)):=by intro _;rfl):PT X a (LO K ta):=by
 subst h
 intro pins s σ H Q I hw
 refine isTrue_plain (aS (ha pins s σ H _ I hw) fun v s1 ⟨x,H1,I1,r1,q1⟩=>?_) (he _)
 obtain ⟨p,xs,rfl,hq,q⟩:=q1
 exact HC pins s1 σ H1 _ v Q I1 r1 ⟨_, .inl ⟨xs,hq,rfl⟩,q⟩
theorem m6 (K:PySem.W.Frag) (h:X.K=K) {es:List Expr} {k:Nat} {t:C7} {n:Nat} {pos:Pos} (hc:X.calm=true) (hs:Ka X es t)
  (hn:(assignEach es X.env).length=n:=by rfl) (Dx:(assignEach es X.env).findIdx? (·.1)=none:=by rfl):PG X (.Tuple es k pos) (K6 K n t):=by
 subst h
 exact Hq hc hs hn Dx
end
end L2
namespace L2
open PySem PySem.Spec PyProof.Rows
noncomputable def Ik (a b:List Nat):List Nat:=if b<a then b else a
noncomputable def yk:List Nat->List (List Nat)->List Nat
 | a,[]=>a
 | a,b::r=>yk (Ik a b) r
section
variable {X:Cx}
end
end L2
namespace L2
open PySem PySem.Spec PyProof.Rows
section
variable {X:Cx}
theorem BI (K:PySem.W.Frag) (h:X.K=K):ik X (compareOp .In) (Oh K false):=by subst h;exact zL
theorem D3 (K:PySem.W.Frag) (h:X.K=K):ik X (compareOp .NotIn) (Oh K true):=by subst h;exact rT
structure SmD (k n:Nat) (d:PyData):Prop where
 lv:d.leavesShort 13=true
 sh:d.showable=true
 ly:d.canLay0=true
 dp:d.depth<=k
 wt:d.weight<=n
structure XU (k n:Nat) (ds:List PyData):Prop where
 lv:PyData.leavesShortAll 13 ds=true
 sh:PyData.showableAll ds=true
 ly:PyData.canLayAll0 ds=true
 dp:PyData.depthAll ds<=k
 wt:PyData.weightAll ds<=n
end
end L2
namespace L2
open PySem PySem.Spec PyProof.Rows
noncomputable def ck (n:Nat) (l:List Nat):List Nat:=(List.replicate n l).flatten
theorem cw (n:Nat) (l:List Nat):ck (n+1) l=l++ck n l:=by unfold ck;rw[List.replicate_succ,List.flatten_cons]
theorem BJ (n:Nat) (l:List Nat):(ck n l).length=n*l.length:=by
 induction n with
 | zero=>simp[ck]
 | succ n ih=>rw[cw,List.length_append,ih,Nat.succ_mul,Nat.add_comm]
theorem qO (l:List Nat): ∀(n:Nat) (acc:Array Nat),((List.replicate n (S l).cps).foldl (· ++ ·) acc).toList=acc.toList++ck n l
 | 0,acc=>by simp[ck]
 | n+1,acc=>by
  rw[List.replicate_succ,List.foldl_cons,qO l n,cw]
  simp[S]
noncomputable def LP:R2:=fun x y H Q=> ∃(l:List Nat) (i:Int),x= .str (S l)/\y= .int i/\(0<=i/\i<=1000000)/\l.length*i.toNat<=sizeLine/\Q (.str (S (ck i.toNat l))) H
theorem D4 {X:Cx}:ik X (binaryOp .Mult) LP:=by
 intro pins s σ H x y v u Q I rx ry h
 obtain ⟨l,i,rfl,rfl,⟨h0,h1⟩,hz,q⟩:=h
 obtain ⟨t,rfl⟩:=rx
 obtain ⟨t',rfl⟩:=ry
 have hn:=ff
 have PQ:(S l).length=l.length:=aY l
 have PR:(l.length:Int)*i<=2 ^ 63 - 1:=by
  have e:((l.length*i.toNat:Nat):Int)=(l.length:Int)*i:=by rw[Int.natCast_mul,Int.toNat_of_nonneg h0]
  have:((l.length*i.toNat:Nat):Int)<=(sizeLine:Int):=by exact_mod_cast hz
  rw[<-e];omega
 refine P.mul_str (x:=S l) (n:=i) (t:=t) (u:=t') (by
  have e1:decide (i< -(2 ^ 63:Int))=false:=decide_eq_false (by omega)
  have e2:decide (i ≥ 2 ^ 63)=false:=decide_eq_false (by omega)
  rw[e1,e2];rfl) (fun z _=>?_) (fun z _=>?_) ?_
 ·rw[PQ]
  have:(l.length:Int)<=(2 ^ 63 - 1) / i:=(Int.le_ediv_iff_mul_le (by omega)).mpr PR
  omega
 ·rw[PQ]
  show Builtin.Str.tooLong _=false
  unfold Builtin.Str.tooLong
  exact decide_eq_false (by omega)
 ·by_cases z:i<1
  ·rw[if_pos z]
   have e:i.toNat=0:=by omega
   rw[e]at q
   exact ⟨by decide, .str _,H,I.tok _,⟨_,rfl⟩,q⟩
  ·rw[if_neg z]
   by_cases z2:(i==1||(S l).length==0)=true
   ·rw[if_pos z2]
    have e:ck i.toNat l=l:=by
     rcases Bool.or_eq_true _ _ |>.mp z2 with e | e
     ·have e:i=1:=by simpa using e
      subst e
      show ck 1 l=l
      rw[cw];simp[ck]
     ·have e:l.length=0:=by rw[PQ]at e;simpa using e
      have e:l=[]:=List.length_eq_zero_iff.mp e
      subst e
      unfold ck
      simp
    rw[e]at q
    exact ⟨.str _,H,I,⟨_,rfl⟩,q⟩
   ·rw[if_neg z2]
    have e:(⟨(List.replicate i.toNat (S l).cps).foldl (· ++ ·) #[]⟩:Str)=S (ck i.toNat l):=by
     have:=qO l i.toNat #[]
     show _=(⟨(ck i.toNat l).toArray⟩:Str)
     congr 1
     apply Array.toList_inj.mp
     rw[this]
     simp
    rw[e]
    refine ⟨?_, .str _,H,I.tok _,⟨_,rfl⟩,q⟩
    rw[aY,BJ,Nat.mul_comm]
    exact hz
end L2
namespace L2
open PySem PySem.Spec PyProof.Rows
section
variable {X:Cx}
theorem D5:ik X (compareOp .IsNot) (fun x y H Q=> ∃c d,x= .bl c/\y= .bl d/\Q (.bl (c != d)) H):=by
 intro pins s σ H x y v u Q I rx ry h
 obtain ⟨c,d,rfl,rfl,q⟩:=h
 cases rx
 cases ry
 exact isnot_bool ⟨.bl _,H,I,rfl,q⟩
end
end L2
namespace L2
open PySem PySem.Spec PyProof.Rows
section
variable {X:Cx} {pins:List (Addr×Obj)} {σ:St} {H:Hp} {s:Shared} {h':Heap}
theorem Inv.uD {t':Nat} {ch:List Addr} {T:Addr} {ob:HO} (I:Inv X pins σ H s) (k: ∀b o,b∉ch->s.heap.get? b=some o->h'.get? b=some o) (hf: ∀b∈ch,iw X pins H b)
  (hT:s.heap.objs.size<=T) (new:bI X.prog X.w (upd H T ob) h' T ob):Inv X pins σ (upd H T ob) { s with heap:=h',toks:=t' }:=by
 have hn:=I.a_.fresh hT
 have FV: ∀b u,H b=some u->b∉ch:=fun b u e z=>by rw[(hf b z).1]at e;cases e
 have neT: ∀b o,s.heap.get? b=some o->b≠T:=fun b o e z=>absurd (Nat.lt_of_lt_of_le (Heap.lt_size e) hT) (by rw[z];exact Nat.lt_irrefl _)
 refine I.step (g':=s.gens) (d':=s.drawn) (ch:=ch) (fun b hb=>?_) (fun b o _ _ hc e _=>k b o hc e) (fun b o _ _ hc e _=>⟨o.slots,k b o hc e⟩) (fun b o _ e n=>by rw[aA (neT b o e)];exact n)
  (fun b o hc e=>⟨o,k b o hc e⟩) (fun b xs e=>by rw[aA (aC e hn)];exact e) (fun b o u e=>by rw[aA (aC e hn)];exact e) (fun b ps e=>⟨#[],by rw[aA (aC e hn),e];simp⟩) (fun m hm=>?_) (fun b u e=>?_) I.bare
 ·obtain ⟨_,h2,_,h4,h5,h6⟩:=hf b hb
  exact ⟨h4,h2,h5,h6⟩
 ·obtain ⟨o,es,ep,ho,r⟩:=hm
  exact ⟨o,es,ep,k _ o (fun z=>(hf _ z).2.1 rfl) ho,r⟩
 ·by_cases hb:b=T
  ·subst hb;rw[ag]at e;cases e;exact new
  ·rw[aA hb]at e
   refine (I.a_ b u e).mF (fun c v hc q=>k c v ?_ q) (fun c q=>by rw[aA (aC q hn)];exact q) fun c xs q=>by rw[aA (aC q hn)];exact q
   rcases hc with z | z
   ·rw[z];exact FV b u e
   ·exact FV c _ z
theorem Inv.yl {t':Nat} {ch:List Addr} (I:Inv X pins σ H s) (k: ∀b o,b∉ch->s.heap.get? b=some o->h'.get? b=some o) (hf: ∀b∈ch,iw X pins H b):Inv X pins σ H { s with heap:=h',toks:=t' }:=by
 have FV: ∀b u,H b=some u->b∉ch:=fun b u e z=>by rw[(hf b z).1]at e;cases e
 refine I.step (g':=s.gens) (d':=s.drawn) (ch:=ch) (fun b hb=>?_) (fun b o _ _ hc e _=>k b o hc e) (fun b o _ _ hc e _=>⟨o.slots,k b o hc e⟩) (fun b o _ e n=>n)
  (fun b o hc e=>⟨o,k b o hc e⟩) (fun b xs e=>e) (fun b o u e=>e) (fun b ps e=>⟨#[],by rw[e];simp⟩) (fun m hm=>?_) (fun b u e=>?_) I.bare
 ·obtain ⟨_,h2,_,h4,h5,h6⟩:=hf b hb
  exact ⟨h4,h2,h5,h6⟩
 ·obtain ⟨o,es,ep,ho,r⟩:=hm
  exact ⟨o,es,ep,k _ o (fun z=>(hf _ z).2.1 rfl) ho,r⟩
 ·refine (I.a_ b u e).mF (fun c v hc q=>k c v ?_ q) (fun c q=>q) fun c xs q=>q
  rcases hc with z | z
  ·rw[z];exact FV b u e
  ·exact FV c _ z
end
section
variable {X:Cx}
theorem D6 {ls:List (List Nat)}: ∀{its:List Value},Vals (ls.map fun l=>V.str (S l)) its->StrsAre its (ls.map S):=by
 induction ls with
 | nil=>intro its r;cases r;exact .nil
 | cons l ls ih=>
  intro its r
  cases r with
  | cons r1 r2=>
   obtain ⟨t,rfl⟩:=r1
   exact .cons _ t (ih r2)
theorem ym: ∀{its:List Value} {ss:List Str},StrsAre its ss->Vals ((ss.map fun x=>x.cps.toList).map fun l=>V.str (S l)) its
 | _,_, .nil=> .nil
 | _,_, .cons x t h=> .cons ⟨t,by rw[<-LB]⟩ (ym h)
end
end L2
namespace L2
open PySem PySem.Spec PyProof.Rows
section
variable {X:Cx}
theorem yn (l:List Nat):cI l=(l.map fun c=>[c]).map fun l=>V.str (S l):=by unfold cI;rw[List.map_map];rfl
theorem D7 {ls:List (List Nat)} {l:List Nat} (h:ls.Perm (l.map fun c=>[c])): ∃l':List Nat,ls=l'.map (fun c=>[c])/\l'.Perm l:=by
 refine ⟨ls.flatten,?_,?_⟩
 ·have hs: ∀x∈ls, ∃c,x=[c]:=fun x hx=>by
   obtain ⟨c,_,e⟩:=List.mem_map.mp (h.mem_iff.mp hx)
   exact ⟨c,e.symm⟩
  clear h
  induction ls with
  | nil=>rfl
  | cons x ls ih=>
   obtain ⟨c,rfl⟩:=hs x List.mem_cons_self
   rw[List.flatten_cons,List.map_append, <-ih fun y hy=>hs y (List.mem_cons_of_mem _ hy)]
   rfl
 ·have:=h.flatten
  have e:(l.map fun c=>[c]).flatten=l:=by
   clear h this
   induction l with
   | nil=>rfl
   | cons c l ih=>rw[List.map_cons,List.flatten_cons,ih];rfl
  rwa [e]at this
end
end L2
namespace L2
open PySem PySem.Spec PyProof.Rows
section
variable {X:Cx}
theorem km {x:Str} {pos:Pos} (l:List Nat) (hg:Gl X x) (hm: ∃t,X.mg x=some (.str (S l) t)) (hd:(x==("__debug__":Str))=false:=by decide):PE X (.Name x pos) (tC (.str (S l))):=by
 obtain ⟨t,e⟩:=hm
 exact gm hg e ⟨t,rfl⟩ hd
theorem Gm {x:Str} {pos:Pos} (i:Int) (hg:Gl X x) (hm: ∃t,X.mg x=some (.int i t)) (hd:(x==("__debug__":Str))=false:=by decide):PE X (.Name x pos) (tC (.int i)):=by
 obtain ⟨t,e⟩:=hm
 exact gm hg e ⟨t,rfl⟩ hd
end
end L2
namespace L2
open PySem PySem.Spec PyProof.Rows
section
variable {prog:Program} {w:World} {A:Around} {E:Value->Shared->Prop} {s:Shared}
end
noncomputable def BK (K:PySem.W.Frag) (a:Addr):It:=⟨fun i H=> ∃xs x,bt K H a xs/\xs[i]? =some x,fun i H x H'=> ∃T y,(∀xs,bt K H a xs->xs[i]? =some y)/\x= .ref T/\H T=none/\H'=upd H T (.tup [.int i,y]),fun i H=> ∃xs,bt K H a xs/\xs.length=i⟩
theorem wW {P:Program} {w:World} {K:PySem.W.Frag} {elts:List Expr} {k:Nat} {pos:Pos} (e it a:Addr) (Oo:e≠it) (VE:a≠e) (VF:a≠it):
  Turn P w K (.Tuple elts k pos) (BK K a) [e,it] e (fun i h=>(∃old,IsEnum h e it i old)/\h.IsListIter it a i) where
 mem:=by simp
 obj:=fun i h st b hb=>by
  obtain ⟨⟨old,he⟩,o,ho,hc,hd⟩:=st
  rcases List.mem_cons.mp hb with z | z
  ·rw[z];exact ⟨_,he,fun v z=>by cases z⟩
  ·rw[List.mem_singleton.mp z];exact ⟨o,ho,fun v z=>by rw[hd]at z;cases z⟩
 keep:=fun i h h' st kp=>by
  obtain ⟨⟨old,he⟩,o,ho,r⟩:=st
  exact ⟨⟨old,kp e (by simp) _ he⟩,o,kp it (by simp) o ho,r⟩
 item:=by
  intro X hP hw hK hc i pins s σ H E I hf st hg
  subst hP hw hK
  obtain ⟨jG,lb⟩:=st
  obtain ⟨xs,x,hq,hx⟩:=hg
  obtain ⟨its,rv,p,hz⟩:=I.list hq
  obtain ⟨u0,hu,ru⟩:=rv.get hx
  have D:=Draws.list (prog:=X.prog) (w:=X.w) (A:=X.A.in1) (I.ok.hd hc) it a VF its.toArray
  have W:=WalksT.enumerateD D e Oo (by simp;exact ⟨Oo,Ne.symm VE⟩) (by simp)
  have XW:i<its.toArray.size:=by rw[List.size_toArray];exact (List.getElem?_eq_some_iff.mp hu).1
  refine W.item i s _ _ XW ⟨jG,lb,p.isList⟩ fun T vals h' tk XX hT PU LQ hk=>⟨_,rfl,?_⟩
  refine W.go elts k pos i T { s with heap:=h',toks:=tk } _ _ LQ fun h2 LR me=>?_
  obtain ⟨tt,x2,Oq,rfl⟩:=XX
  have ex:x2=u0:=by
   rw[List.getElem?_toArray]at Oq
   exact Option.some.inj (Oq.symm.trans hu)
  subst ex
  have Ot:T∉[e,it]:=W.apart i T h' LQ
  have LS:h2.IsTuple T #[.int i tt,x2]:=by
   obtain ⟨o,ho,r⟩:=PU
   exact ⟨o,me T o Ot ho,r⟩
  refine ⟨.ref T,upd H T (.tup [.int i,x]),?_,rfl,⟨T,x,fun ys hy=>by rw[I.ug hy hq];exact hx,rfl,I.a_.fresh hT,rfl⟩,⟨LR.1,LR.2.1⟩,fun b hb=>?_⟩
  ·refine I.uD (t':=tk) (h':=h2) (fun b o hb y=>me b o hb (hk b o hb y)) hf hT ?_
   exact ⟨by show 2<=sizeLine;decide,[.int i tt,x2], .cons ⟨tt,rfl⟩ (.cons ru .nil),LS⟩
  ·rw[aA (fun z:b=T=>Ot (z▸hb))];exact (hf b hb).1
 done:=by
  intro X hP hw hK hc i pins s σ H E I hf st hg
  subst hP hw hK
  obtain ⟨jG,lb⟩:=st
  obtain ⟨xs,hq,hx⟩:=hg
  obtain ⟨its,rv,p,hz⟩:=I.list hq
  have hl:=rv.length
  have D:=Draws.list (prog:=X.prog) (w:=X.w) (A:=X.A.in1) (I.ok.hd hc) it a VF its.toArray
  have W:=WalksT.enumerateD D e Oo (by simp;exact ⟨Oo,Ne.symm VE⟩) (by simp)
  refine W.done s _ _ ?_ fun h' tk hk=>⟨rfl,I.yl (t':=tk) hk hf⟩
  have e1:its.toArray.size=i:=by rw[List.size_toArray];omega
  rw[e1]
  exact ⟨jG,lb,p.isList⟩
 self:=fun _ _ s _ _ st h=>by
  obtain ⟨⟨old,he⟩,_⟩:=st
  exact wpAny_pyIter_enum he h
noncomputable def Il (K:PySem.W.Frag) (ta:TA):TI:=fun σ H R=>ta σ H fun vs H1=> ∃a,vs=[.ref a]/\(∃xs,bt K H1 a xs)/\R (BK K a) H1
theorem BL {X:Cx} (K:PySem.W.Frag) (hK:X.K=K) {elts:List Expr} {k:Nat} {pos':Pos} {a:Expr} {ta:TA} {p pos:Pos} (hg:Gl X "enumerate") (hm:X.mg "enumerate"=none) (ha:PA X [a] ta) (hs:starEach [a] X.env=[(false,eval a X.env)]:=by rfl):PI X (.Tuple elts k pos') (.Call (.Name "enumerate" p) [a] [] pos) (Il K ta):=by
 subst hK
 intro pins s σ H R I h
 refine Call_ (iV I hg hm boot_enumerate (PyProof.Rows.callWith_type1 (aS (ha pos pins s σ H _ I h) fun us s1 ⟨vs,H1,I1,r1,q1⟩=>?_) hs rfl))
 obtain ⟨b,rfl,⟨xs,hq⟩,q⟩:=q1
 obtain ⟨u,rfl,ru⟩:=vals1 r1
 cases ru
 obtain ⟨its,rv,pl,hz⟩:=I1.list hq
 obtain ⟨ob,eb,_⟩:=id pl.isList
 have cG:b<s1.heap.objs.size:=Heap.lt_size eb
 refine call_enumerate_list pl.isList fun h' he hit hsz hk=>wpAny_pyIter_enum he ?_
 refine ⟨s1.heap.objs.size+1,[s1.heap.objs.size+1,s1.heap.objs.size],_,_,H1,rfl,I1.kept (t':=s1.toks) hk,wW _ _ b (Nat.succ_ne_self _) (Nat.ne_of_lt (Nat.lt_succ_of_lt cG)) (Nat.ne_of_lt cG),⟨⟨_,he⟩,hit⟩,fun c hb=>?_,q⟩
 have il:s1.heap.objs.size<=c:=by
  rcases List.mem_cons.mp hb with z | z
  ·rw[z];exact Nat.le_succ _
  ·rw[List.mem_singleton.mp z];exact Nat.le_refl _
 exact I1.lj il (I1.a_.fresh il)
theorem zV {K:PySem.W.Frag} {a:Addr} {xs:List V} {g:TG} {tb:TS} {D:Ends} {σ:St} {H:Hp} (Pv:Nat->St->Hp->Prop) (h0:Pv 0 σ H) (hl: ∀i σ H,i<=xs.length->Pv i σ H->bt K H a xs)
  (hs: ∀i x σ H T,xs[i]? =some x->Pv i σ H->H T=none->g (.ref T) σ (upd H T (.tup [.int i,x])) fun σ2 H2=>tb { D with nx:=Pv (i+1),ct:=Pv (i+1),bk:=D.nx } σ2 H2) (hd: ∀σ H,Pv xs.length σ H->D.nx σ H):
  ∃W:Nat->Nat->St->Hp->Prop,(∃m,W 0 m σ H)/\ ∀i m σ H,W i m σ H->
   ((BK K a).stop i H/\D.nx σ H)\/((BK K a).go i H/\ ∃N:St->Hp->Prop,(∀σ' H',N σ' H'-> ∃m',m'<m/\W (i+1) m' σ' H')/\ ∀x H',(BK K a).Bj i H x H'->g x σ H' fun σ2 H2=>tb { D with nx:=N,ct:=N,bk:=D.nx } σ2 H2):=by
 refine ⟨fun i m σ H=>m=xs.length - i/\i<=xs.length/\Pv i σ H,⟨xs.length,by simp,Nat.zero_le _,h0⟩,?_⟩
 rintro i m σ H ⟨rfl,hi,p⟩
 have hq:=hl i σ H hi p
 by_cases cG:i<xs.length
 ·refine .inr ⟨⟨xs,xs[i],hq,by simp[cG]⟩,Pv (i+1),fun σ' H' p'=>⟨xs.length - (i+1),by omega,rfl,cG,p'⟩,fun x H' y=>?_⟩
  obtain ⟨T,z,hz,rfl,hn,rfl⟩:=y
  exact hs i z σ _ T (hz xs hq) p hn
 ·have e:i=xs.length:=by omega
  subst e
  exact .inl ⟨⟨xs,hq,rfl⟩,hd σ H p⟩
section
variable {X:Cx}
end
end L2
namespace L2
open PySem PySem.Spec PyProof.Rows
section
variable {X:Cx}
noncomputable def Im (K:PySem.W.Frag):List V->Hp->VK->Prop:=fun xs H Q=> ∃p ys,xs=[.ref p]/\((bt K H p ys/\ ∀l,H l=none->Q (.ref l) (upd H l (.tup ys)))\/(bp K H p ys/\Q (.ref p) H))
theorem fk (K:PySem.W.Frag) (h:X.K=K):cL X (.type "tuple") (Im K):=by subst h;exact pS
theorem BM (K:PySem.W.Frag) (h:X.K=K):ik X (binaryOp .Add) (Gf K):=by subst h;exact DH
end
end L2
namespace L2
open PySem PySem.Spec PyProof.Rows
theorem ko {K:PySem.W.Frag} {a:Addr} {xs:List V} {σc:St} {g:TG} {tc:TT} {te:TE} {Q:VK} {H1:Hp} (Pv:Nat->List V->Hp->Prop) (hn:xs.length<sizeLine) (hl: ∀i acc H,Pv i acc H->bp K H a xs) (h0:Pv 0 [] H1)
  (hs: ∀(i:Nat) (x:V) (acc:List V) (H:Hp) (Nx:List V->Hp->Prop),i<xs.length->xs[i]? =some x->acc.length<=i->Pv i acc H->(∀cW H',cW.length<=i+1->Pv (i+1) cW H'->Nx cW H')->
   g x σc H fun σ2 H2=>Wk σc σ2/\tc σ2 H2 fun b H3=>if b=true then te σ2 H3 fun v H4=>Nx (acc++[v]) H4 else Nx acc H3)
  (hd: ∀acc H D,acc.length<=xs.length->Pv xs.length acc H->H D=none->Q (.ref D) (upd H D (.lst acc))):qI (Kc K a) σc g tc te Q H1:=
 mZ (xs:=fun i x=>xs[i]? =some x) Pv hn (fun i acc H h p=>⟨xs,xs[i],hl i acc H p,by simp[h]⟩) (fun acc H p=>⟨xs,hl _ acc H p,Nat.le_refl _⟩) (fun i acc H x H' h p y=>⟨y.1,y.2 xs (hl i acc H p)⟩) h0 hs hd
noncomputable def bq (H H':Hp):Prop:= ∀c xs,H c=some (.tup xs)->H' c=some (.tup xs)
theorem bq.trans {H H1 H2:Hp} (a:bq H H1) (b:bq H1 H2):bq H H2:=fun c xs h=>b c xs (a c xs h)
theorem bq.Io {H:Hp} {p:Addr} {ys:List V} {o:HO} (h:H p=some (.lst ys)):bq H (upd H p o):=fun c xs e=>by
 rw[aA (fun z=>by rw[z,h]at e;cases e)];exact e
end L2
namespace L2
open PySem PySem.Spec PyProof.Rows
section
variable {prog:Program} {w:World} {A:Around} {E:Value->Shared->Prop} {s:Shared}
noncomputable def Ip (h:Heap) (v:Value) (n:Int×Int):Prop:= ∃x ox t1 t2 m,v= .ref x/\h.get? x=some ox/\ox.cls= .type "tuple"/\ox.data= .seq #[.int n.1 t1, .int n.2 t2] m
noncomputable def D8 (h:Heap):List Value->List (Int×Int)->Prop
 | [],[]=>True
 | v::vs,n::ns=>Ip h v n/\D8 h vs ns
 | _,_=>False
end
section
variable {X:Cx}
noncomputable def PV (K:PySem.W.Frag) (H:Hp):List V->List (Int×Int)->Prop
 | [],[]=>True
 | v::vs,n::ns=>(∃t,v= .ref t/\bp K H t [.int n.1, .int n.2])/\PV K H vs ns
 | _,_=>False
end
end L2
namespace L2
open PySem PySem.Spec PyProof.Rows
section
variable {prog:Program} {w:World} {A:Around} {E:Value->Shared->Prop} {s:Shared}
noncomputable def TupAt (h:Heap) (k:Nat) (v:Value) (ns:List Int):Prop:= ∃x ox us m,v= .ref x/\h.get? x=some ox/\ox.cls= .type "tuple"/\ox.data= .seq us m/\IntsAre us.toList ns/\ns.length=k+1
noncomputable def Iq (h:Heap) (k:Nat):List Value->List (List Int)->Prop
 | [],[]=>True
 | v::vs,n::ns=>TupAt h k v n/\Iq h k vs ns
 | _,_=>False
end
section
variable {X:Cx}
noncomputable def PX (K:PySem.W.Frag) (H:Hp) (k:Nat):List V->List (List Int)->Prop
 | [],[]=>True
 | v::vs,n::ns=>(∃t,v= .ref t/\bp K H t (n.map V.int)/\n.length=k+1)/\PX K H k vs ns
 | _,_=>False
end
end L2
namespace HT
open PySem PySem.Spec PyProof.Rows
section
variable {prog:Program} {w:World} {A:Around} {E:Value->Shared->Prop} {s:Shared}
end
end HT
namespace L2
open PySem PySem.Spec PyProof.Rows
section
variable {X:Cx} {e st:Expr} {te:TE} {ts:TO} {pos p2:Pos}
end
end L2
namespace L2
open PySem PySem.Spec PyProof.Rows
section
variable {κ:Type} [DecidableEq κ]
noncomputable def cQ (kvs:List (κ×V)) (k:κ):Option V:=(kvs.find? fun kv=>decide (kv.1=k)).map (·.2)
noncomputable def putK (kvs:List (κ×V)) (k:κ) (v:V):List (κ×V):=
 if (kvs.any fun kv=>decide (kv.1=k))=true then kvs.map (fun kv=>if kv.1=k then (kv.1,v) else kv) else kvs++[(k,v)]
noncomputable def VG (kvs:List (κ×V)) (k:κ):List (κ×V):=kvs.filter fun kv=>decide (kv.1≠k)
theorem nZ {k:κ}:cQ ([]:List (κ×V)) k=none:=rfl
theorem bF {p:κ×V} {r:List (κ×V)} {k:κ} (e:p.1=k):cQ (p::r) k=some p.2:=by simp[cQ,List.find?_cons,e]
theorem bf {p:κ×V} {r:List (κ×V)} {k:κ} (e: ¬p.1=k):cQ (p::r) k=cQ r k:=by simp[cQ,List.find?_cons,e]
theorem n_ (k:κ): ∀kvs:List (κ×V),(kvs.any fun kv=>decide (kv.1=k))=(cQ kvs k).isSome
 | []=>rfl
 | p::r=>by
  rw[List.any_cons]
  by_cases e:p.1=k
  ·simp only[bF e,decide_eq_true e,Bool.true_or,Option.isSome_some]
  ·rw[bf e,decide_eq_false e,Bool.false_or];exact n_ k r
theorem i5 (kvs:List (κ×V)) (k:κ) (v:V):(putK kvs k v).length<=kvs.length+1:=by
 unfold putK
 split
 ·rw[List.length_map];omega
 ·rw[List.length_append,List.length_cons,List.length_nil];omega
theorem oa {kvs:List (κ×V)} {k:κ} (v:V) (h:cQ kvs k=none):putK kvs k v=kvs++[(k,v)]:=by
 unfold putK
 rw[n_,h]
 exact if_neg (by decide)
theorem ip.dQ {o:Option V} {u:Option Value} (r:ip o u):o.isSome=u.isSome:=by
 cases o with
 | none=>cases u with
  | none=>rfl
  | some _=>exact (show False from r).elim
 | some _=>cases u with
  | none=>exact (show False from r).elim
  | some _=>rfl
theorem ip.getD {o:Option V} {u:Option Value} {d:V} {d':Value} (r:ip o u) (rd:RelV d d'):RelV (o.getD d) (u.getD d'):=by
 cases o with
 | none=>cases u with
  | none=>exact rd
  | some _=>exact (show False from r).elim
 | some _=>cases u with
  | none=>exact (show False from r).elim
  | some _=>exact r
theorem KV.val {kvs:List (κ×V)} {vs:List (κ×Value)} (r:KV kvs vs) (k:κ):ip (cQ kvs k) (valueAt vs k):=by
 unfold KV at r
 induction r with
 | nil=>exact True.intro
 | @cons p q ps qs h t ih=>
  obtain ⟨h1,h2⟩:=h
  by_cases e:p.1=k
  ·have e':q.1=k:=h1.symm.trans e
   have b:valueAt (q::qs) k=some q.2:=by simp[valueAt,List.find?_cons,e']
   rw[bF e,b];exact h2
  ·have e': ¬q.1=k:=fun z=>e (h1.trans z)
   have b:valueAt (q::qs) k=valueAt qs k:=by simp[valueAt,List.find?_cons,e']
   rw[bf e,b];exact ih
theorem KV.any {kvs:List (κ×V)} {vs:List (κ×Value)} (r:KV kvs vs) (k:κ):(kvs.any fun kv=>decide (kv.1=k))=vs.any fun kv=>decide (kv.1=k):=by
 unfold KV at r
 induction r with
 | nil=>rfl
 | cons h t ih=>rw[List.any_cons,List.any_cons,ih,h.1]
theorem KV.Ir {kvs:List (κ×V)} {vs:List (κ×Value)} (r:KV kvs vs) (k:κ) {y:V} {u:Value} (ry:RelV y u):
  KV (kvs.map fun kv=>if kv.1=k then (kv.1,y) else kv) (vs.map fun kv=>if kv.1=k then (kv.1,u) else kv):=by
 unfold KV at r ⊢
 induction r with
 | nil=>exact .nil
 | @cons p q ps qs h t ih=>
  rw[List.map_cons,List.map_cons]
  refine .cons ?_ ih
  obtain ⟨h1,h2⟩:=h
  by_cases e:p.1=k
  ·rw[if_pos e,if_pos (h1.symm.trans e)];exact ⟨h1,ry⟩
  ·rw[if_neg e,if_neg (fun z=>e (h1.trans z))];exact ⟨h1,h2⟩
theorem KV.put {kvs:List (κ×V)} {vs:List (κ×Value)} (r:KV kvs vs) (k:κ) {y:V} {u:Value} (ry:RelV y u):KV (putK kvs k y) (stored vs k u):=by
 unfold putK stored
 rw[r.any k]
 by_cases e:(vs.any fun kv=>decide (kv.1=k))=true
 ·rw[if_pos e,if_pos e];exact r.Ir k ry
 ·rw[if_neg e,if_neg e];exact Paired.snoc r ⟨rfl,ry⟩
theorem KV.length {kvs:List (κ×V)} {vs:List (κ×Value)} (r:KV kvs vs):kvs.length=vs.length:=Paired.length r
end
theorem jK {P:Program} {w:World} {k:Key} {u:Value} (r:RelV (kV k) u):(bB P w).is k u=true:=by
 cases k with
 | inl i=>obtain ⟨t,e⟩:=(show ∃t,u=Value.int i t from r);subst e;exact ud P w i t
 | inr x=>obtain ⟨t,e⟩:=(show ∃t,u=Value.str x t from r);subst e;exact ue P w x t
theorem qP {P:Program} {w:World}: ∀{ks:List Key} {us:List Value},Vals (ks.map kV) us->ItemsAre (bB P w) ks us
 | [],_,r=>by rw[List.map_nil]at r;cases r;exact .nil
 | k::ks,_,r=>by
  rw[List.map_cons]at r
  cases r with
  | cons h t=>exact .cons (jK h) (qP t)
noncomputable abbrev KT (H:Hp):List (List Key×V)->List (List Key×Addr×Value)->Prop:=Paired fun p q=>p.1=q.1/\H q.2.1=some (.tup (p.1.map kV))/\RelV p.2 q.2.2
theorem KT.val {H:Hp} {kvs:List (List Key×V)} {xs:List (List Key×Addr×Value)} (r:KT H kvs xs) (k:List Key):ip (cQ kvs k) ((atKey xs k).map (·.2)):=by
 induction r with
 | nil=>exact True.intro
 | @cons p q ps qs h t ih=>
  obtain ⟨h1,_,h2⟩:=h
  by_cases e:p.1=k
  ·have e':q.1=k:=h1.symm.trans e
   have b:atKey (q::qs) k=some q.2:=by simp[atKey,List.find?_cons,e']
   rw[bF e,b];exact h2
  ·have e': ¬q.1=k:=fun z=>e (h1.trans z)
   have b:atKey (q::qs) k=atKey qs k:=by simp[atKey,List.find?_cons,e']
   rw[bf e,b];exact ih
theorem KT.Ir {H:Hp} {kvs:List (List Key×V)} {xs:List (List Key×Addr×Value)} (r:KT H kvs xs) (k:List Key) {y:V} {u:Value} (ry:RelV y u):
  KT H (kvs.map fun kv=>if kv.1=k then (kv.1,y) else kv) (xs.map (putAt k u)):=by
 induction r with
 | nil=>exact .nil
 | @cons p q ps qs h t ih=>
  rw[List.map_cons,List.map_cons]
  refine .cons ?_ ih
  obtain ⟨h1,h2,h3⟩:=h
  unfold putAt
  by_cases e:p.1=k
  ·rw[if_pos e,if_pos (h1.symm.trans e)];exact ⟨h1,h2,ry⟩
  ·rw[if_neg e,if_neg (fun z=>e (h1.trans z))];exact ⟨h1,h2,h3⟩
theorem KT.put {H:Hp} {kvs:List (List Key×V)} {xs:List (List Key×Addr×Value)} (r:KT H kvs xs) (k:List Key) {b:Addr} {y:V} {u:Value} (hb:H b=some (.tup (k.map kV))) (ry:RelV y u):
  KT H (putK kvs k y) (storedH xs k b u):=by
 have e:(kvs.any fun kv=>decide (kv.1=k))=(atKey xs k).isSome:=by
  rw[n_,(r.val k).dQ,Option.isSome_map]
 unfold putK storedH
 rw[e]
 by_cases q:(atKey xs k).isSome=true
 ·rw[if_pos q,if_pos q];exact r.Ir k ry
 ·rw[if_neg q,if_neg q];exact Paired.snoc r ⟨rfl,hb,ry⟩
theorem KT.keeps {H H':Hp} {kvs:List (List Key×V)} {xs:List (List Key×Addr×Value)} (r:KT H kvs xs) (ht: ∀b ys,H b=some (.tup ys)->H' b=some (.tup ys)):KT H' kvs xs:=
 Paired.Hg r fun _ _ z=>⟨z.1,ht _ _ z.2.1,z.2.2⟩
section
variable {P:Program} {w:World} {H:Hp} {h:Heap} {a:Addr}
theorem Gn {u:HO} (ok:iq P w H h) (e:Rd H a u):bI P w H h a u:=e.ok ok
theorem og {kvs:List (Key×V)} (ok:iq P w H h) (e:Rd H a (.dK kvs)):kvs.length<=sizeLine/\(a==sysModules)=false/\ ∃vs,KV kvs vs/\h.DictOf (bB P w) a vs:=
 show bI P w H h a (.dK kvs) from Gn ok e
theorem yo {kvs:List (Key×V)} (ok:iq P w H h) (e:H a=some (.dK kvs)):kvs.length<=sizeLine/\(a==sysModules)=false/\ ∃vs,KV kvs vs/\h.DictOf (bB P w) a vs:=og ok (.inl e)
theorem lG {ks:List Key} (ok:iq P w H h) (e:H a=some (.tup (ks.map kV))):(tupleKind (bB P w)).is h ks a:=by
 obtain ⟨_,its,r,o,h1,h2,n,h3⟩:=(show bI P w H h a (.tup (ks.map kV)) from ok a _ e)
 exact ⟨o,its.toArray,n,h1,h2,h3,by simpa using qP r⟩
theorem oh {kvs:List (List Key×V)} (ok:iq P w H h) (e:Rd H a (.dT kvs)):kvs.length<=sizeLine/\(a==sysModules)=false/\
  ∃xs,KT H kvs xs/\h.DictOfH (tupleKind (bB P w)) a xs:=by
 obtain ⟨z,y,xs,r,o,es,ep,h1,h2,h3,h4,h5⟩:=(show bI P w H h a (.dT kvs) from Gn ok e)
 refine ⟨z,y,xs,r,o,es,ep,h1,h2,h3,h4,fun x hx=>?_,h5⟩
 have all: ∀{l:List (List Key×V)} {m:List (List Key×Addr×Value)},KT H l m-> ∀x∈m,(tupleKind (bB P w)).is h x.1 x.2.1:=by
  intro l m q
  induction q with
  | nil=>intro x hx;exact nomatch hx
  | @cons p q ps qs hq t ih=>
   intro x hx
   rcases List.mem_cons.mp hx with e | hx
   ·subst e
    exact lG ok (by rw[<-hq.1];exact hq.2.1)
   ·exact ih x hx
 exact all r x hx
theorem LU {kvs:List (List Key×V)} (ok:iq P w H h) (e:H a=some (.dT kvs)):kvs.length<=sizeLine/\(a==sysModules)=false/\
  ∃xs,KT H kvs xs/\h.DictOfH (tupleKind (bB P w)) a xs:=oh ok (.inl e)
end
noncomputable def jH (H:Hp) (a:Addr) (y:V) (r:Option V):Prop:=
 (∃kvs k,Rd H a (.dK kvs)/\y=kV k/\r=cQ kvs k)\/ ∃kvs k b,Rd H a (.dT kvs)/\y= .ref b/\H b=some (.tup (k.map kV))/\r=cQ kvs k
noncomputable def zW (H:Hp) (a:Addr) (y v:V) (H':Hp):Prop:=
 (∃kvs k,H a=some (.dK kvs)/\y=kV k/\kvs.length<sizeLine/\H'=upd H a (.dK (putK kvs k v)))\/
 ∃kvs k b,H a=some (.dT kvs)/\y= .ref b/\H b=some (.tup (k.map kV))/\kvs.length<sizeLine/\H'=upd H a (.dT (putK kvs k v))
theorem jH.k {H:Hp} {a:Addr} {kvs:List (Key×V)} {k:Key} (e:H a=some (.dK kvs)):jH H a (kV k) (cQ kvs k):= .inl ⟨kvs,k, .inl e,rfl,rfl⟩
theorem zW.k {H:Hp} {a:Addr} {kvs:List (Key×V)} {k:Key} {v:V} (e:H a=some (.dK kvs)) (hl:kvs.length<sizeLine):zW H a (kV k) v (upd H a (.dK (putK kvs k v))):= .inl ⟨kvs,k,e,rfl,hl,rfl⟩
section
variable {X:Cx} {pins:List (Addr×Obj)} {σ:St} {H:Hp} {s:Shared} {a:Addr} {y v:V} {u r:Value} {o:Option V} {A:Around} {E:Value->Shared->Prop}
theorem Inv.big (I:Inv X pins σ H s):sysModules<s.heap.objs.size:=by
 have h:mainGlobals<s.heap.objs.size:=(I.mod.glob.keeps I.bk).lt
 exact Nat.lt_trans (by decide) h
theorem zX {Q:Value->Shared->Prop} (hu:A.units+1<cLine) (I:Inv X pins σ H s) (g:jH H a y (some v)) (ry:RelV y u) (h: ∀w' s',Inv X pins σ H s'->RelV v w'->Q w' s'):
  wpAny (model X.prog X.w) A (getItem (.ref a) u) Q E s:=by
 rcases g with ⟨kvs,k,e,ey,l⟩ | ⟨kvs,k,b,e,ey,eb,l⟩
 ·subst ey
  obtain ⟨z,hd,vs,rel,dd⟩:=og I.a_ e
  obtain ⟨w',hw,zK⟩:=ip.some_of (v:=v) (o:=valueAt vs k) (by rw[l];exact rel.val k)
  exact wpAny_getItem_of (jK ry) dd.mapOf hw (h w' _ (I.tok _) zK)
 ·subst ey
  cases (show u=Value.ref b from ry)
  obtain ⟨z,hd,xs,rel,dd⟩:=oh I.a_ e
  obtain ⟨w',hw,zK⟩:=ip.some_of (v:=v) (o:=(atKey xs k).map (·.2)) (by rw[l];exact rel.val k)
  obtain ⟨p,hp,wX⟩:=Option.map_eq_some_iff.mp hw
  refine wpAny_getItem_heap (tupleKind_room_in1 hu) (lG I.a_ eb) dd hp ?_
  rw[wX]
  exact h w' _ (I.tok _) zK
theorem PY {Q:Value->Shared->Prop} (hu:A.units+1<cLine) (I:Inv X pins σ H s) (g:jH H a y o) (ry:RelV y u) (h: ∀s',Inv X pins σ H s'->Q (.bool o.isSome) s'):
  wpAny (model X.prog X.w) A (compareOp .In u (.ref a)) Q E s:=by
 rcases g with ⟨kvs,k,e,ey,l⟩ | ⟨kvs,k,b,e,ey,eb,l⟩
 ·subst ey
  obtain ⟨z,hd,vs,rel,dd⟩:=og I.a_ e
  refine wpAny_in_of (jK ry) hd dd.mapOf ?_
  rw[<-(rel.val k).dQ, <-l]
  exact h _ (I.tok _)
 ·subst ey
  cases (show u=Value.ref b from ry)
  obtain ⟨z,hd,xs,rel,dd⟩:=oh I.a_ e
  refine wpAny_in_heap (tupleKind_room_in1 hu) (lG I.a_ eb) hd dd ?_
  have q:=(rel.val k).dQ
  rw[Option.isSome_map]at q
  rw[<-q, <-l]
  exact h _ (I.tok _)
theorem D9 {Q:Value->Shared->Prop} (hu:A.units+1<cLine) (I:Inv X pins σ H s) (g:jH H a y o) (ry:RelV y u) (h: ∀s',Inv X pins σ H s'->Q (.bool (!o.isSome)) s'):
  wpAny (model X.prog X.w) A (compareOp .NotIn u (.ref a)) Q E s:=by
 rcases g with ⟨kvs,k,e,ey,l⟩ | ⟨kvs,k,b,e,ey,eb,l⟩
 ·subst ey
  obtain ⟨z,hd,vs,rel,dd⟩:=og I.a_ e
  refine wpAny_notIn_of (jK ry) hd dd.mapOf ?_
  rw[<-(rel.val k).dQ, <-l]
  exact h _ (I.tok _)
 ·subst ey
  cases (show u=Value.ref b from ry)
  obtain ⟨z,hd,xs,rel,dd⟩:=oh I.a_ e
  refine wpAny_notIn_heap (tupleKind_room_in1 hu) (lG I.a_ eb) hd dd ?_
  have q:=(rel.val k).dQ
  rw[Option.isSome_map]at q
  rw[<-q, <-l]
  exact h _ (I.tok _)
theorem sd {h':Heap} {t':Nat} {ob:HO} (I:Inv X pins σ H s) (mu:KL (H a)) (hs:Heap.SameBut a s.heap h') (he: ∃q,h'.get? a=some q) (new:bI X.prog X.w (upd H a ob) h' a ob):
  Inv X pins σ (upd H a ob) { s with heap:=h',toks:=t' }:=
 I.write (x:=a) (e:=a) mu (.inl rfl) (fun b q hb z=>(hs.2 b hb).trans z) he new
theorem BN {P:Program} {w:World} {H':Hp} {h':Heap} {kvs:List (Key×V)} {vs:List (Key×Value)} (z:kvs.length<=sizeLine) (hd:(a==sysModules)=false) (rel:KV kvs vs) (dd:h'.DictOf (bB P w) a vs):
  bI P w H' h' a (.dK kvs):=⟨z,hd,vs,rel,dd⟩
theorem zY {H':Hp} {Q:Unit->Shared->Prop} (hu:A.units+1<cLine) (I:Inv X pins σ H s) (g:zW H a y v H') (ry:RelV y u) (rv:RelV v r) (h: ∀s',Inv X pins σ H' s'->Q () s'):
  wpAny (model X.prog X.w) A (setItem (.ref a) u r) Q E s:=by
 rcases g with ⟨kvs,k,e,ey,l,eH⟩ | ⟨kvs,k,b,e,ey,eb,l,eH⟩
 ·subst ey eH
  obtain ⟨z,hd,vs,rel,dd⟩:=yo I.a_ e
  have hz:vs.length<=sizeLine:=by rw[<-rel.length];exact z
  have hl:(putK kvs k v).length<=sizeLine:=by have:=i5 kvs k v;omega
  refine wpAny_setItem_pairs (hsz:=hz) (jK ry) dd fun h' Gp hs=>h _ ?_
  have he: ∃q,h'.get? a=some q:=let ⟨q,_,_,hq,_⟩:=Gp;⟨q,hq⟩
  exact sd I (by rw[e];exact True.intro) hs he (BN hl hd (rel.put k rv) Gp)
 ·subst ey eH
  cases (show u=Value.ref b from ry)
  obtain ⟨z,hd,xs,rel,dd⟩:=LU I.a_ e
  have hz:xs.length<=sizeLine:=by rw[<-Paired.length rel];exact z
  have hl:(putK kvs k v).length<=sizeLine:=by have:=i5 kvs k v;omega
  refine wpAny_setItem_heap (hsz:=hz) (tupleKind_room_in1 hu) (lG I.a_ eb) dd fun h' Gp hs=>h _ ?_
  obtain ⟨q,es,ep,hq,h2,h3,h4,_,h5⟩:=Gp
  refine sd I (by rw[e];exact True.intro) hs ⟨q,hq⟩ ⟨hl,hd,_,(rel.put k eb rv).keeps fun c ys ec=>?_,q,es,ep,hq,h2,h3,h4,h5⟩
  rw[aA (KJ ec e (fun z=>nomatch z))]
  exact ec
end
section
variable {X:Cx} {pins:List (Addr×Obj)} {σ:St} {H:Hp} {s:Shared} {a:Addr} {kvs:List (Key×V)} {k:Key} {u:Value} {A:Around} {E:Value->Shared->Prop}
end
noncomputable def Iu (i:Expr):Prop:= ∀ov iv,subscripted i false ov iv=operate [ov,iv] (getItem ov iv)
theorem yp {prog:Program} {w:World} {A:Around} {E:Value->Shared->Prop} {s:Shared} {env:Env} {value slice:Expr} {pos:Pos} {T id:String} {Q:Value->Shared->Prop}
  (hl:typeLookup (.type T) "__getitem__"=pure (some (.builtin id))) (hs:Iu slice)
  (h:wpAny (model prog w) A (eval value env) (fun o s₁=>wpAny (model prog w) A (eval slice env) (fun i s₂=>s₂.TypeIs o T/\wpAny (model prog w) A (getItem o i) Q E s₂) E s₁) E s):
  wpAny (model prog w) A (eval (.Subscript value slice pos) env) Q E s:=by
 refine Subscript_ (wpAny_mono h (fun o s₁ h₁=>wpAny_mono h₁ (fun i s₂ h₂=>?_) fun _ _ x=>x) fun _ _ x=>x)
 obtain ⟨hT,h₂⟩:=h₂
 unfold subscriptTail
 refine wpAny_bind ?_
 rw[getitemInPython_of_ne hT.not_modules]
 refine wpAny_bind (wpAny_specialOf hT hl ?_)
 have fin:wpAny (model prog w) A (subscripted slice false o i) (fun r s₃=>wpAny (model prog w) A (letTemporaryGo value o r >>= fun _=>pure r) Q E s₃) E s₂:=by
  rw[hs o i]
  exact wpAny_operating (wpAny_mono h₂ (fun r s₃ h₃=>wpAny_bind (wpAny_letTemporaryGo (wpAny_pure h₃))) fun _ _ x=>x)
 first
  | exact wpAny_pure (wpAny_bind fin)
  | exact wpAny_bind (wpAny_pure (wpAny_bind fin))
  | exact wpAny_bind fin
theorem uE {X:Cx} {pins:List (Addr×Obj)} {σ:St} {H:Hp} {s:Shared} {a:Addr} {y:V} {o:Option V} (I:Inv X pins σ H s) (g:jH H a y o):s.TypeIs (.ref a) "dict":=by
 rcases g with ⟨kvs,k,e,_,_⟩ | ⟨kvs,k,b,e,_,_,_⟩
 ·obtain ⟨_,_,vs,_,dd⟩:=og I.a_ e
  exact dd.typeIs
 ·obtain ⟨_,_,xs,_,dd⟩:=oh I.a_ e
  exact dd.typeIs
noncomputable def LV (td ty:TE):TE:=fun σ H Q=>td σ H fun x H1=>ty σ H1 fun y H2=> ∃a v,x= .ref a/\jH H2 a y (some v)/\Q v H2
noncomputable def PZ (ty td:TE):TE:=fun σ H Q=>ty σ H fun y H1=>td σ H1 fun x H2=> ∃a o,x= .ref a/\jH H2 a y o/\Q (.bl o.isSome) H2
noncomputable def D_ (ty td:TE):TE:=fun σ H Q=>ty σ H fun y H1=>td σ H1 fun x H2=> ∃a o,x= .ref a/\jH H2 a y o/\Q (.bl (!o.isSome)) H2
noncomputable def LW (td ty tv:TE):TS:=fun D σ H=>tv σ H fun v H1=>td σ H1 fun x H2=>ty σ H2 fun y H3=> ∃a H4,x= .ref a/\zW H3 a y v H4/\D.nx σ H4
section
variable {X:Cx} {o i e value:Expr} {pos pos' Le:Pos} {td ty tv:TE}
theorem Ea (hu:X.A.units+1<cLine) (ho:PE X o td) (hi:PE X i ty) (hs:Iu i):PE X (.Subscript o i pos) (LV td ty):=by
 intro pins s σ H Q I h
 refine yp PySem.F.slot_dict_getitem.lookup hs (aS (ho pins s σ H _ I h) fun u s1 ⟨x,H1,I1,rx,q1⟩=>aS (hi pins s1 σ H1 _ I1 q1) fun iv s2 ⟨y,H2,I2,ry,a,v,ex,g,q2⟩=>?_)
 subst ex
 obtain rfl:u=Value.ref a:=rx
 exact ⟨uE I2 g,zX hu I2 g ry fun w' s3 I3 zK=>⟨v,H2,I3,zK,q2⟩⟩
theorem Iv (hu:X.A.units+1<cLine) (hi:PE X i ty) (ho:PE X o td):PC X .In i o (PZ ty td):=by
 intro pins s σ H Q I h
 refine aS (hi pins s σ H _ I h) fun iv s1 ⟨y,H1,I1,ry,q1⟩=>aS (ho pins s1 σ H1 _ I1 q1) fun u s2 ⟨x,H2,I2,rx,a,ov,ex,g,q2⟩=>?_
 subst ex
 obtain rfl:u=Value.ref a:=rx
 exact PY hu I2 g ry fun s3 I3=>⟨.bl ov.isSome,H2,I3,rfl,q2⟩
theorem zZ (hu:X.A.units+1<cLine) (hi:PE X i ty) (ho:PE X o td):PC X .NotIn i o (D_ ty td):=by
 intro pins s σ H Q I h
 refine aS (hi pins s σ H _ I h) fun iv s1 ⟨y,H1,I1,ry,q1⟩=>aS (ho pins s1 σ H1 _ I1 q1) fun u s2 ⟨x,H2,I2,rx,a,ov,ex,g,q2⟩=>?_
 subst ex
 obtain rfl:u=Value.ref a:=rx
 exact D9 hu I2 g ry fun s3 I3=>⟨.bl (!ov.isSome),H2,I3,rfl,q2⟩
theorem yq (hu:X.A.units+1<cLine) (ho:PE X o td) (hi:PE X i ty) (hv:PE X value tv) (hs:swapsWith value (some (.Subscript o i pos')) pos.line X.env=pure false):
  PS X (.Assign [.Subscript o i pos'] value pos) (LW td ty tv):=by
 intro pins s σ H D I h
 refine wpAny_Assign_Subscript (aS (hv pins s σ H _ I h) fun r s1 ⟨v,H1,I1,rv,q1⟩=>aS (ho pins s1 σ H1 _ I1 q1) fun u s2 ⟨x,H2,I2,rx,q2⟩=>aS (hi pins s2 σ H2 _ I2 q2) fun iv s3 ⟨y,H3,I3,ry,a,H4,ex,g,q3⟩=>?_) hs
 subst ex
 obtain rfl:u=Value.ref a:=rx
 exact zY hu I3 g ry rv fun s4 I4=>⟨σ,H4,I4,q3⟩
end
theorem uF {P:Program} {w:World} {H:Hp} (h:Heap) (hb:sysModules<h.objs.size):bI P w H (h.push { cls:= .type "dict",data:= .dict #[] }) h.objs.size (.dK []):=
 ⟨Nat.zero_le _,beq_eq_false_iff_ne.mpr (Ne.symm (Nat.ne_of_lt hb)),[], .nil,Heap.DictOf.new h⟩
noncomputable def Iw:TE:=fun _ H Q=> ∀p,H p=none->Q (.ref p) (upd H p (.dK []))
section
variable {X:Cx} {pos:Pos}
theorem uG:PE X (.Dict [] [] pos) Iw:=fun pins s σ H Q I h=>
 wpAny_Dict_empty ⟨.ref s.heap.objs.size,_,I.laid (a:=s.heap.objs.size) (o:= .dK []) (t':=s.toks) (fun _ _ q=>Heap.get?_push_of_some _ q) (Nat.le_refl _) (uF s.heap I.big),rfl,h _ (I.a_.fresh (Nat.le_refl _))⟩
end
noncomputable def wY:List (TE×TE)->St->Hp->(List (V×V)->Hp->Prop)->Prop
 | [],_,H,Q=>Q [] H
 |(tk,tv)::r,σ,H,Q=>tk σ H fun x H1=>tv σ H1 fun y H2=>wY r σ H2 fun ps H3=>Q ((x,y)::ps) H3
noncomputable abbrev VV:List (V×V)->List (Value×Value)->Prop:=Paired fun p q=>RelV p.1 q.1/\RelV p.2 q.2
noncomputable def Ou (X:Cx) (pos:Pos) (keys:List (Option Expr)) (values:List Expr) (Eb:List (TE×TE)):Prop:=
 ∀(pins:List (Addr×Obj)) (s:Shared) (σ:St) (H:Hp) (Q:List (V×V)->Hp->Prop),Inv X pins σ H s->wY Eb σ H Q->
  wpAny (model X.prog X.w) X.A (evalPairs (pairTrees keys values X.env pos)) (fun vs s'=> ∃ps H',Inv X pins σ H' s'/\VV ps vs/\Q ps H') X.xe s
theorem Ed {X:Cx} {pos:Pos}:Ou X pos [] [] []:=fun pins s σ H Q I h=>pairTrees_nil_walk ⟨[],H,I, .nil,h⟩
theorem uH {X:Cx} {pos:Pos} {k v:Expr} {ks:List (Option Expr)} {vs:List Expr} {tk tv:TE} {Eb:List (TE×TE)} (hk:PE X k tk) (hv:PE X v tv) (hr:Ou X pos ks vs Eb):
  Ou X pos (some k::ks) (v::vs) ((tk,tv)::Eb):=fun pins s σ H Q I h=>
 pairTrees_cons_walk (aS (hk pins s σ H _ I h) fun u s1 ⟨x,H1,I1,rx,q1⟩=>aS (hv pins s1 σ H1 _ I1 q1) fun w2 s2 ⟨y,H2,I2,ry,q2⟩=>
  aS (hr pins s2 σ H2 _ I2 q2) fun ws s3 ⟨ps,H3,I3,rel,q3⟩=>⟨(x,y)::ps,H3,I3, .cons ⟨rx,ry⟩ rel,q3⟩)
noncomputable def lH (kvs more:List (Key×V)):List (Key×V):=more.foldl (fun acc kv=>putK acc kv.1 kv.2) kvs
theorem KV.merge: ∀{more:List (Key×V)} {rs:List (Key×Value)} {kvs:List (Key×V)} {vs:List (Key×Value)},KV more rs->KV kvs vs->KV (lH kvs more) (merged vs rs):=by
 intro more rs kvs vs r
 unfold KV at r
 induction r generalizing kvs vs with
 | nil=>intro q;exact q
 | @cons p q ps qs h t ih=>
  intro r0
  have e:KV (putK kvs p.1 p.2) (stored vs q.1 q.2):=by
   have:=r0.put p.1 h.2
   rw[<-h.1];exact this
  exact ih e
theorem jL: ∀(more kvs:List (Key×V)),(lH kvs more).length<=kvs.length+more.length
 | [],kvs=>by show kvs.length<=kvs.length+0;omega
 | p::r,kvs=>by
  have h1:=jL r (putK kvs p.1 p.2)
  have h2:=i5 kvs p.1 p.2
  show (lH (putK kvs p.1 p.2) r).length<=_
  rw[List.length_cons];omega
theorem oi {P:Program} {w:World}: ∀{kvs:List (Key×V)} {ws:List (Value×Value)},VV (kvs.map fun kv=>(kV kv.1,kv.2)) ws-> ∃rs,Carries (bB P w) ws rs/\KV kvs rs
 | [],_,r=>by rw[List.map_nil]at r;cases r;exact ⟨[],True.intro, .nil⟩
 | p::kvs,_,r=>by
  rw[List.map_cons]at r
  cases r with
  | @cons a b as bs h t=>
   obtain ⟨rs,c,q⟩:=oi (P:=P) (w:=w) t
   obtain ⟨b1,b2⟩:=b
   exact ⟨(p.1,b2)::rs,⟨jK h.1,rfl,c⟩, .cons ⟨rfl,h.2⟩ q⟩
noncomputable def LX (Eb:List (TE×TE)):TE:=fun σ H Q=> ∀p,H p=none->wY Eb σ (upd H p (.dK [])) fun ps H2=>H2 p=some (.dK [])/\ ∃kvs:List (Key×V),ps=kvs.map (fun kv=>(kV kv.1,kv.2))/\kvs.length<=15/\Q (.ref p) (upd H2 p (.dK (lH [] kvs)))
theorem Ef {X:Cx} {pos:Pos} {keys:List (Option Expr)} {values:List Expr} {Eb:List (TE×TE)} (h:Ou X pos keys values Eb) (iY:keys.all (·.isSome)=true) (hl:keys.length=values.length) (h0:keys≠[])
  (XY:keys.length<=15):PE X (.Dict keys values pos) (LX Eb):=by
 intro pins s σ H Q I q
 have hn:=I.a_.fresh (Nat.le_refl s.heap.objs.size)
 have I1:=I.laid (a:=s.heap.objs.size) (o:= .dK []) (h':=s.heap.push { cls:= .type "dict",data:= .dict #[] }) (t':=s.toks) (fun _ _ q=>Heap.get?_push_of_some _ q) (Nat.le_refl _) (uF s.heap I.big)
 refine wpAny_Dict_walk (knd:=bB X.prog X.w) iY hl h0 XY (aS (h pins _ σ _ _ I1 (q _ hn)) fun ws s2 ⟨ps,H2,I2,rel,e,kvs,ep,lk,q2⟩=>?_)
 subst ep
 obtain ⟨rs,c,rk⟩:=oi (P:=X.prog) (w:=X.w) rel
 obtain ⟨z,hd,vs0,r0,dd⟩:=yo I2.a_ e
 cases r0
 refine ⟨rs,c,dd,fun h' Gp hs=>⟨.ref s.heap.objs.size,_,?_,rfl,q2⟩⟩
 have hz:(lH [] kvs).length<=sizeLine:=by
  have h1:=jL kvs []
  rw[List.length_nil]at h1
  rw[sizeLine_eq];omega
 have he: ∃q,h'.get? s.heap.objs.size=some q:=let ⟨q,_,_,hq,_⟩:=Gp;⟨q,hq⟩
 exact sd I2 (by rw[e];exact True.intro) hs he (BN hz hd (rk.merge .nil) Gp)
structure M1 (X:Cx) (o:Expr) (m:Str) (apos:Pos) (e:Expr) (du:Pos):Prop where
 base:attributeBase o m X.env (eval o X.env)=eval o X.env
 Eg:((backTo du (starEach [e] X.env)).all (fun x=>!x.1)&&(backToKw du (keywordEach [] X.env)).all (fun x=>x.1.isSome)
  &&decide (([e]:List Expr).length+([]:List Keyword).length+(if ([]:List Keyword).isEmpty then 0 else 1)<30))=true
 line:(apos.endLine==du.line)=true
 trees:backTo du (starEach [e] X.env)=[(false,eval e X.env)]
structure M2 (X:Cx) (o:Expr) (m:Str) (apos:Pos) (e f:Expr) (du:Pos):Prop where
 base:attributeBase o m X.env (eval o X.env)=eval o X.env
 Eg:((backTo du (starEach [e,f] X.env)).all (fun x=>!x.1)&&(backToKw du (keywordEach [] X.env)).all (fun x=>x.1.isSome)
  &&decide (([e,f]:List Expr).length+([]:List Keyword).length+(if ([]:List Keyword).isEmpty then 0 else 1)<30))=true
 line:(apos.endLine==du.line)=true
 trees:backTo du (starEach [e,f] X.env)=[(false,eval e X.env),(false,eval f X.env)]
noncomputable def VH (H:Hp) (a:Addr):Prop:=(∃kvs,Rd H a (.dK kvs))\/ ∃kvs,Rd H a (.dT kvs)
theorem Iy {X:Cx} {pins:List (Addr×Obj)} {σ:St} {H:Hp} {s:Shared} {a:Addr} (I:Inv X pins σ H s) (d:VH H a):
  s.TypeIs (.ref a) "dict"/\(∀b,Value.ref a= .ref b-> ∃ob,s.heap.get? b=some ob/\ob.dict=none)/\(a==sysModules)=false:=by
 rcases d with ⟨kvs,e⟩ | ⟨kvs,e⟩
 ·obtain ⟨_,hd,vs,_,dd⟩:=og I.a_ e
  refine ⟨dd.typeIs,fun b q=>?_,hd⟩
  cases q
  obtain ⟨ob,_,_,h1,h2,_⟩:=dd
  exact ⟨ob,h1,h2.2.1⟩
 ·obtain ⟨_,hd,xs,_,dd⟩:=oh I.a_ e
  refine ⟨dd.typeIs,fun b q=>?_,hd⟩
  cases q
  obtain ⟨ob,_,_,h1,h2,_⟩:=dd
  exact ⟨ob,h1,h2.2.1⟩
section
variable {X:Cx} {pins:List (Addr×Obj)} {σ:St} {H:Hp} {s:Shared} {a:Addr} {y d:V} {u r:Value} {o:Option V} {A:Around} {E:Value->Shared->Prop}
theorem Iz {Q:Value->Shared->Prop} (hu:A.units+1<cLine) (I:Inv X pins σ H s) (g:jH H a y o) (ry:RelV y u) (rd:RelV d r) (h: ∀w' s',Inv X pins σ H s'->RelV (o.getD d) w'->Q w' s'):
  wpAny (model X.prog X.w) A (call (.builtin "dict.get") [.ref a,u,r]) Q E s:=by
 rcases g with ⟨kvs,k,e,ey,l⟩ | ⟨kvs,k,b,e,ey,eb,l⟩
 ·subst ey
  obtain ⟨z,hd,vs,rel,dd⟩:=og I.a_ e
  refine call_meetsIn PySem.F.slot_dict_get dd.typeIs PySem.F.entry_dict_get (PySem.F.args_dict_get_3 _ _ _) (meets_dict_get_default (bB X.prog X.w) a (jK ry) hd r) ⟨_,dd.mapOf,h _ _ (I.tok _) ?_⟩
  rw[l]
  exact (rel.val k).getD rd
 ·subst ey
  cases (show u=Value.ref b from ry)
  obtain ⟨z,hd,xs,rel,dd⟩:=oh I.a_ e
  refine call_meetsIn PySem.F.slot_dict_get dd.typeIs PySem.F.entry_dict_get (PySem.F.args_dict_get_3 _ _ _) (meetsH_dict_get_default (tupleKind (bB X.prog X.w)) a b hd r) ⟨tupleKind_room_in1 hu,k,xs,lG I.a_ eb,dd,h _ _ (I.tok _) ?_⟩
  rw[l]
  exact (rel.val k).getD rd
end
noncomputable def IA (td ty tx:TE):TE:=fun σ H Q=>td σ H fun x H1=> ∃a,x= .ref a/\VH H1 a/\ty σ H1 fun y H2=>tx σ H2 fun z H3=> ∃o,jH H3 a y o/\Q (o.getD z) H3
section
variable {X:Cx} {o e f:Expr} {apos du:Pos} {td ty tx:TE}
theorem BO (hu:X.A.units+1<cLine) (ho:PE X o td) (he:PE X e ty) (hf:PE X f tx) (m:M2 X o "get" apos e f du):PE X (.Call (.Attribute o "get" apos) [e,f] [] du) (IA td ty tx):=by
 intro pins s σ H Q I h
 refine wpAny_Call_method m.base m.Eg m.line PySem.F.plainAttrs_dict PySem.F.slot_dict_get PySem.F.type_dict_get (aS (ho pins s σ H _ I h) fun u s1 ⟨x,H1,I1,rx,a,ex,d,q1⟩=>?_)
 subst ex
 obtain rfl:u=Value.ref a:=rx
 obtain ⟨t1,t2,_⟩:=Iy I1 d
 refine ⟨t1,t2,?_⟩
 rw[m.trees]
 refine Calls.callWith_builtin rfl (Calls.evalArgs_plain (Calls.spliced_cons (aS (he pins s1 σ H1 _ I1 q1) fun iv s2 ⟨y,H2,I2,ry,q2⟩=>
  Calls.spliced_cons (aS (hf pins s2 σ H2 _ I2 q2) fun fv s3 ⟨z,H3,I3,rz,ov,g,q3⟩=>Calls.spliced_nil ?_))))
 exact Iz hu I3 g ry rz fun w' s4 I4 zK=>⟨_,H3,I4,zK,q3⟩
end
section
variable {X:Cx} {pins:List (Addr×Obj)} {σ:St} {H:Hp} {s:Shared} {a:Addr} {kvs:List (Key×V)} {A:Around} {E:Value->Shared->Prop}
end
section
variable {X:Cx} {pins:List (Addr×Obj)} {σ:St} {H:Hp} {s:Shared} {a:Addr} {y:V} {u:Value} {A:Around} {E:Value->Shared->Prop}
end
end L2
namespace L2
open PySem PySem.Spec PyProof.Rows
section
variable {prog:Program} {w:World} {A:Around} {E:Value->Shared->Prop} {s:Shared}
end
section
variable {X:Cx}
end
end L2
set_option maxHeartbeats 1000000
namespace L2
open PySem PySem.Spec PyProof.Rows
section
variable {prog:Program} {w:World} {KK:Type} [DecidableEq KK] {knd:KeyKind prog w KK}
end
noncomputable def yr (p d:Addr):HO:= .ext fun h=>h.IsValuesView p d
noncomputable def LY:V->List V->Hp->VK->Prop:=fun x vs H Q=> ∃d kvs,x= .ref d/\vs=[]/\H d=some (.dK kvs)/\ ∀p,H p=none->Q (.ref p) (upd H p (yr p d))
section
variable {X:Cx}
theorem z0:rR X "dict.values" LY:=by
 intro pins s σ H x vs v us Q I rx rv h
 obtain ⟨d,kvs,rfl,rfl,hd,q⟩:=h
 cases rx
 have e:us=[]:=by cases rv;rfl
 subst e
 obtain ⟨z,lo,ws,kv,dd⟩:=yo I.a_ hd
 refine call_meetsIn PySem.F.slot_dict_values dd.typeIs PySem.F.entry_dict_values (PySem.F.args_dict_values_1 _) (meets_dict_values (bB X.prog X.w) d lo) ⟨⟨ws,dd⟩,?_⟩
 refine ⟨.ref s.heap.objs.size,upd H s.heap.objs.size (yr _ d),I.laid (t':=s.toks) (fun b o e=>Heap.get?_push_of_some _ e) (Nat.le_refl _) ?_,rfl,q _ I.fresh⟩
 exact ⟨⟨_,Heap.get?_push_size _ rfl,rfl,rfl⟩,⟨_,Heap.get?_push_size _ rfl⟩,fun h1 h2 ⟨o,ho,r⟩ k=>⟨o,k o ho,r⟩⟩
theorem yt: ∀{kvs:List (Key×V)} {ws:List (Key×Value)},KV kvs ws->Vals (kvs.map (·.2)) (ws.map (·.2))
 | _,_, .nil=> .nil
 | _,_, .cons r t=> .cons r.2 (yt t)
end
end L2
set_option maxHeartbeats 1000000
namespace L2.F2
open PySem PySem.Spec PyProof.Rows
end L2.F2
namespace L2
open PySem PySem.Spec PyProof.Rows
section
variable {prog:Program} {w:World} {A:Around} {E:Value->Shared->Prop} {s:Shared}
end
section
variable {X:Cx}
end
end L2
set_option maxHeartbeats 1000000
namespace L2
open PySem PySem.Spec PyProof.Rows
section
variable {prog:Program} {w:World} {A:Around} {E:Value->Shared->Prop} {s:Shared}
theorem oj {h h':Heap} {l b:Addr} {items:Array Value} (x:h.IsList l items) (k:Heap.ExtBut b h h') (n:l≠b):h'.IsList l items:=let ⟨o,ho,r⟩:=x;⟨o,k l o n ho,r⟩
theorem qQ {it l:Addr} {items:Array Value} (z9:l≠it): ∀(n i:Nat) (s:Shared) (Q:List Value->Shared->Prop),s.heap.IsListIter it l i->s.heap.IsList l items->i+n<=items.size->
  (∀h',h'.IsListIter it l (i+n)->Heap.SameBut it s.heap h'->Q ((items.toList.drop i).take n) { s with heap:=h' })->wpAny (model prog w) A (draw (.ref it) n) Q E s
 | 0,i,s,Q,hit,_,_,hQ=>by
  show wpAny _ _ (pure []) Q E s
  exact wpAny_pure (by simpa using hQ s.heap hit (Heap.SameBut.refl ..))
 | n+1,i,s,Q,hit,ht,hle,hQ=>by
  have cG:i<items.size:=by omega
  show wpAny _ _ (pyNext (.ref it) >>= _) Q E s
  refine wpAny_bind (wpAny_pyNext_list_item hit ht (x:=items[i]) (by simp[cG]) fun h₁ IB LZ=>?_)
  refine wpAny_bind (wpAny_holding (qQ z9 n (i+1) _ _ IB (oj ht LZ.extBut z9) (by omega) fun h₂ P0 XZ=>wpAny_pure ?_))
  have hd:items.toList.drop i=items[i]::items.toList.drop (i+1):=by simp[List.drop_eq_getElem_cons,cG]
  have:=hQ h₂ (by rw[show i+(n+1)=i+1+n by omega];exact P0) (LZ.trans XZ)
  rw[hd,List.take_succ_cons]at this
  exact this
theorem lI {t:Addr} {items:Array Value} {Q:List Value->Shared->Prop} (hh:A.handled=none) (ht:s.heap.IsList t items)
  (hQ: ∀h',Heap.ExtBut s.heap.objs.size s.heap h'->Q items.toList { s with heap:=h' }):wpAny (model prog w) A (unpackItems (.ref t) items.size none) Q E s:=by
 have cG:t≠s.heap.objs.size:=by obtain ⟨o,ho,_⟩:=ht;exact Nat.ne_of_lt (Heap.lt_size ho)
 have hT:s.TypeIs (.ref t) "list":=let ⟨o,ho,hc,_⟩:=ht;⟨o,ho,hc⟩
 unfold unpackItems
 refine wpAny_bind ?_
 unfold notIterableAtAll
 refine wpAny_bind (wpAny_specialOf hT PySem.F.slot_list_iter.lookup ?_)
 refine wpAny_pure ?_
 simp only[Bool.false_eq_true,if_false]
 refine wpAny_bind (wpAny_holding (wpAny_pyIter_list ht ?_))
 have Ov: ∀o:Obj,(s.heap.push o).IsList t items:=fun o=>let ⟨ob,ho,r⟩:=ht;⟨ob,Heap.get?_push_of_some _ ho,r⟩
 refine wpAny_bind (wpAny_holding (qQ cG items.size 0 _ _ ⟨_,Heap.get?_push_size _ rfl,rfl,rfl⟩ (Ov _) (by omega) fun h₁ IB LZ=>?_))
 have iY:List.take items.size (List.drop 0 items.toList)=items.toList:=by
  rw[List.drop_zero];exact List.take_of_length_le (by simp)
 rw[iY]
 rw[if_neg (by simp)]
 have X0:h₁.IsList t items:=oj (Ov _) LZ.extBut cG
 refine wpAny_bind (wpAny_holding (wpAny_pyNext_list_end hh IB X0 (by simp) fun h₂ X1=>?_))
 simp only[Option.isSome_none,Bool.false_eq_true,if_false]
 refine wpAny_pure (hQ h₂ fun b o hb e=>X1 b o hb (LZ.extBut b o hb (Heap.get?_push_of_some _ e)))
theorem kq {env:Env} {elts:List Expr} {x1} {pos:Pos} {t:Addr} {items:Array Value} {Q:Unit->Shared->Prop} (hh:A.handled=none) (ht:s.heap.IsList t items)
  (hn:(assignEach elts env).length=items.size) (L0:(assignEach elts env).findIdx? (·.1)=none)
  (h: ∀h',Heap.ExtBut s.heap.objs.size s.heap h'->wpAny (model prog w) A (assignInOrder ((assignEach elts env).map (·.2)) items.toList) Q E { s with heap:=h' }):
  wpAny (model prog w) A (assign (.Tuple elts x1 pos) env (.ref t)) Q E s:=by
 rw[assign_Tuple]
 refine wpAny_bind (wpAny_standAt ?_)
 unfold unpack
 rw[hn,L0]
 exact wpAny_bind (wpAny_holding (lI hh ht h))
end
section
variable {X:Cx}
noncomputable def P4 (K:PySem.W.Frag) (n:Nat) (t:C7):TG:=fun v σ H Q=> ∃a xs,v= .ref a/\bt K H a xs/\xs.length=n/\t xs σ H Q
theorem Eh (K:PySem.W.Frag) (h:X.K=K) {es:List Expr} {k:Nat} {t:C7} {n:Nat} {pos:Pos} (hc:X.calm=true) (hs:Ka X es t)
  (hn:(assignEach es X.env).length=n:=by rfl) (Dx:(assignEach es X.env).findIdx? (·.1)=none:=by rfl):PG X (.Tuple es k pos) (P4 K n t):=by
 subst h
 intro pins s σ H v u Q I r hw
 obtain ⟨a,xs,e1,hq,hl,hw⟩:=hw
 subst e1
 cases r
 obtain ⟨its,rv,ht,hz⟩:=I.list hq
 refine kq (I.ok.hd hc) ht.isList (by simp[hn, <-hl,rv.length]) Dx fun h' hx=>?_
 have I1:Inv X pins σ H { s with heap:=h' }:=I.kept (t':=s.toks) fun b o e=>hx b o (Nat.ne_of_lt (Heap.lt_size e)) e
 exact hs pins _ σ H xs _ Q I1 (by simpa using rv) hw
end
end L2
set_option maxHeartbeats 2000000
namespace L2
open PySem PySem.Spec PyProof.Rows
section
variable {prog:Program} {w:World} {A:Around} {E:Value->Shared->Prop} {s:Shared}
end
section
variable {X:Cx}
end
noncomputable def dd {α:Type} [DecidableEq α]:List α->List α->List α
 | σ,[]=>σ
 | σ,x::l=>dd (if x∈σ then σ else σ++[x]) l
section
variable {prog:Program} {w:World} {A:Around} {E:Value->Shared->Prop} {s:Shared}
noncomputable abbrev X2 (prog:Program) (w:World) (h:Heap) (a:Addr) (l:List Str):Prop:=h.SetOf (strKind prog w) a (fun k=>decide (k∈dd [] l)) (dd [] l).length
end
section
variable {prog:Program} {w:World} {A:Around} {E:Value->Shared->Prop} {s:Shared}
end
section
variable {X:Cx}
end
end L2
namespace L2
open PySem PySem.Spec PyProof.Rows
section
variable {prog:Program} {w:World} {A:Around} {E:Value->Shared->Prop} {s:Shared}
noncomputable def L3 (h:Heap) (k:Nat) (v:Value) (ns:List Int):Prop:= ∃x ox us m is z t,v= .ref x/\h.get? x=some ox/\ox.cls= .type "tuple"/\ox.data= .seq us m/\us.toList=is++[.str z t]/\IntsAre is ns/\ns.length=k+1
noncomputable def IC (h:Heap) (k:Nat):List Value->List (List Int)->Prop
 | [],[]=>True
 | v::vs,n::ns=>L3 h k v n/\IC h k vs ns
 | _,_=>False
end
section
variable {X:Cx}
noncomputable def P5 (K:PySem.W.Frag) (H:Hp) (k:Nat):List V->List (List Int)->Prop
 | [],[]=>True
 | v::vs,n::ns=>(∃t z,v= .ref t/\bp K H t (n.map V.int++[.str z])/\n.length=k+1)/\P5 K H k vs ns
 | _,_=>False
end
section
variable {X:Cx}
end
end L2
namespace L2
open PySem PySem.Spec PyProof.Rows
section
variable {X:Cx} {st:Stmt} {rest:List Stmt} {t u:TS}
noncomputable def L4 (t u:TS):TS:=fun D σ H=> ∃P:St->Hp->Prop,t { D with nx:=P } σ H/\ ∀σ' H',P σ' H'->u D σ' H'
theorem se (h1:PS X st t) (h2:rH X rest u):rH X (st::rest) (L4 t u):=by
 intro pins s σ H D I h
 obtain ⟨P,h,g⟩:=h
 refine wpAny_execs_cons (aS (h1 pins s σ H _ I h) fun f s1 q=>?_)
 cases f with
 | ret v=>exact q
 | brk=>exact q
 | cont=>exact q
 | next=>
  obtain ⟨τ,G,J,p⟩:=q
  exact h2 pins s1 τ G D J (g τ G p)
end
end L2
namespace L2
open PySem PySem.Spec PyProof.Rows
section
variable {X:Cx}
end
end L2
namespace L2
open PySem PySem.Spec PyProof.Rows
section
variable {X:Cx}
end
section
variable {prog:Program} {w:World} {A:Around} {E:Value->Shared->Prop} {s:Shared}
structure ZA (z TI TO i1 i2:Addr) (f1 f2:List Addr):Prop where
 m1:i1∈f1
 m2:i2∈f2
 z1:z∉f1
 z2:z∉f2
 o1:TO∉f1
 o2:TO∉f2
 c1:i1∉f2
 c2:i2∉f1
 tz:TI≠z
 tt:TI≠TO
 t1:TI≠i1
 t2:TI≠i2
 oz:TO≠z
theorem nm {a b:Addr} {f:List Addr} (h:a∈f) (n:b∉f):a≠b:=fun z=>n (z▸h)
section
variable {z TI TO i1 i2:Addr} {f1 f2:List Addr} {n1 n2 i:Nat} {P1 P2:Nat->Value->Prop} {S1 S2:Nat->Heap->Prop} {a b:Value}
end
structure ZS (P:Program) (w:World) (K:PySem.W.Frag) (a it:Addr) (Sq:Hp->List V->Prop) (IT:Nat->Heap->Prop):Prop where
 obj: ∀i h,IT i h-> ∃o,h.get? it=some o/\ ∀v,o.data≠ .cell v
 keep: ∀i h h',IT i h->(∀o,h.get? it=some o->h'.get? it=some o)->IT i h'
 inj: ∀(X:Cx),X.K=K-> ∀(pins:List (Addr×Obj)) (s:Shared) (σ:St) (H:Hp),Inv X pins σ H s-> ∀xs ys,Sq H xs->Sq H ys->xs=ys
 draws: ∀(X:Cx),X.prog=P->X.w=w->X.K=K->X.calm=true-> ∀(pins:List (Addr×Obj)) (s:Shared) (σ:St) (H:Hp),Inv X pins σ H s-> ∀xs,Sq H xs->a≠it->
  ∃(its:List Value) (SS:Nat->Heap->Prop),Vals xs its/\Draws P w X.A.in1 it [it,a] its.length (fun i v=>its[i]? =some v) SS/\(∀i,IT i s.heap->SS i s.heap)/\ ∀i h,SS i h->IT i h
noncomputable abbrev L5 (h:Heap) (c:String) (l:Addr):Heap:=h.push { cls:= .type c,data:= .fields #[.ref l, .int 0 0] }
noncomputable abbrev Ow (h:Heap) (c d:String) (l m:Addr):Heap:=L5 (L5 h c l) d m
noncomputable abbrev Ox (h:Heap) (c d:String) (l m:Addr):Heap:=(Ow h c d l m).push { cls:= .type "tuple",data:= .seq #[.ref h.objs.size, .ref (L5 h c l).objs.size] }
noncomputable abbrev L6 (h:Heap) (c d:String) (l m:Addr):Heap:=(Ox h c d l m).push { cls:= .type "tuple",data:= .seq #[.none, .none] }
noncomputable abbrev ID (h:Heap) (c d:String) (l m:Addr):Heap:=(L6 h c d l m).push { cls:= .type "zip",data:= .fields #[.none, .bool false, .bool false, .ref (Ow h c d l m).objs.size, .ref (Ox h c d l m).objs.size] }
theorem uI (l m:Addr) (xs ys:Array Value):Meets (Builtin.«zip.__new__» ⟨[.type "zip", .ref l, .ref m],[]⟩) (fun _ R s=>s.heap.IsList l xs/\s.heap.IsList m ys/\R (.ok (.ret (.ref (L6 s.heap "list_iterator" "list_iterator" l m).objs.size))) { s with heap:=ID s.heap "list_iterator" "list_iterator" l m }):=
 .of_wp fun prog w A R s h=>by
  obtain ⟨hp,g,d,tk,os⟩:=s;obtain ⟨q1,q2,h⟩:=h;have IE:=sub_zip
  have k1:Heap.IsList (Shared.heap ⟨hp,g,d,tk,os⟩) l xs:=q1
  have k2:Heap.IsList (Shared.heap ⟨hp.push { cls:= .type "list_iterator",data:= .fields #[.ref l, .int 0 0] },g,d,tk,os⟩) m ys:=Heap.IsList.push q2 _
  wp_walk using wpAny_pyIter_list k1,wpAny_pyIter_list k2
  exact ⟨_,rfl,h⟩
noncomputable def X3 (c d:String) (P1 P2:Heap->Prop) (l m:Addr):Prop:= ∀(prog:Program) (w:World) (A:Around) (E:Value->Shared->Prop) (s:Shared) (Q:Value->Shared->Prop),P1 s.heap->P2 s.heap->
  (∀h',IsZip h' (s.heap.objs.size+4) (s.heap.objs.size+2) (s.heap.objs.size+3) .none->IsPair h' (s.heap.objs.size+2) (.ref s.heap.objs.size) (.ref (s.heap.objs.size+1))->
   IsPair h' (s.heap.objs.size+3) .none .none->h'.get? s.heap.objs.size=some { cls:= .type c,data:= .fields #[.ref l, .int 0 0] }->h'.get? (s.heap.objs.size+1)=some { cls:= .type d,data:= .fields #[.ref m, .int 0 0] }->
   (∀b o,s.heap.get? b=some o->h'.get? b=some o)->Q (.ref (s.heap.objs.size+4)) { s with heap:=h' })->
  wpAny (model prog w) A (call (.type "zip") [.ref l, .ref m]) Q E s
theorem IF {c d:String} {P1 P2:Heap->Prop} {l m:Addr} (M:Meets (Builtin.«zip.__new__» ⟨[.type "zip", .ref l, .ref m],[]⟩) (fun _ R s=>P1 s.heap/\P2 s.heap/\R (.ok (.ret (.ref (L6 s.heap c d l m).objs.size))) { s with heap:=ID s.heap c d l m })):X3 c d P1 P2 l m:=by
 intro prog w A E s Q p1 p2 h
 refine callType_new F.called_zip (by decide) (F.typeCall_zip_2 _ _) (F.newCall_zip_2 _ _) (fun ob=>F.args_object_init_3 ob _ _) F.entry_zip_new M ⟨p1,p2,?_⟩
 have e1:(L5 s.heap c l).objs.size=s.heap.objs.size+1:=Heap.size_push ..
 have e2:(Ow s.heap c d l m).objs.size=s.heap.objs.size+2:=by rw[Heap.size_push,e1]
 have e3:(Ox s.heap c d l m).objs.size=s.heap.objs.size+3:=by rw[Heap.size_push,e2]
 have e4:(L6 s.heap c d l m).objs.size=s.heap.objs.size+4:=by rw[Heap.size_push,e3]
 have g5:(ID s.heap c d l m).get? (L6 s.heap c d l m).objs.size=some _:=Heap.get?_push_size _ rfl
 have g4:(ID s.heap c d l m).get? (Ox s.heap c d l m).objs.size=some _:=Heap.get?_push_of_some _ (Heap.get?_push_size _ rfl)
 have g3:(ID s.heap c d l m).get? (Ow s.heap c d l m).objs.size=some _:=Heap.get?_push_of_some _ (Heap.get?_push_of_some _ (Heap.get?_push_size _ rfl))
 have g2:(ID s.heap c d l m).get? (L5 s.heap c l).objs.size=some _:=Heap.get?_push_of_some _ (Heap.get?_push_of_some _ (Heap.get?_push_of_some _ (Heap.get?_push_size _ rfl)))
 have g1:(ID s.heap c d l m).get? s.heap.objs.size=some _:=Heap.get?_push_of_some _ (Heap.get?_push_of_some _ (Heap.get?_push_of_some _ (Heap.get?_push_of_some _ (Heap.get?_push_size _ rfl))))
 show _/\_
 rw[e2,e3,e4]at g5
 rw[e1,e2]at g3
 rw[e3]at g4
 rw[e1]at g2
 rw[e4]
 exact ⟨⟨_,g5,rfl⟩,h _ g5 g3 g4 g1 g2 fun b o x=>Heap.get?_push_of_some _ (Heap.get?_push_of_some _ (Heap.get?_push_of_some _ (Heap.get?_push_of_some _ (Heap.get?_push_of_some _ x))))⟩
theorem Kj {a b c:Nat} (h1:a≠b) (h2:a≠c):(a:Addr)∉([b,c]:List Addr):=fun h=>by
 rcases List.mem_cons.mp h with e | e
 ·exact h1 e
 ·exact h2 (List.mem_singleton.mp e)
theorem L7 {a b:Nat} (h:a≠b):(a:Addr)≠(b:Addr):=h
theorem IG {n l m:Nat} (h1:l<n) (h2:m<n):ZA (n+4:Nat) (n+2:Nat) (n+3:Nat) n (n+1:Nat) [n,l] [(n+1:Nat),m]:=
 ⟨List.mem_cons_self,List.mem_cons_self,Kj (a:=n+4) (b:=n) (c:=l) (by omega) (by omega),Kj (a:=n+4) (b:=n+1) (c:=m) (by omega) (by omega),Kj (a:=n+3) (b:=n) (c:=l) (by omega) (by omega),Kj (a:=n+3) (b:=n+1) (c:=m) (by omega) (by omega),
  Kj (a:=n) (b:=n+1) (c:=m) (by omega) (by omega),Kj (a:=n+1) (b:=n) (c:=l) (by omega) (by omega),L7 (a:=n+2) (b:=n+4) (by omega),L7 (a:=n+2) (b:=n+3) (by omega),L7 (a:=n+2) (b:=n) (by omega),L7 (a:=n+2) (b:=n+1) (by omega),L7 (a:=n+3) (b:=n+4) (by omega)⟩
end
section
variable {X:Cx} {elts:List Expr} {k:Nat} {pos':Pos} {a b:Expr} {ta:TA} {p pos:Pos}
end
end L2
namespace L2
open PySem PySem.Spec PyProof.Rows
section
variable {X:Cx}
end
end L2
namespace L2
open PySem PySem.Spec PyProof.Rows PySem.MeetsSeq PySem.SeqAt
section
variable {X:Cx}
end
end L2
namespace L2
open PySem PySem.Spec PyProof.Rows
end L2
set_option maxHeartbeats 4000000
namespace XL
open PySem PySem.Spec PySem.Calls PyProof.Rows PySem.W Builtin Builtin.ObjectAttr
noncomputable abbrev VB:List Value:=[.type "ValueError", .type "Exception", .type "BaseException", .type "object"]
noncomputable def L8 (K:Frag) (C:Addr):Bool:=match K.lookup C with
 | some ⟨.type "type",_, .cls cd,sl⟩=>(match cd.mro,sl.toList with
  | .ref C'::bm,[_,_,_,_,some (.builtin n),_]=>C'==C&&n=="ValueError.__new__"&&!cd.hasDel&&cd.hasDict&&tailIn K VB bm&&nsOkIn K cd.ns
  | _,_=>false)
 | _=>false
structure uJ (K:Frag) (h:Heap) (C:Addr):Prop where
 obj: ∃bm N nm q bs sn sub ab col dd k0 k1 k2 k3 k5 mN,h.get? C=some (excClassObj nm q C N bs bm true sn sub ab col dd k0 k1 k2 k3 k5 "ValueError.__new__")/\h.Ns N mN/\OwnTail h VB bm/\clsIn K C=some { name:=nm,bases:=bs,mro:= .ref C::bm,ns:=N,qualname:=q,hasDict:=true,slotNames:=sn,subclasses:=sub,abstract:=ab,collection:=col,hasDel:=false }
theorem gs {K:Frag} {h:Heap} {C:Addr} (X:K.In h) (e:L8 K C=true):uJ K h C:=by
 unfold L8 at e
 split at e
 ·rename_i dd cd sl ho
  split at e
  ·rename_i C' bm k0 k1 k2 k3 n k5 hm hs
   simp only[Bool.and_eq_true,beq_iff_eq,Bool.not_eq_true']at e
   obtain ⟨⟨⟨⟨⟨rfl,rfl⟩,L9⟩,L_⟩,ht⟩,a_⟩:=e
   obtain ⟨nm,bs,mro,ns,qn,hd,sn,sub,ab,col,del⟩:=cd
   dsimp only at hm L9 a_ L_
   subst hm L9 L_
   have Ei:sl= #[k0,k1,k2,k3,some (.builtin "ValueError.__new__"),k5]:=by
    obtain ⟨l⟩:=sl
    simp only at hs
    rw[hs]
   subst Ei
   exact ⟨bm,ns,nm,qn,bs,sn,sub,ab,col,dd,k0,k1,k2,k3,k5,_,X _ _ ho, .of_isNs (isNs_of_in X a_),tail_of_in X ht,by unfold clsIn;rw[ho]⟩
  ·cases e
 ·cases e
theorem mf {α:Type} {M:Model} {A:Around} {E:Value->Shared->Prop} {h:Heap} {g:Array GenState} {d:Drawn} {t:Nat} {os:OsState} {T:Sem α} {r:α} {Q:α->Shared->Prop} (x:Looks M h T r) (q:Q r ⟨h,g,d,t,os⟩):wpAny M A T Q E ⟨h,g,d,t,os⟩:=x A Q E _ (fun _ _ e=>e) q
noncomputable abbrev gD (C t:Addr):Obj:={ cls:= .ref C,data:= .fields #[.ref t, .none, .none, .none, .bool false, .none] }
section
variable {prog:Program} {w:World} {A:Around} {E:Value->Shared->Prop} {h:Heap} {g:Array GenState} {d:Drawn} {t:Nat} {os:OsState} {K:Frag} {C:Addr}
theorem uK {rest:List Value} {init:Value} {Q:Fin->Shared->Prop} (X:uJ K h C) (hi:Looks (model prog w) h (typeLookup (.ref C) "__init__") (some init)) (hb: ∀self,Looks (model prog w) h (bindSpecial init self) (init,[self])) (yu:rest.length<=sizeLine)
  (hq:wpAny (model prog w) A (call init (.ref (h.objs.size+1)::rest)) (fun v s'=>v= .none/\Q (.done (.ret (.ref (h.objs.size+1)))) s') E ⟨(h.push { cls:= .type "tuple",data:= .seq rest.toArray }).push (gD C h.objs.size),g,d,t,os⟩):
  wpAny (model prog w) A (Builtin.«type.__call__» ⟨.ref C::rest,[]⟩) Q E ⟨h,g,d,t,os⟩:=by
 obtain ⟨bm,N,nm,q,bs,sn,sub,ab,col,dd,k0,k1,k2,k3,k5,mN,hC,hn,T,_⟩:=X.obj
 have F:=PySem.F.excBase_ValueError
 repeat (first | with_reducible refine wpAny_loadPart_at hC ?_ | with_reducible refine wpAny_madeBy_exc hC ?_ | wp_step)
 refine codeAny_call_builtin_code (Code.quiet_builtin _ F.quiet) (wpAny_check_new_subT F T hC ?_)
 refine codeAny_exc_new_subT F T hC ?_ yu
 show wpAny _ _ _ _ _ _
 have kp: ∀b o,h.get? b=some o->((h.push { cls:= .type "tuple",data:= .seq rest.toArray }).push (gD C h.objs.size)).get? b=some o:=fun b o e=>Heap.get?_push_of_some _ (Heap.get?_push_of_some _ e)
 have X4:=kp _ _ hC
 have z_:((h.push { cls:= .type "tuple",data:= .seq rest.toArray }).push (gD C h.objs.size)).get? (h.objs.size+1)=some (gD C h.objs.size):=by heap_get
 have P6:(Value.ref C::bm).contains (.ref C)=true:=by simp
 have i1:=hi.keeps kp
 have b1:=(hb (.ref (h.objs.size+1))).keeps kp
 unfold isInstance
 repeat (first | with_reducible refine wpAny_loadPart_at z_ ?_ | (with_reducible refine wpAny_isSubtype_exc X4 ?_;rw[P6]) | wp_step)
 show wpAny _ _ (typeLookup (.ref C) _) _ _ _
 refine i1.here ?_
 refine wpAny_holding (wpAny_bind (b1.here ?_))
 refine wpAny_bind (wpAny_mono hq (fun v s' z=>?_) fun _ _ e=>e)
 obtain ⟨rfl,z⟩:=z
 exact wpAny_pure (wpAny_pure z)
theorem x_call {rest:List Value} {init:Value} {Q:Value->Shared->Prop} (X:uJ K h C) (hi:Looks (model prog w) h (typeLookup (.ref C) "__init__") (some init)) (hb: ∀self,Looks (model prog w) h (bindSpecial init self) (init,[self])) (yu:rest.length<=sizeLine)
  (hq:wpAny (model prog w) (A.under (.builtin "type.__call__" ⟨.ref C::rest,[]⟩)) (call init (.ref (h.objs.size+1)::rest)) (fun v s'=>v= .none/\Q (.ref (h.objs.size+1)) s') E ⟨(h.push { cls:= .type "tuple",data:= .seq rest.toArray }).push (gD C h.objs.size),g,d,t,os⟩):
  wpAny (model prog w) A (call (.ref C) rest) Q E ⟨h,g,d,t,os⟩:=by
 obtain ⟨bm,N,nm,q,bs,sn,sub,ab,col,dd,k0,k1,k2,k3,k5,mN,hC,hn,T,_⟩:=X.obj
 have f1:=tc_lookup
 have f2:=tc_bind (.ref C)
 have hT:(⟨h,g,d,t,os⟩:Shared).TypeIs (.ref C) "type":=⟨_,hC,rfl⟩
 refine wpAny_call (codeAny_of_tree ?_)
 show wpAny _ _ (callAny (.ref C) _) _ _ _
 repeat (any_goals (first | assumption | with_reducible refine wpAny_loadPart_at hC ?_ | wp_step))
 refine ⟨rfl,?_⟩
 exact codeAny_call_builtin_at (Code.quiet_builtin _ (by decide+kernel)) entry_typeCall (wpAny_check_type_call_sub hC (uK X hi hb yu hq))
theorem IH {rest:List Value} {e:Addr} {oe:Obj} {vs:Array Value} {Q:Value->Shared->Prop} (X:uJ K h C) (he:h.get? e=some oe) (hc:oe.cls= .ref C) (hd:oe.data= .fields vs) {t0:Addr} (h0:vs[0]? =some (.ref t0)) (yu:rest.length<=sizeLine)
  (hq:Q .none ⟨(h.push { cls:= .type "tuple",data:= .seq rest.toArray }).update e (Obj.mapFields (·.setIfInBounds 0 (.ref h.objs.size))),g,d,t,os⟩):
  wpAny (model prog w) A (call (.builtin "ValueError.__init__") (.ref e::rest)) Q E ⟨h,g,d,t,os⟩:=by
 obtain ⟨bm,N,nm,q,bs,sn,sub,ab,col,dd,k0,k1,k2,k3,k5,mN,hC,hn,T,_⟩:=X.obj
 have F:=PySem.F.excBase_ValueError
 refine wpAny_call (codeAny_call_builtin F.init.plain F.initEntry (wpAny_check_init_subT F T hC he hc ?_))
 wp_walk
 rw[hd]
 refine wpAny_pure ?_
 rw[h0]
 refine wpAny_pure (wpAny_bind ?_)
 have hsz:0<vs.size:=(Array.getElem?_eq_some_iff.mp h0).1
 refine wpAny_setField (Heap.get?_push_of_some _ he) hd hsz ?_
 wp_walk
 exact hq
theorem uL {bm:List Value} (T:OwnTail h VB bm) (self:Value):refuseLoop self "__setattr__" bm=pure ():=by
 induction T with
 | base=>exact PySem.F.store_ValueError.passes self
 | own _ _ _ _ ih=>rw[refuseLoop_ref];exact ih
variable {x:Addr} {mA:Str->Option Value} {name:Str} {v:Value}
theorem II {o:Obj} {Q:Option Addr->Shared->Prop} (X:uJ K h C) (hx:h.get? x=some o) (hc:o.cls= .ref C) (Ma: ∀c,o.data≠ .cls c)
  (h1: ∀dx,o.dict=some dx->Q (some dx) ⟨h,g,d,t,os⟩) (h2:o.dict=none->Q (some h.objs.size) ⟨(h.push emptyDict).update x fun o=>{ o with dict:=some h.objs.size },g,d,t,os⟩):
  wpAny (model prog w) A (instanceDict x true) Q E ⟨h,g,d,t,os⟩:=by
 obtain ⟨bm,N,nm,q,bs,sn,sub,ab,col,dd,k0,k1,k2,k3,k5,mN,hC,_⟩:=X.obj
 unfold instanceDict
 repeat (first | (with_reducible refine wpAny_loadPart_at hx ?_;rw[hc]) | with_reducible refine wpAny_loadPart_at hC ?_ | wp_step)
 cases e:o.dict with
 | some dx=>exact wpAny_pure (h1 dx e)
 | none=>
  have lay:wpAny (model prog w) A (do
    let d <-alloc { cls:= .type "dict",data:= .dict #[] }
    update x fun o=>{ o with dict:=some d }
    dictMade (.ref C) x d) Q E ⟨h,g,d,t,os⟩:=wpAny_bind (wpAny_alloc (wpAny_bind (wpAny_update (Heap.get?_push_of_some _ hx) (wpAny_pure (h2 e)))))
  obtain ⟨oc,od,Ej,x_⟩:=o
  cases Ej<;>first | exact lay | exact absurd rfl (Ma _)
theorem Gq {dx:Addr} {ns:List Str} {tk:Tok} {Q:Fin->Shared->Prop} (hn:h.Ns1 dx mA) (hw:Within mA ns) (hz:ns.length<sizeLine)
  (hq: ∀h',h'.Ns1 dx (fun y=>if y=name then some v else mA y)->Heap.SameBut dx h h'->Q (.done (.ret .none)) ⟨h',g,d,t+1,os⟩):wpAny (model prog w) A (storeInDict dx (.str name tk) name v) Q E ⟨h,g,d,t,os⟩:=by
 unfold storeInDict
 refine wpAny_bind (wpAny_pure (wpAny_bind (wpAny_nsSet1 hn fun h' n1 n2=>?_)))
 obtain ⟨oD,esD,epD,a1,a2,a3⟩:=n1.count (Within.cons name v hw)
 refine wpAny_bind (wpAny_lookBehind a1 (by rw[a2];exact pastItsLine_dict (Nat.le_trans a3 (by rw[List.length_cons];omega))) ?_)
 exact wpAny_pure (hq h' n1 n2)
theorem Ek {tk:Tok} {Q:Fin->Shared->Prop} {ns:List Str} (KI:K.In h) (X:uJ K h C) (hn:findIn K (.ref C) name=some none) (I:h.Inst x C mA)
  (hq: ∀h' El,h'.Inst x C (fun y=>if y=name then some v else mA y)->
   (∀b o,b≠x->(∀o₀ dx,h.get? x=some o₀->o₀.dict=some dx->b≠dx)->h.get? b=some o->h'.get? b=some o)->
   (∀o₀,h.get? x=some o₀-> ∃o₁,h'.get? x=some o₁/\o₁.cls=o₀.cls/\o₁.data=o₀.data/\o₁.slots=o₀.slots/\(∀dx,o₀.dict=some dx->o₁.dict=some dx)/\(o₀.dict=none->o₁.dict=some h.objs.size))->Q (.done (.ret .none)) ⟨h',g,d,El,os⟩) (hw:Within mA ns) (hsz:ns.length<sizeLine):
  wpAny (model prog w) A (Builtin.«object.__setattr__» ⟨[.ref x, .str name tk,v],[]⟩) Q E ⟨h,g,d,t,os⟩:=by
 obtain ⟨bm,N,nm,q,bs,sn,sub,ab,col,dd,k0,k1,k2,k3,k5,mN,hC,_,T,_⟩:=X.obj
 obtain ⟨o,hx,hc,Ma,hd⟩:=I
 have t1:Looks (model prog w) h (typeOf (.ref x)) (.ref C):=hc▸(Looks.ld hx).andThen .now
 have same: ∀o₀,h.get? x=some o₀->o=o₀:=fun o₀ e=>Option.some.inj (hx.symm.trans e)
 rw[osa_eq]
 refine wpAny_bind ?_
 rw[refuse_eq]
 refine wpAny_bind (mf t1 (wpAny_bind (wpAny_mroOf_exc hC ?_)))
 rw[refuseLoop_ref,uL T]
 refine wpAny_pure (wpAny_bind (mf t1 (wpAny_bind (mf (looks_findIn KI hn) (wpAny_bind (wpAny_pure ?_))))))
 show wpAny _ _ (storeInOwnDict (.ref x) (.ref C) (.str name tk) name v false) _ _ _
 unfold storeInOwnDict
 refine wpAny_bind (wpAny_pure (wpAny_bind (II X hx hc Ma (fun dx e=>?_) (fun e=>?_))))
 ·rcases hd with ⟨z,_⟩ | ⟨X5,e',ne,n1⟩
  ·rw[z]at e;cases e
  ·rw[e']at e
   cases e
   refine Gq n1 hw hsz fun h' n2 sb=>hq h' _ ⟨o,(sb.2 x ne.symm).trans hx,hc,Ma, .inr ⟨dx,e',ne,n2⟩⟩ (fun b ob _ away hb=>(sb.2 b (away o dx hx e')).trans hb) fun o₀ e0=>?_
   cases same o₀ e0
   exact ⟨o,(sb.2 x ne.symm).trans hx,rfl,rfl,rfl,fun _ y=>y,fun y=>by (rw[e']at y;cases y)⟩
 ·have empty: ∀n,mA n=none:=by
   rcases hd with ⟨_,z⟩ | ⟨X5,e',_⟩
   ·exact z
   ·rw[e']at e;cases e
  have lt:x≠h.objs.size:=Nat.ne_of_lt (Heap.lt_size hx)
  have live:Obj.isFreed { o with dict:=some h.objs.size }=false:=by
   have:=(Heap.get?_some_iff.mp hx).2
   obtain ⟨oc,od,Ej,x_⟩:=o
   cases Ej<;>first | rfl | exact this
  have gx:=Heap.get?_update_self (fun o:Obj=>{ o with dict:=some h.objs.size }) (Heap.get?_push_of_some emptyDict hx) live
  have gd:((h.push emptyDict).update x fun o=>{ o with dict:=some h.objs.size }).get? h.objs.size=some emptyDict:=(Heap.get?_update_ne _ _ _ _ (Ne.symm lt)).trans (Heap.get?_push_at rfl rfl)
  have nd:((h.push emptyDict).update x fun o=>{ o with dict:=some h.objs.size }).Ns1 h.objs.size fun _=>none:=Heap.Ns1.of_empty ⟨_, #[],_,gd,rfl,fun y hy=>absurd hy (by simp),fun _=>rfl⟩
  have old: ∀b ob,b≠x->h.get? b=some ob->((h.push emptyDict).update x fun o=>{ o with dict:=some h.objs.size }).get? b=some ob:=fun b ob hb e=>(Heap.get?_update_ne _ _ _ _ hb).trans (Heap.get?_push_of_some _ e)
  refine Gq (ns:=[]) nd Within.nil (by decide) fun h' n2 sb=>hq h' _ ⟨_,(sb.2 x lt).trans gx,hc,Ma, .inr ⟨h.objs.size,rfl,Ne.symm lt,?_⟩⟩ (fun b ob hb _ eb=>(sb.2 b (Nat.ne_of_lt (Heap.lt_size eb))).trans (old b ob hb eb)) fun o₀ e0=>?_
  ·obtain ⟨o',es,ep,y1,y2,y3,y4,y5⟩:=n2
   refine ⟨o',es,ep,y1,y2,y3,y4,fun y=>(y5 y).trans ?_⟩
   show (if y=name then some v else none)=if y=name then some v else mA y
   by_cases z:y=name
   ·rw[if_pos z,if_pos z]
   ·rw[if_neg z,if_neg z,empty]
  ·cases same o₀ e0
   exact ⟨_,(sb.2 x lt).trans gx,rfl,rfl,rfl,fun dx y=>by (rw[e]at y;cases y),fun _=>rfl⟩
theorem Gr {Q:Unit->Shared->Prop} {ns:List Str} (KI:K.In h) (X:uJ K h C) (hs:findIn K (.ref C) "__setattr__"=some (some (.builtin "object.__setattr__"))) (hn:findIn K (.ref C) name=some none) (I:h.Inst x C mA)
  (hq: ∀h' El,h'.Inst x C (fun y=>if y=name then some v else mA y)->
   (∀b o,b≠x->(∀o₀ dx,h.get? x=some o₀->o₀.dict=some dx->b≠dx)->h.get? b=some o->h'.get? b=some o)->
   (∀o₀,h.get? x=some o₀-> ∃o₁,h'.get? x=some o₁/\o₁.cls=o₀.cls/\o₁.data=o₀.data/\o₁.slots=o₀.slots/\(∀dx,o₀.dict=some dx->o₁.dict=some dx)/\(o₀.dict=none->o₁.dict=some h.objs.size))->Q () ⟨h',g,d,El,os⟩) (hw:Within mA ns) (hsz:ns.length<sizeLine):
  wpAny (model prog w) A (setAttr (.ref x) name v) Q E ⟨h,g,d,t,os⟩:=by
 obtain ⟨bm,N,nm,q,bs,sn,sub,ab,col,dd,k0,k1,k2,k3,k5,mN,hC,_,T,_⟩:=X.obj
 obtain ⟨o,hx,hc,_⟩:=id I
 have SF:=PySem.F.store_ValueError
 have f3:=SF.slot.bind (.ref x)
 have L:=looks_findIn (M:=model prog w) KI hs
 have X6:(Value.ref C::bm).contains (.type "object")=true:=by rw[List.contains_cons,T.hasType (X:="object") (b:=true) (by decide+kernel),Bool.or_true]
 unfold setAttr callSpecial? specialOf
 repeat (any_goals (first | assumption | (with_reducible refine wpAny_loadPart_at hx ?_;rw[hc]) | with_reducible refine mf L ?_ | wp_step))
 refine codeAny_call_builtin SF.slot.plain SF.entry ?_
 refine @check_slot (model prog w) _ _ _ "object.__setattr__" "object" "__setattr__" (.ref x) _ [] _ SF.kind SF.split ?_ (SF.args _ _ _) (Ek KI X hn I (fun h' El I' hk Mb=>?_) hw hsz)
 ·have t1:Looks (model prog w) h (typeOf (.ref x)) (.ref C):=hc▸(Looks.ld hx).andThen .now
  refine t1.andThen ?_
  intro A Q E s k q
  obtain ⟨hh,gg,X7,tt,X8⟩:=s
  refine wpAny_isSubtype_exc (k _ _ hC) ?_
  rw[X6];exact q
 repeat (any_goals (first | assumption | wp_step))
 exact hq h' El I' hk Mb
theorem Mc {expr:Bool} {Q:Value->Shared->Prop} (KI:K.In h) (X:uJ K h C) (X9:findIn K (.ref C) "__getattribute__"=some (some (.builtin "BaseException.__getattribute__"))) (hk:findIn K (.ref C) "__getattr__"=some none)
  (hn:findIn K (.ref C) name=some none) {ox od:Obj} (I:InstAt h x ox C (some od)) (hl:lookIn name od=some (some v)) (hv:handedIn v=true) (hq:Q v ⟨h,g,d,t+1,os⟩):
  wpAny (model prog w) A (getAttr (.ref x) name expr) Q E ⟨h,g,d,t,os⟩:=by
 obtain ⟨bm,N,nm,q,bs,sn,sub,ab,col,dd,k0,k1,k2,k3,k5,mN,hC,_,T,t_⟩:=X.obj
 have hx:=I.at_
 have hc:=I.cls
 have FB:=PySem.F.attrBase_ValueError
 have f3:=FB.ga.bind (.ref x)
 have hx0:(expr&&onTheHeap (Value.builtin "BaseException.__getattribute__"))=false:=by cases expr<;>rfl
 have Oq:(Value.builtin "BaseException.__getattribute__"==Value.builtin "object.__getattribute__")=false:=by decide+kernel
 have hx1:(onTheHeap (Value.ref C)&&Value.builtin "BaseException.__getattribute__"==Value.builtin "object.__getattribute__")=false:=by rw[Oq];rfl
 have L1:=looks_findIn (M:=model prog w) KI X9
 have L2:=looks_findIn (M:=model prog w) KI hk
 have Md:(Value.ref C::bm).contains (.type "BaseException")=true:=by rw[List.contains_cons,T.hasType (X:="BaseException") (b:=true) (by decide+kernel),Bool.or_true]
 have hf:findObj K C (some od) name=some (.value v):=by
  unfold findObj
  rw[t_,hn]
  show (Option.bind (PySem.W.ownOf _ (some od) name) _)=_
  unfold PySem.W.ownOf
  rw[if_pos rfl]
  show (Option.bind (lookIn name od) _)=_
  rw[hl]
  rfl
 have t1:Looks (model prog w) h (typeOf (.ref x)) (.ref C):=hc▸(Looks.ld hx).andThen .now
 have LF:=looks_find (M:=model prog w) KI I hf
 unfold getAttr getAttrBy
 repeat (any_goals (first | assumption | (with_reducible refine wpAny_loadPart_at hx ?_;rw[hc]) | with_reducible refine mf L1 ?_ | with_reducible refine mf L2 ?_ | wp_step))
 refine codeAny_call_builtin FB.ga.plain PySem.F.entry_bexc_ga ?_
 refine @check_slot (model prog w) _ _ _ "BaseException.__getattribute__" "BaseException" "__getattribute__" (.ref x) _ [] _ (by decide+kernel) (by decide+kernel) ?_ (PySem.F.args_bexc_ga _ _) ?_
 ·refine t1.andThen ?_
  intro A Q E s k q
  obtain ⟨hh,gg,X7,tt,X8⟩:=s
  refine wpAny_isSubtype_exc (k _ _ hC) ?_
  rw[Md];exact q
 unfold Builtin.«object.__getattribute__»
 repeat (first | with_reducible refine mf t1 ?_ | with_reducible refine mf LF ?_ | wp_step)
 show wpAny _ _ (handedOut v) _ _ _
 rw[handedOut_of hv]
 exact wpAny_pure hq
end
end XL
set_option maxHeartbeats 4000000
namespace XL
open PySem PySem.Spec PySem.Calls PyProof.Rows PySem.W Builtin Builtin.ObjectAttr
structure XC (K:Frag) (C:Addr):Prop where
 is:L8 K C=true
 ga:findIn K (.ref C) "__getattribute__"=some (some (.builtin "BaseException.__getattribute__"))
 gh:findIn K (.ref C) "__getattr__"=some none
 sa:findIn K (.ref C) "__setattr__"=some (some (.builtin "object.__setattr__"))
 cl:findIn K (.ref C) "__class__"=some (some (.builtin "object.__class__"))
 cg:specialIn K (.builtin "object.__class__") "__get__"=some (some (.builtin "getset_descriptor.__get__"))
 ct:takesIn K (.builtin "object.__class__")=some true
 ob:mroIn K C (.type "object")=some true
 kp:keepIn K (.ref C)=true
noncomputable def VI (e C:Addr) (h:Heap):Prop:= ∃ox,h.get? e=some ox/\ox.cls= .ref C/\notCls ox=true/\(∀d,ox.dict=some d-> ∃od,h.get? d=some od)
section
variable {prog:Program} {w:World} {A:Around} {E:Value->Shared->Prop} {h:Heap} {g:Array GenState} {d:Drawn} {t:Nat} {os:OsState} {K:Frag} {C x:Addr}
theorem Aa {M:Addr} {Q:Bool->Shared->Prop} (KI:K.In h) (c:XC K C) (cm:XC K M) (hs:mroIn K C (.ref M)=some true) (p:VI x C h) (hq:Q true ⟨h,g,d,t,os⟩):
  wpAny (model prog w) A (excMatches (.ref x) (.ref M)) Q E ⟨h,g,d,t,os⟩:=by
 obtain ⟨bm,N,nm,q,bs,sn,sub,ab,col,dd,k0,k1,k2,k3,k5,mN,hC,_,T,t_⟩:=(gs KI c.is).obj
 obtain ⟨X_,N',nm',q',bs',sn',Ya,ab',Yb,Gp,k0',Kk,k2',k3',k5',mN',hM,_,T',Yc⟩:=(gs KI cm.is).obj
 obtain ⟨ox,he,wd,_⟩:=p
 have Md:(Value.ref M::X_).contains (.type "BaseException")=true:=by rw[List.contains_cons,T'.hasType (X:="BaseException") (b:=true) (by decide+kernel),Bool.or_true]
 have P6:(Value.ref C::bm).contains (.ref M)=true:=by
  unfold mroIn at hs
  rw[t_,Option.bind_some]at hs
  have:(if (Value.ref C::bm).isEmpty=true then none else some ((Value.ref C::bm).contains (.ref M)))=some true:=hs
  rw[if_neg (by simp)]at this
  exact Option.some.inj this
 have f:=tc_notTuple
 unfold excMatches
 repeat (first | (with_reducible refine wpAny_loadPart_at he ?_;rw[wd]) | with_reducible refine wpAny_loadPart_at hM ?_ | (with_reducible refine wpAny_isSubtype_exc hM ?_;rw[Md]) | (with_reducible refine wpAny_isSubtype_exc hC ?_;rw[P6]) | wp_step)
 exact hq
theorem x_raise {env:Env} {s:Shared} {ex:Sem Value} {Q:Flow->Shared->Prop} (hh:A.handled=none)
  (hx:wpAny (model prog w) A ex (fun v s₁=> ∃e C oe vs,v= .ref e/\K.In s₁.heap/\XC K C/\s₁.heap.get? e=some oe/\oe.cls= .ref C/\oe.data= .fields vs/\vs[1]? =some .none/\E (.ref e) s₁) E s):
  wpAny (model prog w) A (raiseStmt env (some ex) none) Q E s:=by
 unfold raiseStmt
 refine wpAny_bind (wpAny_mono hx (fun v s₁ h₁=>?_) fun _ _ y=>y)
 obtain ⟨e,C,oe,vs,rfl,KI,c,he,wd,Ye,Yf,hE⟩:=h₁
 obtain ⟨hp,g,d,tk,os⟩:=s₁
 obtain ⟨bm,N,nm,q,bs,sn,sub,ab,col,dd,k0,k1,k2,k3,k5,mN,hC,_,T,t_⟩:=(gs KI c.is).obj
 have Md:(Value.ref C::bm).contains (.type "BaseException")=true:=by rw[List.contains_cons,T.hasType (X:="BaseException") (b:=true) (by decide+kernel),Bool.or_true]
 obtain ⟨oc,od,Ej,x_⟩:=oe
 cases (show oc= .ref C from wd)
 cases (show Ej= .fields vs from Ye)
 repeat (first | with_reducible refine wpAny_loadPart_at he ?_ | with_reducible refine wpAny_loadPart_at hC ?_ | with_reducible refine wpAny_field he rfl Yf ?_ | (with_reducible refine wpAny_isSubtype_exc hC ?_;rw[Md]) | wp_step)
 exact wpAny_raiseNew_none hh hE
end
end XL
set_option maxHeartbeats 4000000
namespace XL
open PySem PySem.Spec PySem.Calls PyProof.Rows PySem.W
noncomputable def Yg (h:Heap) (e C:Addr) (dO:Option Addr):Prop:= ∃oe vs,h.get? e=some oe/\oe.cls= .ref C/\oe.dict=dO/\oe.data= .fields vs/\vs[1]? =some .none
noncomputable def Tb (h:Heap) (e C:Addr) (dO:Option Addr) (T:Addr) (fl:Value):Prop:=
 ∃oe vs oT ts,h.get? e=some oe/\oe.cls= .ref C/\oe.dict=dO/\oe.data= .fields vs/\vs[1]? =some (.ref T)/\T≠e/\h.get? T=some oT/\oT.data= .fields ts/\ts[3]? =some fl
structure Kept (S ex:List Addr) (h h':Heap):Prop where
 keep: ∀b o,b∉ex->b∉S->h.get? b=some o->h'.get? b=some o
 slot: ∀b o,b∉ex->b∈S->h.get? b=some o-> ∃sl,h'.get? b=some { o with slots:=sl }
theorem Kept.trans {S ex ey:List Addr} {h h1 h2:Heap} (a:Kept S ex h h1) (b:Kept S ey h1 h2):Kept S (ex++ey) h h2:=by
 refine ⟨fun c o hx hs e=>?_,fun c o hx hs e=>?_⟩
 ·rw[List.mem_append,not_or]at hx
  exact b.keep c o hx.2 hs (a.keep c o hx.1 hs e)
 ·rw[List.mem_append,not_or]at hx
  obtain ⟨sl,e1⟩:=a.slot c o hx.1 hs e
  obtain ⟨zJ,e2⟩:=b.slot c _ hx.2 hs e1
  exact ⟨zJ,e2⟩
theorem Kept.frames {S ex:List Addr} {h h' base:Heap} (a:Kept S ex h h'): ∀{l:List Env},(∀b,b∈l.filterMap (·.frame)->b∈S/\b∉ex)->h.FunFrames base l->h'.FunFrames base l
 | [],_,_=>trivial
 | env::r,hS,⟨hk,⟨L,o,hf,hn,ho,hd⟩,hr⟩=>by
  have hL:=hS L (by rw[List.filterMap_cons,hf];exact List.mem_cons_self)
  obtain ⟨sl,e⟩:=a.slot L o hL.2 hL.1 ho
  exact ⟨hk,⟨L,_,hf,hn,e,hd⟩,Kept.frames a (fun b hb=>hS b (by rw[List.filterMap_cons,hf];exact List.mem_cons_of_mem _ hb)) hr⟩
section
variable {M:Model} {A:Around} {E:Value->Shared->Prop} {s:Shared} {base:Heap} {env:Env} {outer:List Env} {L e C:Addr} {dO:Option Addr}
theorem eu {S:List Env} {b:Addr} {o:Obj} {vs:Array Value} (hl:s.heap.FunFrames base S) (hb:s.heap.get? b=some o) (hd:o.data= .fields vs):b∉S.filterMap (·.frame):=fun z=>by
 obtain ⟨_,o',e',n⟩:=hl.mem z
 rw[hb]at e'
 cases e'
 exact n vs hd
theorem sf {oe:Obj} {vs:Array Value} {head:Value} {Em:Bool} {Q:Unit->Shared->Prop} (pL:A.frames=some (env::outer)) (hl:s.heap.FunFrames base (env::outer)) (hf:env.frame=some L)
  (he:s.heap.get? e=some oe) (hc:oe.cls= .ref C) (Ab:oe.dict=dO) (hd:oe.data= .fields vs) (hz:1<vs.size)
  (hQ: ∀h' T,s.heap.get? T=none->Tb h' e C dO T (rawInt L)->Kept ((env::outer).filterMap (·.frame)) [e] s.heap h'->Q () { s with heap:=h' }):
  wpAny M A (do setField (.ref e) 1 (<-EntryCells.newEntry head (<-frameOf env) .none (rawInt L) .none (<-entryPlaceOf L Em))) Q E s:=by
 have ap:=eu hl he hd
 refine wpAny_bind (wpAny_frameOf_fun pL hl hf fun h1 so=>?_)
 refine wpAny_bind (wpAny_entryPlaceOf fun pl j4=>?_)
 unfold EntryCells.newEntry newFields
 refine wpAny_bind (wpAny_newObj_type ?_ (j4.sizeOk5 _ _ _ _ _))
 have e1:h1.get? e=some oe:=(so.2.1 e ap).trans he
 generalize Yh:([head, .ref L, .none,rawInt L, .none]++(if pl.isEmpty then List.replicate 6 Value.none else pl)).toArray=ts
 have t3:ts[3]? =some (rawInt L):=by rw[<-Yh];simp
 have ne:h1.objs.size≠e:=Nat.ne_of_gt (Heap.lt_size e1)
 have d2:=Obj.data_mapFields hd (·.setIfInBounds 1 (Value.ref h1.objs.size))
 have e2:=Heap.get?_push_of_some { cls:= .type "traceback",dict:=none,data:= .fields ts } e1
 refine wpAny_setField e2 hd hz ?_
 have e3:=Heap.get?_update_self (Obj.mapFields (·.setIfInBounds 1 (Value.ref h1.objs.size))) e2 (Obj.isFreed_of_fields d2)
 have other: ∀b o,b≠e->h1.get? b=some o->((h1.push { cls:= .type "traceback",dict:=none,data:= .fields ts }).update e (Obj.mapFields (·.setIfInBounds 1 (Value.ref h1.objs.size)))).get? b=some o:=fun b o hb e0=>by
  rw[Heap.get?_update_other _ _ (Ne.symm hb)]
  exact Heap.get?_push_of_some _ e0
 refine hQ _ h1.objs.size ?_ ⟨_,_,_,ts,e3,(Obj.cls_mapFields _ _).trans hc,?_,d2,by simp[hz],ne,(Heap.get?_update_other _ _ (Ne.symm ne)).trans (Heap.get?_push_size h1 rfl),rfl,t3⟩ ⟨fun b o hb hS e0=>?_,fun b o hb hS e0=>?_⟩
 ·exact Heap.get?_none_of_le (Nat.le_of_eq so.1.symm)
 ·rw[<-Ab]
  obtain ⟨oc,od,Ej,x_⟩:=oe
  cases (show Ej=_ from hd)
  rfl
 ·exact other b o (fun z=>hb (by simp[z])) ((so.2.1 b hS).trans e0)
 ·obtain ⟨sl,e4⟩:=so.2.2 b o e0
  exact ⟨sl,other b _ (fun z=>hb (by simp[z])) e4⟩
theorem yv {Q:Unit->Shared->Prop} (pL:A.frames=some (env::outer)) (hl:s.heap.FunFrames base (env::outer)) (hf:env.frame=some L) (hx:Yg s.heap e C dO)
  (hQ: ∀h' T,s.heap.get? T=none->Tb h' e C dO T (rawInt L)->Kept ((env::outer).filterMap (·.frame)) [e] s.heap h'->Q () { s with heap:=h' }):wpAny M A (noteFrame (.ref e) env) Q E s:=by
 obtain ⟨oe,vs,he,hc,Ab,hd,h1⟩:=hx
 unfold noteFrame
 simp only[hf]
 refine wpAny_bind (wpAny_field he hd h1 ?_)
 rw[if_neg (by decide)]
 exact sf pL hl hf he hc Ab hd (Array.getElem?_eq_some_iff.mp h1).1 hQ
theorem yw {T0:Addr} {Q:Unit->Shared->Prop} (pL:A.frames=some (env::outer)) (hl:s.heap.FunFrames base (env::outer)) (hf:env.frame=some L) (hx:Tb s.heap e C dO T0 .none)
  (hQ: ∀h' T,s.heap.get? T=none->Tb h' e C dO T (rawInt L)->Kept ((env::outer).filterMap (·.frame)) [T0,e] s.heap h'->Q () { s with heap:=h' }):wpAny M A (noteFrame (.ref e) env) Q E s:=by
 obtain ⟨oe,vs,oT,ts,he,hc,Ab,hd,h1,ne,hT,ua,h3⟩:=hx
 unfold noteFrame
 simp only[hf]
 refine wpAny_bind (wpAny_field he hd h1 ?_)
 rw[if_pos (by simp)]
 refine wpAny_bind (wpAny_field hT ua h3 ?_)
 rw[if_neg (by simp[rawInt])]
 refine wpAny_bind (wpAny_setField hT ua (Array.getElem?_eq_some_iff.mp h3).1 ?_)
 have P7:=eu hl hT ua
 have k1:Kept ((env::outer).filterMap (·.frame)) [T0] s.heap (s.heap.update T0 (Obj.mapFields (·.setIfInBounds 3 Value.none))):=
  ⟨fun b o hb _ e0=>(Heap.get?_update_other _ _ (fun z=>hb (by simp[z]))).trans e0,fun b o hb _ e0=>⟨o.slots,(Heap.get?_update_other _ _ (fun z=>hb (by simp[z]))).trans e0⟩⟩
 refine sf (s:={ s with heap:=s.heap.update T0 (Obj.mapFields (·.setIfInBounds 3 Value.none)) }) pL (k1.frames (fun b hb=>⟨hb,fun z=>P7 ((List.mem_singleton.mp z)▸hb)⟩) hl) hf
  (k1.keep e oe (fun z=>ne (List.mem_singleton.mp z).symm) (eu hl he hd) he) hc Ab hd (Array.getElem?_eq_some_iff.mp h1).1 fun h' T hn tb k2=>hQ h' T ?_ tb (k1.trans k2)
 cases hq:s.heap.get? T with
 | none=>rfl
 | some o=>
  exfalso
  by_cases z:T=T0
  ·rw[z,Heap.get?_update_self _ hT (Obj.isFreed_of_fields (Obj.data_mapFields ua _))]at hn
   cases hn
  ·rw[Heap.get?_update_other _ _ (Ne.symm z),hq]at hn
   cases hn
theorem lJ {S:List Addr} {T:Addr} {fl:Value} {Q:Unit->Shared->Prop} (hx:Tb s.heap e C dO T fl) (hQ: ∀h',Tb h' e C dO T .none->Kept S [T] s.heap h'->Q () { s with heap:=h' }):wpAny M A (setFlight (.ref e) none) Q E s:=by
 obtain ⟨oe,vs,oT,ts,he,hc,Ab,hd,h1,ne,hT,ua,h3⟩:=hx
 unfold setFlight
 refine wpAny_bind (wpAny_field he hd h1 ?_)
 rw[if_pos (by simp)]
 have hsz:3<ts.size:=(Array.getElem?_eq_some_iff.mp h3).1
 have d2:=Obj.data_mapFields ua (·.setIfInBounds 3 ((none:Option Addr).elim Value.none fun f=>rawInt f))
 refine wpAny_setField hT ua hsz (hQ _ ⟨oe,vs,_,_,(Heap.get?_update_other _ _ ne).trans he,hc,Ab,hd,h1,ne,Heap.get?_update_self _ hT (Obj.isFreed_of_fields d2),d2,by simp[hsz]⟩
  ⟨fun b o hb _ e0=>(Heap.get?_update_other _ _ (fun z=>hb (by simp[z]))).trans e0,fun b o hb _ e0=>⟨o.slots,(Heap.get?_update_other _ _ (fun z=>hb (by simp[z]))).trans e0⟩⟩)
end
end XL
set_option maxHeartbeats 4000000
namespace L2
open PySem PySem.Spec PyProof.Rows XL
noncomputable def dv (nw:Bool) (e C:Addr) (dO:Option Addr):HO:= .ext fun h=> ∃oe vs,h.get? e=some oe/\oe.cls= .ref C/\oe.dict=dO/\oe.data= .fields vs/\(nw=true->vs[1]? =some .none/\ ∃t0,vs[0]? =some (.ref t0))
noncomputable def wZ (d:Addr) (fs:List (Str×V)):HO:= .ext fun h=> ∃mA,h.Ns1 d mA/\(∀f,ip (fs.lookup f) (mA f))/\PySem.Within mA (fs.map (·.1))
noncomputable def v7 (H:Hp) (e:Addr):Hp:=fun b=>if b=e then none else H b
theorem i6 {H:Hp} {e:Addr}:v7 H e e=none:=by unfold v7;rw[if_pos rfl]
theorem i7 {H:Hp} {e b:Addr} (h:b≠e):v7 H e b=H b:=by unfold v7;rw[if_neg h]
theorem dz {H:Hp} {e b:Addr} (h:H b=none):v7 H e b=none:=by
 unfold v7
 split
 ·rfl
 ·exact h
section
variable {P:Program} {w:World} {H H' H1 H2:Hp} {h h' h0 h1 h2:Heap} {a e:Addr} {o:HO} {fs ex S:List Addr}
theorem bI.Gs (x:bI P w H h a o): ∃ob,h.get? a=some ob:=by
 cases o with
 | lst xs=>obtain ⟨_,_,_,_,q⟩:=x;exact ⟨_,q⟩
 | tup xs=>obtain ⟨_,_,_,ob,q,_⟩:=x;exact ⟨ob,q⟩
 | dK kvs=>obtain ⟨_,_,_,_,ob,_,_,q,_⟩:=x;exact ⟨ob,q⟩
 | dT kvs=>obtain ⟨_,_,_,_,ob,_,_,q,_⟩:=x;exact ⟨ob,q⟩
 | set S n=>obtain ⟨ob,_,_,_,q,_⟩:=x;exact ⟨ob,q⟩
 | ins C dx fs=>obtain ⟨_,_,_,q,_⟩:=x;exact ⟨_,q⟩
 | own y=>exact x
 | xd fs=>obtain ⟨_,⟨ob,_,_,q,_⟩,_⟩:=x;exact ⟨ob,q⟩
 | N9 lo hi=>obtain ⟨_,_,_,q⟩:=x;exact ⟨_,q⟩
 | wc ob u=>obtain ⟨q,_⟩:=x;exact ⟨ob,q⟩
 | FT ps=>exact ⟨_,(show h.get? a=some _ from x)⟩
 | met f y=>exact ⟨_,(show h.get? a=some _ from x)⟩
 | ext φ=>obtain ⟨_,q,_⟩:=x;exact q
theorem iq.none_of (ok:iq P w H h) (q:h.get? a=none):H a=none:=by
 cases e:H a with
 | none=>rfl
 | some u=>
  obtain ⟨ob,z⟩:=(ok a u e).Gs
  rw[q]at z;cases z
theorem BP (u:Un fs ex H H1 h h1) (he: ∃φ,H1 e=some (.ext φ)):Un fs ex H (v7 H1 e) h h1:=by
 obtain ⟨φ,he⟩:=he
 have ne: ∀{b o},H1 b=some o->(∀ψ,o≠ .ext ψ)->b≠e:=fun {b o} q n z=>by
  rw[z,he]at q
  exact n φ (Option.some.inj q).symm
 refine ⟨u.keep,u.slot,fun b o q n hx=>dz (u.free b o q n hx),u.there,fun b xs q=>?_,fun b ob v q=>?_,fun b ps q=>?_⟩
 ·have z:=u.jQ b xs q
  rw[i7 (ne z (fun _ z=>by cases z))];exact z
 ·have z:=u.jE b ob v q
  rw[i7 (ne z (fun _ z=>by cases z))];exact z
 ·obtain ⟨more,z⟩:=u.j6 b ps q
  exact ⟨more,by rw[i7 (ne z (fun _ z=>by cases z))];exact z⟩
theorem yx (ok:iq P w H h) (he: ∃φ,H e=some (.ext φ)):iq P w (v7 H e) h:=fun b u q=>by
 obtain ⟨φ,he⟩:=he
 have hb:b≠e:=fun z=>by rw[z,i6]at q;cases q
 rw[i7 hb]at q
 refine (ok b u q).mF (fun _ _ _ z=>z) (fun c z=>?_) fun c xs z=>?_
 ·rw[i7 (fun y=>by rw[y,he]at z;cases z)];exact z
 ·rw[i7 (fun y=>by rw[y,he]at z;cases z)];exact z
theorem si {outer:List Env} {env:Env} {L:Addr} (u:Un (jF outer) [] H H2 h0 h2) (k:Kept ((env::outer).filterMap (·.frame)) ex h2 h') (hx: ∀b∈ex,h0.get? b=none) (hf:env.frame=some L) (hL:h0.get? L=none):Un (jF outer) [] H H2 h0 h':=by
 have Oy: ∀{b o},h0.get? b=some o->b∉ex:=fun {b o} q z=>by rw[hx b z]at q;cases q
 have P8: ∀{b},b∈jF outer->b∈(env::outer).filterMap (·.frame):=fun {b} z=>by rw[List.filterMap_cons,hf];exact List.mem_cons_of_mem _ z
 have En: ∀{b o},h0.get? b=some o->b∉jF outer->b∉(env::outer).filterMap (·.frame):=fun {b o} q n z=>by
  rw[List.filterMap_cons,hf]at z
  rcases List.mem_cons.mp z with z | z
  ·rw[z,hL]at q;cases q
  ·exact n z
 refine ⟨fun b o q n hb _=>k.keep b o (Oy q) (En q hb) (u.keep b o q n hb (by simp)),fun b o q n hb _=>?_,u.free,fun b o q _=>?_,u.jQ,u.jE,u.j6⟩
 ·obtain ⟨sl,z⟩:=u.slot b o q n hb (by simp)
  obtain ⟨zJ,z2⟩:=k.slot b _ (Oy q) (P8 hb) z
  exact ⟨zJ,z2⟩
 ·obtain ⟨o',z⟩:=u.there b o q (by simp)
  by_cases hb:b∈jF outer
  ·obtain ⟨zJ,z2⟩:=k.slot b _ (Oy q) (P8 hb) z
   exact ⟨_,z2⟩
  ·exact ⟨o',k.keep b o' (Oy q) (En q hb) z⟩
theorem kr (ok:iq P w H h) (k:Kept S ex h h') (hS: ∀b∈S,H b=none) (hx: ∀b∈ex,H b=none):iq P w H h':=fun b u q=>by
 have tr: ∀{c o},H c=some o->c∉S/\c∉ex:=fun {c o} z=>⟨fun y=>(by rw[hS c y]at z;cases z),fun y=>(by rw[hx c y]at z;cases z)⟩
 refine (ok b u q).mF (fun c v hc z=>?_) (fun _ z=>z) fun _ _ z=>z
 rcases hc with y | y
 ·rw[y]at z ⊢; exact k.keep b v (tr q).2 (tr q).1 z
 ·exact k.keep c v (tr y).2 (tr y).1 z
theorem m7 {nw:Bool} {C:Addr} {dO:Option Addr} (q: ∃oe vs,h.get? e=some oe/\oe.cls= .ref C/\oe.dict=dO/\oe.data= .fields vs/\(nw=true->vs[1]? =some .none/\ ∃t0,vs[0]? =some (.ref t0))):bI P w H h e (dv nw e C dO):=
 ⟨q,let ⟨oe,_,z,_⟩:=q;⟨oe,z⟩,fun h1 h2 ⟨oe,vs,z,r⟩ k=>⟨oe,vs,k oe z,r⟩⟩
theorem eA {nw:Bool} {C:Addr} {dO:Option Addr} (ok:iq P w H h) (q:H e=some (dv nw e C dO)): ∃oe vs,h.get? e=some oe/\oe.cls= .ref C/\oe.dict=dO/\oe.data= .fields vs/\(nw=true->vs[1]? =some .none/\ ∃t0,vs[0]? =some (.ref t0)):=(ok e _ q).1
theorem BQ {d:Addr} {fs:List (Str×V)} (q: ∃mA,h.Ns1 d mA/\(∀f,ip (fs.lookup f) (mA f))/\PySem.Within mA (fs.map (·.1))):bI P w H h d (wZ d fs):=
 ⟨q,let ⟨_,⟨o,_,_,z,_⟩,_⟩:=q;⟨o,z⟩,fun h1 h2 ⟨mA,⟨o,es,ep,z,r⟩,r2⟩ k=>⟨mA,⟨o,es,ep,k o z,r⟩,r2⟩⟩
end
noncomputable def yy (P:Program) (w:World) (K:PySem.W.Frag):wB:=fun outer H s E ev s'=> ∃(e C:Addr) (dO:Option Addr) (T:Addr) (H':Hp),ev= .ref e/\XC K C/\s'.os=s.os/\AllBare s'.gens/\Un (jF outer) [] H H' s.heap s'.heap/\iq P w H' s'.heap/\
 s.heap.get? e=none/\s.heap.get? T=none/\H' e=none/\H' T=none/\Tb s'.heap e C dO T .none/\E (.ref C) dO H'
noncomputable def Throws (X:Cx) (E:St->XK):Prop:= ∀(pins:List (Addr×Obj)) (σ:St) (H:Hp) (s:Shared) (e C:Addr) (dO:Option Addr),Inv X pins σ H s->H e=some (dv true e C dO)->X.H₀ e=none->XC X.K C->E σ (.ref C) dO (v7 H e)->X.xe (.ref e) s
noncomputable def jq (CX:wB) (X:Cx) (E:St->XK):Prop:= ∀(pins:List (Addr×Obj)) (σ:St) (H:Hp) (s:Shared) (e:Value) (s':Shared),Inv X pins σ H s->CX X.stack H s (E σ) e s'->X.xe e s'
section
variable {P:Program} {w:World} {K:PySem.W.Frag} {mg:Str->Option Value} {base:Heap} {N:List Str} {qual:Str} {scope:Scope} {f:Addr} {cd:Value} {A:Around} {outer:List Env} {s:Shared} {H:Hp} {E:XK}
theorem IJ:Throws (pQ (yy P w K) P w K mg base N qual scope f cd A outer s H E) (fun _=>E):=by
 intro pins σ H1 s1 e C dO I he hn c q
 obtain ⟨oe,vs,x1,x2,x3,x4,x5⟩:=eA I.a_ he
 have e0:s.heap.get? e=none:=by
  cases z:s.heap.get? e with
  | none=>rfl
  | some o=>
   have:=I.base.free e o z hn (by show e∉([]:List Addr);simp)
   rw[he]at this;cases this
 show wpAny _ _ (leaving _ (.ref e)) _ _ s1
 unfold leaving
 refine wpAny_bind (yv (base:=base) (L:=s.heap.objs.size) I.ok.frames I.stack rfl ⟨oe,vs,x1,x2,x3,x4,(x5 rfl).1⟩ fun h1 T hT tb k1=>?_)
 refine lJ (S:=(envOfC qual scope s.heap.objs.size f cd::outer).filterMap (·.frame)) tb fun h2 BR k2=>?_
 have T0:s.heap.get? T=none:=by
  cases z:s.heap.get? T with
  | none=>rfl
  | some o=>
   obtain ⟨o',z'⟩:=I.base.there T o z (by show T∉([]:List Addr);simp)
   rw[hT]at z';cases z'
 have nT:H1 T=none:=I.a_.none_of hT
 refine ⟨e,C,dO,T,v7 H1 e,rfl,c,I.os,I.bare,si (BP I.base ⟨_,he⟩) (k1.trans k2) (fun b hb=>?_) rfl (Heap.get?_none_of_le (Nat.le_refl _)),kr (yx I.a_ ⟨_,he⟩) (k1.trans k2) (fun b hb=>dz (I.jk b hb)) (fun b hb=>?_),e0,T0,i6,dz nT,BR,q⟩
 ·simp only[List.cons_append,List.nil_append,List.mem_cons,List.not_mem_nil,or_false]at hb
  rcases hb with z | z<;>rw[z]<;>assumption
 ·simp only[List.cons_append,List.nil_append,List.mem_cons,List.not_mem_nil,or_false]at hb
  rcases hb with z | z<;>rw[z]
  ·exact i6
  ·exact dz nT
theorem Me:jq (yy P w K) (pQ (yy P w K) P w K mg base N qual scope f cd A outer s H E) (fun _=>E):=by
 intro pins σ H1 s1 ev s2 I h
 obtain ⟨e,C,dO,T0,H2,rfl,c,os,bare,un,a_,n1,n2,n3,n4,Eo,q⟩:=h
 have I2:=I.xU os un a_ bare (fun b z=>absurd z (by simp))
 have old: ∀{b},s1.heap.get? b=none->s.heap.get? b=none:=fun {b} y=>by
  cases z:s.heap.get? b with
  | none=>rfl
  | some o=>
   obtain ⟨o',z'⟩:=I.base.there b o z (by show b∉([]:List Addr);simp)
   rw[y]at z';cases z'
 show wpAny _ _ (leaving _ (.ref e)) _ _ s2
 unfold leaving
 refine wpAny_bind (yw (base:=base) (L:=s.heap.objs.size) I2.ok.frames I2.stack rfl Eo fun h1 T hT tb k1=>?_)
 refine lJ (S:=(envOfC qual scope s.heap.objs.size f cd::outer).filterMap (·.frame)) tb fun h2 BR k2=>?_
 have oT:s.heap.get? T=none:=by
  cases z:s.heap.get? T with
  | none=>rfl
  | some o=>
   obtain ⟨o',z'⟩:=I2.base.there T o z (by show T∉([]:List Addr);simp)
   rw[hT]at z';cases z'
 have nT:H2 T=none:=I2.a_.none_of hT
 refine ⟨e,C,dO,T,H2,rfl,c,I2.os,I2.bare,si I2.base (k1.trans k2) (fun b hb=>?_) rfl (Heap.get?_none_of_le (Nat.le_refl _)),kr I2.a_ (k1.trans k2) (fun b hb=>I2.jk b hb) (fun b hb=>?_),old n1,oT,n3,nT,BR,q⟩
 ·simp only[List.cons_append,List.nil_append,List.mem_cons,List.not_mem_nil,or_false]at hb
  rcases hb with z | z | z<;>rw[z]
  ·exact old n2
  ·exact old n1
  ·exact oT
 ·simp only[List.cons_append,List.nil_append,List.mem_cons,List.not_mem_nil,or_false]at hb
  rcases hb with z | z | z<;>rw[z]<;>assumption
end
end L2
set_option maxHeartbeats 4000000
namespace L2
open PySem PySem.Spec PyProof.Rows XL
theorem IK {H:Hp} {a:Addr} {o:HO} (h:H a=some o):upd H a o=H:=by
 funext b
 unfold upd
 split
 ·rename_i z;rw[z,h]
 ·rfl
section
variable {X:Cx} {pins:List (Addr×Obj)} {σ:St} {H:Hp} {s:Shared} {a:Addr} {o:HO}
theorem Inv.Gu (I:Inv X pins σ H s) (hn:H a=none) (h0:X.s₀.heap.get? a=none) (hL:a≠X.env.locals) (hc: ∀x c,X.env.cells.lookup x=some c->c≠a) (hp: ∀p∈X.pn++pins,p.1≠a) (new:bI X.prog X.w (upd H a o) s.heap a o):
  Inv X pins σ (upd H a o) s:=by
 refine ⟨I.ok,I.os,I.bare,⟨I.base.keep,I.base.slot,fun b ob q n hx=>?_,I.base.there,fun b xs q=>?_,fun b ob u q=>?_,fun b ps q=>?_⟩,I.loc,I.cell,?_,fun x c q=>?_,fun p VJ=>?_,fun b u q=>?_,I.len⟩
 ·rw[aA (fun z=>by rw[z,h0]at q;cases q)];exact I.base.free b ob q n hx
 ·have z:=I.base.jQ b xs q
  rw[aA (aC z hn)];exact z
 ·have z:=I.base.jE b ob u q
  rw[aA (aC z hn)];exact z
 ·obtain ⟨more,z⟩:=I.base.j6 b ps q
  exact ⟨more,by rw[aA (aC z hn)];exact z⟩
 ·rw[aA (Ne.symm hL)];exact I.free
 ·rw[aA (hc x c q)];exact I.cO x c q
 ·obtain ⟨z1,z2,z3⟩:=I.pin p VJ
  exact ⟨z1,by rw[aA (hp p VJ)];exact z2,z3⟩
 ·by_cases hb:b=a
  ·subst hb;rw[ag]at q;cases q;exact new
  ·rw[aA hb]at q
   exact (I.a_ b u q).mF (fun _ _ _ z=>z) (fun c z=>by rw[aA (aC z hn)];exact z) fun c xs z=>by rw[aA (aC z hn)];exact z
theorem Inv.Ep (I:Inv X pins σ H s) (he: ∃φ,H a=some (.ext φ)):Inv X pins σ (v7 H a) s:=
 ⟨I.ok,I.os,I.bare,BP I.base he,I.loc,I.cell,dz I.free,fun x c q=>dz (I.cO x c q),fun p hp=>let ⟨z1,z2,z3⟩:=I.pin p hp;⟨z1,dz z2,z3⟩,yx I.a_ he,I.len⟩
theorem Inv.uM {ex:List Addr} {h':Heap} (I:Inv X pins σ H s) (k:Kept (jF X.stack) ex s.heap h') (hx: ∀b∈ex,X.s₀.heap.get? b=none/\(∀o,s.heap.get? b=some o-> ∃vs,o.data= .fields vs)/\(∀p∈X.pn++pins,p.1≠b)/\H b=none):Inv X pins σ H { s with heap:=h' }:=by
 have nL:X.env.locals∉ex:=fun z=>by
  obtain ⟨m,⟨ol,es,ep,q,qd,_⟩,_⟩:=I.loc
  obtain ⟨vs,e⟩:=(hx _ z).2.1 ol q
  rw[qd]at e;cases e
 have any: ∀{b ob},b∉ex->s.heap.get? b=some ob-> ∃sl,h'.get? b=some { ob with slots:=sl }:=fun {b ob} n q=>by
  by_cases hb:b∈jF X.stack
  ·exact k.slot b ob n hb q
  ·exact ⟨ob.slots,k.keep b ob n hb q⟩
 have nc: ∀{x c},X.env.cells.lookup x=some c->c∉ex:=fun {x c} e z=>by
  obtain ⟨v,oc,q,qd⟩:=I.cell x c e
  obtain ⟨vs,e'⟩:=(hx _ z).2.1 oc q
  rw[qd]at e';cases e'
 have P9: ∀{b ob},X.s₀.heap.get? b=some ob->b∉ex:=fun {b ob} q z=>by rw[(hx b z).1]at q;cases q
 have P8: ∀{b},b∈X.fs->b∈jF X.stack:=fun {b} hb=>by
  rcases I.ok.C4 with e | ⟨e,hf⟩
  ·rw[e];exact hb
  ·rw[e];unfold jF;rw[List.filterMap_cons,hf];exact List.mem_cons_of_mem _ hb
 have En: ∀{b ob},X.s₀.heap.get? b=some ob->b∉X.fs->b∉jF X.stack:=fun {b ob} q n z=>by
  rcases List.mem_cons.mp (I.ir b z) with y | y
  ·exact absurd (Nat.lt_of_lt_of_le (Heap.lt_size q) I.ok.above) (by rw[y];exact Nat.lt_irrefl _)
  ·exact n y
 refine ⟨I.ok,I.os,I.bare,⟨fun b ob q n hb BS=>k.keep b ob (P9 q) (En q hb) (I.base.keep b ob q n hb BS),fun b ob q n hb BS=>?_,I.base.free,fun b ob q BS=>?_,I.base.jQ,I.base.jE,I.base.j6⟩,?_,fun x c e=>?_,I.free,I.cO,fun p hp=>?_,?_,I.len⟩
 ·obtain ⟨sl,z⟩:=I.base.slot b ob q n hb BS
  obtain ⟨zJ,z2⟩:=any (P9 q) z
  exact ⟨zJ,z2⟩
 ·obtain ⟨o',z⟩:=I.base.there b ob q BS
  obtain ⟨zJ,z2⟩:=any (P9 q) z
  exact ⟨_,z2⟩
 ·obtain ⟨m,⟨ol,es,ep,q,qd,qr⟩,hl⟩:=I.loc
  obtain ⟨sl,z⟩:=any nL q
  refine ⟨m,⟨_,es,ep,z,qd,qr⟩,fun i x v e1 e2 e3=>?_⟩
  obtain ⟨u,r,l⟩:=hl i x v e1 e2 e3
  refine ⟨u,r,?_⟩
  rcases l with l | ⟨kk,c,e,oc,q2,q3⟩
  ·exact .inl l
  ·obtain ⟨zJ,z2⟩:=any (nc e) q2
   exact .inr ⟨kk,c,e,_,z2,q3⟩
 ·obtain ⟨v,oc,q,qd⟩:=I.cell x c e
  obtain ⟨sl,z⟩:=any (nc e) q
  exact ⟨v,_,z,qd⟩
 ·obtain ⟨z1,z2,z3,z4,z5⟩:=I.pin p hp
  refine ⟨k.keep p.1 p.2 (fun y=>(hx p.1 y).2.2.1 p hp rfl) (fun y=>?_) z1,z2,z3,z4,z5⟩
  rcases List.mem_cons.mp (I.ir p.1 y) with q | q
  ·exact z3 q
  ·exact z4 q
 ·exact kr I.a_ k (fun b hb=>I.jk b hb) fun b hb=>(hx b hb).2.2.2
end
noncomputable def IL (sp:Sp) (wC:List V) (E:St->XK) (t:TA):TE:=fun σ H Q=>t σ H fun vs H1=>sp (vs++wC) H1 Q (E σ)
section
variable {X:Cx} {CX:wB} {k:Nat} {f C:Addr} {fd:FuncData} {ps:List Str} {sp:Sp} {wC:List V} {ds:List Value} {E:St->XK} {x:Str} {p pos:Pos} {e:Expr} {es:List Expr} {ta te:TE} {t:TA}
theorem om (F:bE X.prog X.w X.K X.mg X.base CX k f fd ps sp) (hr:eh k X.A) (hg:Gl X x) (hm:X.mg x=some (.ref f)) (hk:PySem.W.keepIn X.K (.ref f)=true) (hb:Binds X.K fd ps ds) (hd:Vals wC ds) (hx:jq CX X E)
  (ha:PA X (e::es) t) (vZ:(x==("__debug__":Str))=false:=by decide) (he:starEach (e::es) X.env=(false,eval e X.env)::starEach es X.env:=by rfl) (j4:(backTo pos (starEach es X.env)).any (·.1)=false:=by rfl):
  PE X (.Call (.Name x p) (e::es) [] pos) (IL sp wC E t):=by
 intro pins s σ H Q I h
 refine wpAny_Call_Name_kw (jl I hg hm ?_ vZ)
 refine PySem.W.callWith_K (h₀:=X.base) I.ok.mod.KO hk (aS (ha pos pins s σ H _ I h) fun us s1 ⟨vs,H1,I1,r,q⟩=>⟨I1.iU,?_⟩) he j4
 have r2:Vals (vs++wC) (us++ds):=r.append hd
 have hl:(us++ds).length=ps.length:=by rw[<-r2.length];exact F.len _ _ _ _ q
 refine wpAny_call (codeAny_mono (F.run X.A X.stack s1 H1 ⟨us,[]⟩ (us++ds) (vs++wC) Q (E σ) hr I1.HF (hb s1 us I1.iU hl) r2 q) fun rr s' hq=>?_)
 cases rr with
 | error ev=>exact hx pins σ H1 s1 ev s' I1 hq
 | ok fl=>
  cases fl with
  | ret u=>exact I1.after hq
  | next=>exact False.elim hq
  | brk=>exact False.elim hq
  | cont=>exact False.elim hq
noncomputable def BU (K:PySem.W.Frag) (H0:Hp) (E:St->XK) (te:TE):TS:=fun _ σ H=>te σ H fun v H1=> ∃e C dO,v= .ref e/\H1 e=some (dv true e C dO)/\H0 e=none/\XC K C/\E σ (.ref C) dO (v7 H1 e)
theorem BV (hh:X.A.handled=none) (th:Throws X E) (hx:PE X e te):PS X (.Raise (some e) none pos) (BU X.K X.H₀ E te):=by
 intro pins s σ H D I h
 rw[arm_exec_Raise]
 refine wpAny_bind (wpAny_standAt ?_)
 refine x_raise (K:=X.K) hh ?_
 refine wpAny_bind (aS (hx pins s σ H _ I h) fun u s1 ⟨v,H1,I1,r,e1,C,dO,ev,he,h0,c,q⟩=>wpAny_bind (wpAny_standAt (wpAny_pure ?_)))
 subst ev
 obtain rfl:u=Value.ref e1:=r
 obtain ⟨oe,vs,x1,x2,x3,x4,x5⟩:=eA I1.a_ he
 exact ⟨e1,C,oe,vs,rfl,I1.iU,c,x1,x2,x4,(x5 rfl).1,th pins σ H1 s1 e1 C dO I1 he h0 c q⟩
end
section
variable {P:Program} {w:World} {K:PySem.W.Frag} {mg:Str->Option Value} {base:Heap}
theorem DR.VL {x qual:Str} {st:Stmt} {f:Addr} {fd:FuncData} {N ps:List Str} {k:Nat} {sp:Sp} (F:DR K x qual st f fd) (S:aQ N ps (au st)) (len: ∀vs H Q E,sp vs H Q E->vs.length=ps.length)
  (uo: ∀(cN:Value) (A:Around) (outer:List Env) (s:Shared) (H:Hp) (vs:List V) (Q:VK) (E:XK),eh k (A.deeper (envOfC qual (au st) s.heap.objs.size f cN))->sp vs H Q E->
   ∃t,rH (pQ (yy P w K) P w K mg base N qual (au st) f cN A outer s H E) (aP st) t/\t { nx:=fun _ H'=>Q .cT H',rt:=Q } (start N vs) H):bE P w K mg base (yy P w K) (k+1) f fd ps sp:=by
 obtain ⟨oc,od,kV,doc,pm,an,cN,ct,x_,rfl,lk,t_⟩:=F.ex
 exact Gd lk t_ S len fun A outer s H vs Q E hr C8=>uo cN A outer s H vs Q E hr C8
end
end L2
set_option maxHeartbeats 4000000
namespace L2
open PySem PySem.Spec PyProof.Rows XL
structure Gv (K:PySem.W.Frag) (C f:Addr):Prop where
 c:XC K C
 init:PySem.W.findIn K (.ref C) "__init__"=some (some (.ref f))
 fn:PySem.W.isFn K (.ref f)=true
structure Gw (K:PySem.W.Frag) (M:Addr):Prop where
 rd:PySem.W.readsIn K M (.type "type")=true
 ga:PySem.W.specialIn K (.ref M) "__getattribute__"=some (some (.builtin "type.__getattribute__"))
 fi:PySem.W.findCls K (.ref M) (.type "type") "__init__"=some (.val (.builtin "ValueError.__init__"))
noncomputable def IM (C:Addr) (sp:Sp) (t:TA):TE:=fun σ H Q=>t σ H fun vs H1=>vs.length<=sizeLine/\ ∀e,H1 e=none->sp (.ref e::vs) (upd H1 e (dv true e C none)) (fun v H2=>v= .cT/\Q (.ref e) H2) E0
section
variable {X:Cx} {k:Nat} {f C M:Addr} {fd:FuncData} {ps:List Str} {sp:Sp} {x:Str} {p pos apos:Pos} {e:Expr} {es:List Expr} {ta te tv:TE} {t:TA} {pins:List (Addr×Obj)} {σ:St} {H:Hp} {s:Shared}
theorem Inv.Mf {us:List Value} (I:Inv X pins σ H s):Inv X pins σ (upd H (s.heap.objs.size+1) (dv true (s.heap.objs.size+1) C none)) { s with heap:=(s.heap.push { cls:= .type "tuple",data:= .seq us.toArray }).push (gD C s.heap.objs.size) }:=by
 have I1:=I.kept (h':=s.heap.push { cls:= .type "tuple",data:= .seq us.toArray }) (t':=s.toks) fun b u q=>Heap.get?_push_of_some _ q
 refine I1.laid (a:=s.heap.objs.size+1) (t':=s.toks) (fun b u q=>Heap.get?_push_of_some _ q) (Nat.le_of_eq (Heap.size_push _ _)) (m7 ?_)
 have g:((s.heap.push { cls:= .type "tuple",data:= .seq us.toArray }).push (gD C s.heap.objs.size)).get? (s.heap.objs.size+1)=some (gD C s.heap.objs.size):=by
  have:=Heap.get?_push_size (s.heap.push { cls:= .type "tuple",data:= .seq us.toArray }) (o:=gD C s.heap.objs.size) rfl
  rwa [Heap.size_push]at this
 exact ⟨_,_,g,rfl,rfl,rfl,fun _=>⟨rfl,_,rfl⟩⟩
theorem BW (M:Gv X.K C f) (F:bE X.prog X.w X.K X.mg X.base eK k f fd ps sp) (hr:eh (k+1) X.A) (hg:Gl X x) (hm:X.mg x=some (.ref C)) (hb:Binds X.K fd ps [])
  (ha:PA X (e::es) t) (vZ:(x==("__debug__":Str))=false:=by decide) (he:starEach (e::es) X.env=(false,eval e X.env)::starEach es X.env:=by rfl) (j4:(backTo pos (starEach es X.env)).any (·.1)=false:=by rfl):
  PE X (.Call (.Name x p) (e::es) [] pos) (IM C sp t):=by
 intro pins s σ H Q I h
 refine wpAny_Call_Name_kw (jl I hg hm ?_ vZ)
 refine PySem.W.callWith_K (h₀:=X.base) I.ok.mod.KO M.c.kp (aS (ha pos pins s σ H _ I h) fun us s1 ⟨vs,H1,I1,r,hz,q⟩=>⟨I1.iU,?_⟩) he j4
 have I2:=Inv.Mf (C:=C) (us:=us) I1
 have hq:=q (s1.heap.objs.size+1) (I1.a_.fresh (Nat.le_succ _))
 have r2:Vals (V.ref (s1.heap.objs.size+1)::vs) (Value.ref (s1.heap.objs.size+1)::us):= .cons rfl r
 have hl:(Value.ref (s1.heap.objs.size+1)::us++[]).length=ps.length:=by
  have z:=r2.length
  rw[F.len _ _ _ _ hq]at z
  rw[List.append_nil]
  exact z.symm
 have Oi:=hb { s1 with heap:=(s1.heap.push { cls:= .type "tuple",data:= .seq us.toArray }).push (gD C s1.heap.objs.size) } (Value.ref (s1.heap.objs.size+1)::us) I2.iU hl
 rw[List.append_nil]at Oi
 have run:=F.run _ X.stack _ _ ⟨Value.ref (s1.heap.objs.size+1)::us,[]⟩ (Value.ref (s1.heap.objs.size+1)::us) _ _ E0 (hr.make C us []) (I2.HF.make C us []) Oi r2 hq
 have K1:=I1.iU
 have fn:=beq_iff_eq.mp M.fn
 obtain ⟨hh,gg,dd,tt,oo⟩:=s1
 refine x_call (gs K1 M.c.is) (PySem.W.looks_findIn K1 M.init) (fun self=>PySem.W.bind_fn K1 self fn) (by show us.length<=sizeLine;rw[<-r.length];exact hz) ?_
 refine wpAny_call (codeAny_mono run fun rr s' Mi=>?_)
 cases rr with
 | error ev=>exact Mi.elim
 | ok fl=>
  cases fl with
  | ret u=>
   obtain ⟨v,H',I3,rv,ev,q3⟩:=I2.after Mi
   subst ev
   exact ⟨rv,⟨V.ref (hh.objs.size+1),H',I3,rfl,q3⟩⟩
  | next=>exact False.elim Mi
  | brk=>exact False.elim Mi
  | cont=>exact False.elim Mi
theorem Inv.Mj {ec:Addr} {dO:Option Addr} {us:List Value} (I:Inv X pins σ H s) (he:H ec=some (dv true ec C dO)):Inv X pins σ H { s with heap:=(s.heap.push { cls:= .type "tuple",data:= .seq us.toArray }).update ec (Obj.mapFields (·.setIfInBounds 0 (.ref s.heap.objs.size))) }:=by
 obtain ⟨oe,vs,x1,x2,x3,x4,x5⟩:=eA I.a_ he
 obtain ⟨y1,t0,y2⟩:=x5 rfl
 have I1:=I.kept (h':=s.heap.push { cls:= .type "tuple",data:= .seq us.toArray }) (t':=s.toks) fun b u q=>Heap.get?_push_of_some _ q
 have d2:=Obj.data_mapFields x4 (·.setIfInBounds 0 (Value.ref s.heap.objs.size))
 have g:=Heap.get?_update_self (Obj.mapFields (·.setIfInBounds 0 (Value.ref s.heap.objs.size))) (Heap.get?_push_of_some { cls:= .type "tuple",data:= .seq us.toArray } x1) (Obj.isFreed_of_fields d2)
 have hz:0<vs.size:=(Array.getElem?_eq_some_iff.mp y2).1
 have:=I1.write (x:=ec) (e:=ec) (o:=dv true ec C dO) (t':=s.toks) (h':=(s.heap.push { cls:= .type "tuple",data:= .seq us.toArray }).update ec (Obj.mapFields (·.setIfInBounds 0 (.ref s.heap.objs.size)))) (by rw[he];exact True.intro) (.inl rfl) (fun b u hb q=>(Heap.get?_update_other _ _ (Ne.symm hb)).trans q) ⟨_,g⟩ (m7 ⟨_,_,g,(Obj.cls_mapFields _ _).trans x2,?_,d2,fun _=>⟨by rw[Array.getElem?_setIfInBounds_ne (by decide)];exact y1,s.heap.objs.size,by simp[hz]⟩⟩)
 ·rw[IK he]at this;exact this
 ·rw[<-x3]
  obtain ⟨oc,od,Ej,x_⟩:=oe
  cases (show Ej=_ from x4)
  rfl
noncomputable def IQ (K:PySem.W.Frag) (t:TA):TE:=fun σ H Q=>t σ H fun vs H1=> ∃e C dO rest,vs= .ref e::rest/\rest.length<=sizeLine/\H1 e=some (dv true e C dO)/\XC K C/\Q .cT H1
theorem BX {mx:Str} {mp:Pos} {pl:Sem Bool} (B:Gw X.K M) (hg:Gl X mx) (hm:X.mg mx=some (.ref M)) (ha:PA X (e::es) t) (vZ:(mx==("__debug__":Str))=false:=by decide)
  (he:starEach (e::es) X.env=(false,eval e X.env)::starEach es X.env:=by rfl) (j4:(backTo pos (starEach es X.env)).any (·.1)=false:=by rfl)
  (ht:eval (.Call (.Attribute (.Name mx mp) "__init__" apos) (e::es) [] pos) X.env=(do
   let ov <-eval (.Name mx mp) X.env
   standAt apos.atName
   let (f,first) <-holding [ov] (getMethod ov "__init__" pl)
   callWith pos f first (backTo pos (starEach (e::es) X.env)) (backToKw pos (keywordEach [] X.env))):=by rfl):
  PE X (.Call (.Attribute (.Name mx mp) "__init__" apos) (e::es) [] pos) (IQ X.K t):=by
 intro pins s σ H Q I h
 refine PySem.W.methodCall_KW (pl:=pl) (jl I hg hm ?_ vZ) ht
 refine PySem.W.method_cls I.iU B.ga (PySem.W.cls_value I.iU B.rd B.fi rfl ?_)
 refine PyProof.Rows.callWith_builtin1 (aS (ha pos pins _ σ H _ (I.tok _) h) fun us s1 ⟨vs,H1,I1,r,ec,C,dO,rest,ev,hz,VM,c,q⟩=>?_) he j4
 subst ev
 obtain ⟨u0,ur,rfl,r0,r1⟩: ∃u0 ur,us=u0::ur/\RelV (.ref ec) u0/\Vals rest ur:=by
  cases r with
  | cons a b=>exact ⟨_,_,rfl,a,b⟩
 obtain rfl:u0=Value.ref ec:=r0
 obtain ⟨oe,ws,x1,x2,x3,x4,x5⟩:=eA I1.a_ VM
 obtain ⟨y1,t0,y2⟩:=x5 rfl
 have I2:=I1.Mj (us:=ur) VM
 have K1:=I1.iU
 obtain ⟨hh,gg,dd,tt,oo⟩:=s1
 exact IH (gs K1 c.is) x1 x2 x4 y2 (by rw[<-r1.length];exact hz) ⟨.cT,H1,I2,rfl,q⟩
noncomputable def Ml (K:PySem.W.Frag) (ta tv:TE) (f:Str):TS:=fun D σ H=>tv σ H fun y H1=>ta σ H1 fun x H2=> ∃e C,x= .ref e/\XC K C/\wy K C f/\
 ((H2 e=some (dv true e C none)/\ ∀d,H2 d=none->d≠e->D.nx σ (upd (upd H2 e (dv true e C (some d))) d (wZ d [(f,y)])))\/
  (∃d fs,H2 e=some (dv true e C (some d))/\H2 d=some (wZ d fs)/\d≠e/\fs.length<1000/\D.nx σ (upd H2 d (wZ d (mG f y fs)))))
theorem Er {o value:Expr} {g:Str} {pos':Pos} (ha:PE X o ta) (hv:PE X value tv) (hs:swapsWith value (some (.Attribute o g pos')) pos.line X.env=pure false):PS X (.Assign [.Attribute o g pos'] value pos) (Ml X.K ta tv g):=by
 intro pins s σ H D I h
 refine plainObj_wpAny_Assign_Attribute (aS (hv pins s σ H _ I h) fun u s1 ⟨y,H1,I1,ry,q⟩=>aS (ha pins s1 σ H1 _ I1 q) fun ov s2 ⟨x,H2,I2,rx,e,C,ex,c,n,q2⟩=>?_) hs
 subst ex
 obtain rfl:ov=Value.ref e:=rx
 have K2:=I2.iU
 rcases q2 with ⟨he,q2⟩ | ⟨d,fs,he,hd,ne,hl,q2⟩
 ·obtain ⟨oe,vs,x1,x2,x3,x4,x5⟩:=eA I2.a_ he
  have nd:H2 s2.heap.objs.size=none:=I2.a_.fresh (Nat.le_refl _)
  have lt:s2.heap.objs.size≠e:=Nat.ne_of_gt (Heap.lt_size x1)
  have Fd:=Inv.lj (H':=H2) I2 (Nat.le_refl s2.heap.objs.size) nd
  have s0:X.s₀.heap.get? s2.heap.objs.size=none:=Heap.get?_none_of_le I2.sz
  have fin:=q2 _ nd lt
  have base:Inv X pins σ H2 s2:=I2
  obtain ⟨hh,gg,dd,tt,oo⟩:=s2
  refine Gr (ns:=[]) (mA:=fun _=>none) K2 (gs K2 c.is) c.sa n ⟨oe,x1,x2,(fun cc z=>by (rw[x4]at z;cases z)), .inl ⟨x3,fun _=>rfl⟩⟩ (fun h' El In kp sm=>?_) (fun _ z=>absurd rfl z) (by decide)
  obtain ⟨o1,z1,z2,z3,z4,z5,z6⟩:=sm oe x1
  have keep: ∀b u,b≠e->hh.get? b=some u->h'.get? b=some u:=fun b u hb q=>kp b u hb (fun o₀ dx e0 e1=>by (rw[x1]at e0;cases e0;rw[x3]at e1;cases e1)) q
  have J:=base.write (x:=e) (e:=e) (o:=dv true e C (some hh.objs.size)) (t':=El) (by rw[he];exact True.intro) (.inl rfl) keep ⟨o1,z1⟩ (m7 ⟨o1,vs,z1,z2.trans x2,z6 x3,z3.trans x4,x5⟩)
  obtain ⟨o2,w1,w2,w3,w4⟩:=In
  rw[z1]at w1
  cases w1
  have ns:h'.Ns1 hh.objs.size (fun y=>if y=g then some u else none):=by
   rcases w4 with ⟨b1,_⟩ | ⟨dx,b1,_,b3⟩
   ·rw[z6 x3]at b1;cases b1
   ·rw[z6 x3]at b1;cases b1;exact b3
  refine ⟨σ,_,J.Gu (a:=hh.objs.size) (o:=wZ hh.objs.size [(g,y)]) (by rw[aA lt];exact nd) s0 Fd.2.1 Fd.2.2.2.2.1 Fd.2.2.2.2.2 (BQ ⟨_,ns,fun a=>?_,fun a ha=>?_⟩),fin⟩
  ·show ip (List.lookup a [(g,y)]) (if a=g then some u else none)
   by_cases z:a=g
   ·subst z
    rw[if_pos rfl,List.lookup_cons,beq_self_eq_true]
    exact ry
   ·rw[if_neg z,List.lookup_cons,beq_eq_false_iff_ne.mpr z]
    trivial
  ·have:a=g:=by
    by_cases z:a=g
    ·exact z
    ·exact absurd (show (if a=g then some u else none)=none by rw[if_neg z]) ha
   rw[this];simp
 ·obtain ⟨oe,vs,x1,x2,x3,x4,x5⟩:=eA I2.a_ he
  obtain ⟨mA,n1,n2,n3⟩:=(I2.a_ d _ hd).1
  have base:Inv X pins σ H2 s2:=I2
  obtain ⟨hh,gg,dd,tt,oo⟩:=s2
  refine Gr (ns:=fs.map (·.1)) (mA:=mA) K2 (gs K2 c.is) c.sa n ⟨oe,x1,x2,(fun cc z=>by (rw[x4]at z;cases z)), .inr ⟨d,x3,ne,n1⟩⟩ (fun h' El In kp sm=>?_) n3 (by rw[List.length_map];exact zQ (Nat.le_of_lt hl))
  obtain ⟨o1,z1,z2,z3,z4,z5,z6⟩:=sm oe x1
  have d1:=z5 d x3
  have Yi:o1=oe:=by
   obtain ⟨a1,a2,a3,a4⟩:=o1
   obtain ⟨b1,b2,b3,b4⟩:=oe
   dsimp only at z2 z3 z4 d1 x3
   rw[z2,z3,z4,d1,x3]
  obtain ⟨o2,w1,w2,w3,w4⟩:=In
  rw[z1]at w1
  cases w1
  have ns:h'.Ns1 d (fun y=>if y=g then some u else mA y):=by
   rcases w4 with ⟨b1,_⟩ | ⟨dx,b1,_,b3⟩
   ·rw[d1]at b1;cases b1
   ·rw[d1]at b1;cases b1;exact b3
  have keep: ∀b u,b≠d->hh.get? b=some u->h'.get? b=some u:=fun b u hb q=>by
   by_cases z:b=e
   ·rw[z]at q ⊢
    rw[x1]at q
    cases q
    rw[z1,Yi]
   ·exact kp b u z (fun o₀ dx e0 e1=>by (rw[x1]at e0;cases e0;rw[x3]at e1;cases e1;exact hb)) q
  refine ⟨σ,_,base.write (x:=d) (e:=d) (o:=wZ d (mG g y fs)) (t':=El) (by rw[hd];exact True.intro) (.inl rfl) keep (let ⟨o',_,_,zz,_⟩:=ns;⟨o',zz⟩) (BQ ⟨_,ns,fun a=>?_,fun a ha=>?_⟩),q2⟩
  ·show ip ((mG g y fs).lookup a) (if a=g then some u else mA a)
   rw[lZ]
   by_cases z:a=g
   ·rw[if_pos z,if_pos z];exact ry
   ·rw[if_neg z,if_neg z];exact n2 a
  ·by_cases z:a=g
   ·rw[z];exact (lz g y fs).1
   ·refine (lz g y fs).2 a (n3 a fun zz=>ha ?_)
    show (if a=g then some u else mA a)=none
    rw[if_neg z];exact zz
noncomputable def Gx (K:PySem.W.Frag) (ta:TE) (f:Str):TE:=fun σ H Q=>ta σ H fun x H1=> ∃e C nw d fs v,x= .ref e/\H1 e=some (dv nw e C (some d))/\XC K C/\wy K C f/\H1 d=some (wZ d fs)/\fs.lookup f=some v/\Q v H1
theorem Es {o:Expr} {g:Str} (ha:PE X o ta) (hb:attributeBase o g X.env (eval o X.env)=eval o X.env):PE X (.Attribute o g pos) (Gx X.K ta g):=by
 intro pins s σ H Q I h
 refine DD hb (aS (ha pins s σ H _ I h) fun u s1 ⟨x,H1,I1,rx,e,C,nw,d,fs,v,ex,he,c,n,hd,hl,q⟩=>?_)
 subst ex
 obtain rfl:u=Value.ref e:=rx
 obtain ⟨oe,vs,x1,x2,x3,x4,x5⟩:=eA I1.a_ he
 obtain ⟨mA,n1,n2,n3⟩:=(I1.a_ d _ hd).1
 obtain ⟨od,Yj,Yk⟩:=qA n1
 obtain ⟨u',hu,ru⟩:=ip.some_of (v:=v) (o:=mA g) (by rw[<-hl];exact n2 g)
 have K1:=I1.iU
 have fin: ∀t',Inv X pins σ H1 { s1 with toks:=t' }:=fun t'=>I1.tok t'
 have inst:PySem.W.InstAt s1.heap e oe C (some od):=⟨x1,x2,by unfold PySem.W.notCls;rw[x4],by rw[x3];exact Yj⟩
 obtain ⟨hh,gg,dd,tt,oo⟩:=s1
 exact Mc K1 (gs K1 c.is) c.ga c.gh n inst (by rw[Yk,hu]) (zH ru) ⟨v,H1,fin _,ru,q⟩
end
end L2
set_option maxHeartbeats 4000000
namespace L2
open PySem PySem.Spec PyProof.Rows XL
noncomputable abbrev uN (X:Cx) (pn:List (Addr×Obj)) (W:Value->Shared->Prop):Cx:={ X with pn:=X.pn++pn,xe:=W }
noncomputable abbrev w5 (X:Cx) (ev:Value):Cx:={ X with A:=X.A.mark (some ev),calm:=false,xe:=fun _ _=>False }
section
variable {X:Cx} {pins pn:List (Addr×Obj)} {σ:St} {H:Hp} {s:Shared} {W:Value->Shared->Prop} {ev:Value}
theorem Inv.Mm (I:Inv X pins σ H s):Inv (uN X pins W) [] σ H s:=
 ⟨⟨I.ok.mod,I.ok.kind,I.ok.glob,I.ok.blt,I.ok.above,I.ok.inj,I.ok.has,I.ok.C3,I.ok.hd,I.ok.frames,I.ok.C4,I.ok.Hi,I.ok.bs,I.ok.xT,I.ok.pO,I.ok.rG,I.ok.iT,I.ok.A8⟩,I.os,I.bare,I.base,I.loc,I.cell,I.free,I.cO,fun p hp=>I.pin p (by simpa using hp),I.a_,I.len⟩
theorem Inv.qR (I:Inv (uN X pn W) pins σ H s):Inv X pn σ H s:=
 ⟨⟨I.ok.mod,I.ok.kind,I.ok.glob,I.ok.blt,I.ok.above,I.ok.inj,I.ok.has,I.ok.C3,I.ok.hd,I.ok.frames,I.ok.C4,I.ok.Hi,I.ok.bs,I.ok.xT,I.ok.pO,I.ok.rG,I.ok.iT,I.ok.A8⟩,I.os,I.bare,I.base,I.loc,I.cell,I.free,I.cO,fun p hp=>I.pin p (List.mem_append_left _ hp),I.a_,I.len⟩
theorem Inv.Mn (I:Inv X pins σ H s):Inv (w5 X ev) pins σ H s:=
 ⟨⟨I.ok.mod,I.ok.kind,I.ok.glob,I.ok.blt,I.ok.above,I.ok.inj,I.ok.has,I.ok.C3,(fun z=>by cases z),I.ok.frames,I.ok.C4,I.ok.Hi,I.ok.bs,I.ok.xT,I.ok.pO,I.ok.rG,I.ok.iT,I.ok.A8⟩,I.os,I.bare,I.base,I.loc,I.cell,I.free,I.cO,I.pin,I.a_,I.len⟩
theorem Inv.P_ (ok:X.Ok) (I:Inv (w5 X ev) pins σ H s):Inv X pins σ H s:=⟨ok,I.os,I.bare,I.base,I.loc,I.cell,I.free,I.cO,I.pin,I.a_,I.len⟩
theorem Inv.unbind {i:Nat} {x:Str} {M:Model} {A:Around} {E:Value->Shared->Prop} {Q:Unit->Shared->Prop} {v:V} (I:Inv X pins σ H s) (hN:X.N.Nodup) (hi:X.N[i]? =some x) (hx:X.env.kindOf x=some .local) (hv:σ[i]? =some (some v))
  (h: ∀s',Inv X pins (σ.set i none) H s'->Q () s'):wpAny M A (unbindName X.env x) Q E s:=by
 obtain ⟨m,hn,hl⟩:=id I.loc
 have wd:(X.env.scope.kind== .class||(X.env.scope.kind== .module&&X.env.locals != X.env.globals))=false:=by rw[I.ok.kind];rfl
 obtain ⟨u,_,hu⟩:=hl i x v hi hv (.inl hx)
 have mu:m x=some u:=by
  rcases hu with ⟨_,z⟩ | ⟨z,_⟩
  ·exact z
  ·rcases z with z | z<;>(rw[hx]at z;cases z)
 obtain ⟨oL,esL,epL,J_,dL,rL⟩:=id hn
 refine wpAny_unbindName_local hx hn mu wd fun h' w O0 hs=>h _ ?_
 have FU: ∀b o,X.s₀.heap.get? b=some o->b≠X.env.locals:=fun b o e=>Nat.ne_of_lt (Nat.lt_of_lt_of_le (Heap.lt_size e) I.ok.above)
 refine ⟨I.ok,I.os,I.bare,⟨fun b o e n hb BS=>(hs.2 b (FU b o e)).trans (I.base.keep b o e n hb BS),fun b o e n hb BS=>?_,I.base.free,fun b o e BS=>?_,I.base.jQ,I.base.jE,I.base.j6⟩,⟨_,O0,fun j y v' e1 e2 e3=>?_⟩,fun y c e=>?_,I.free,I.cO,fun p hp=>?_,fun b ob e=>?_,by simpa using I.len⟩
 ·obtain ⟨sl,e1⟩:=I.base.slot b o e n hb BS
  exact ⟨sl,(hs.2 b (FU b o e)).trans e1⟩
 ·obtain ⟨o',e1⟩:=I.base.there b o e BS
  exact ⟨o',(hs.2 b (FU b o e)).trans e1⟩
 ·have ji:j≠i:=fun z=>by
   rw[z]at e2
   by_cases cG:i<σ.length
   ·rw[List.getElem?_set_self cG]at e2;cases e2
   ·rw[List.getElem?_eq_none (by simpa using cG)]at e2;cases e2
  rw[List.getElem?_set_ne (Ne.symm ji)]at e2
  obtain ⟨u',r',q⟩:=hl j y v' e1 e2 e3
  refine ⟨u',r',?_⟩
  rcases q with ⟨k,e⟩ | ⟨k,c,e,z⟩
  ·refine .inl ⟨k,?_⟩
   have ne:y≠x:=fun z=>ji (ny hN e1 (z▸hi))
   show (if y=x then w else m y)=some u'
   rw[if_neg ne];exact e
  ·exact .inr ⟨k,c,e,z.sameBut hs (I.Du y c e)⟩
 ·obtain ⟨v',z⟩:=I.cell y c e
  exact ⟨v',z.sameBut hs (I.Du y c e)⟩
 ·obtain ⟨e,n,ne,nf,d⟩:=I.pin p hp
  exact ⟨(hs.2 p.1 ne).trans e,n,ne,nf,d⟩
 ·refine (I.a_ b ob e).mF (fun c w' hc q=>(hs.2 c ?_).trans q) (fun _ q=>q) fun _ _ q=>q
  rintro rfl
  rcases hc with rfl | hc
  ·rw[I.free]at e;cases e
  ·rw[I.free]at hc;cases hc
end
noncomputable def IU (K:PySem.W.Frag) (M:Addr) (n:Nat) (th:TS) (D:Ends):St->XK:=fun σ c dO H'=> ∃C,c= .ref C/\PySem.W.mroIn K C (.ref M)=some true/\(∀d,dO=some d-> ∃fs,H' d=some (wZ d fs))/\
 ∀e,H' e=none->th { nx:=fun σ' BY=>D.nx (σ'.set n none) BY,rt:=D.rt,bk:=fun σ' BY=>D.bk (σ'.set n none) BY,ct:=fun σ' BY=>D.ct (σ'.set n none) BY } (σ.set n (some (.ref e))) (upd H' e (dv false e C dO))
noncomputable def Qa (K:PySem.W.Frag) (M:Addr) (n:Nat) (tb:(St->XK)->TS) (th:TS):TS:=fun D σ H=>tb (IU K M n th D) D σ H
section
variable {X:Cx} {M:Addr} {n:Nat} {mx nm:Str} {body yz:List Stmt} {b₀:Stmt} {tb:(St->XK)->TS} {th:TS} {pos sj mp:Pos} {pins:List (Addr×Obj)} {σ:St} {H:Hp} {s:Shared} {D:Ends}
theorem Et {e C:Addr} {dO:Option Addr} {f:Flow} (ok:X.Ok) (hN:X.N.Nodup) (Eu:X.N[n]? =some nm) (Ac:X.env.kindOf nm=some .local)
  (h:SP (w5 X (.ref e)) pins { nx:=fun σ' BY=>D.nx (σ'.set n none) BY,rt:=D.rt,bk:=fun σ' BY=>D.bk (σ'.set n none) BY,ct:=fun σ' BY=>D.ct (σ'.set n none) BY } f s):
  wpAny (model X.prog X.w) X.A (do bindName X.env nm .none;unbindBehindTheSuite X.env nm sj) (fun _ s₅=>SP X pins D f s₅) X.xe s:=by
 have go: ∀{σ':St} {H':Hp} {Q:Unit->Shared->Prop},Inv (w5 X (.ref e)) pins σ' H' s->(∀s',Inv X pins (σ'.set n none) H' s'->Q () s')->wpAny (model X.prog X.w) X.A (do bindName X.env nm .none;unbindBehindTheSuite X.env nm sj) Q X.xe s:=fun {σ' H' Q} J k=>by
  have I5:=J.P_ ok
  have cG:n<σ'.length:=by rw[I5.len];exact (List.getElem?_eq_some_iff.mp Eu).1
  refine wpAny_bind (wpAny_bindName (fb I5 hN Eu (.inl Ac) (v:= .cT) rfl (fun s6 I6=>?_) (.inr Ac)))
  unfold unbindBehindTheSuite
  refine wpAny_onRaise (I6.unbind hN Eu Ac (v:= .cT) (List.getElem?_set_self cG) fun s7 I7=>?_)
  rw[List.set_set]at I7
  exact k s7 I7
 cases f with
 | next=>obtain ⟨σ',H',J,q⟩:=h;exact go J fun s' I'=>⟨_,H',I',q⟩
 | brk=>obtain ⟨σ',H',J,q⟩:=h;exact go J fun s' I'=>⟨_,H',I',q⟩
 | cont=>obtain ⟨σ',H',J,q⟩:=h;exact go J fun s' I'=>⟨_,H',I',q⟩
 | ret u=>obtain ⟨v,σ',H',J,r,q⟩:=h;exact go J fun s' I'=>⟨v,_,H',I',r,q⟩
theorem oq {e C T:Addr} {dO:Option Addr} (cm:XC X.K M) (hg:Gl X mx) (hm:X.mg mx=some (.ref M)) (hN:X.N.Nodup) (Eu:X.N[n]? =some nm) (Ac:X.env.kindOf nm=some .local) (hh: ∀ev,rH (w5 X ev) (b₀::yz) th)
  (I:Inv X pins σ H s) (c:XC X.K C) (tb:Tb s.heap e C dO T .none) (e0:X.s₀.heap.get? e=none) (T0:X.s₀.heap.get? T=none) (pe: ∀p∈X.pn++pins,p.1≠e) (pT: ∀p∈X.pn++pins,p.1≠T) (He:H e=none) (HT:H T=none) (q:IU X.K M n th D σ (.ref C) dO H)
  (vZ:(mx==("__debug__":Str))=false):wpAny (model X.prog X.w) X.A (handleBy (.ref e) X.env [.ExceptHandler (some (.Name mx mp)) (some nm) (b₀::yz) sj]) (SP X pins D) X.xe s:=by
 obtain ⟨C',ec,hs,hd,q⟩:=q
 cases ec
 have q:=q e He
 refine wpAny_handleBy_cons (codeAny_handlers_test ?_) (by intro q;cases q)
 refine jl (X:=w5 X (.ref e)) I.Mn hg hm ?_ vZ
 have K1:=I.iU
 have id:=tb
 obtain ⟨oe,vs,oT,ts,t1,t2,t3,t4,t5,t6,t7,t8,t9⟩:=id
 have Yl:VI e C s.heap:=⟨oe,t1,t2,by unfold PySem.W.notCls;rw[t4],fun d z=>by
  rw[t3]at z
  obtain ⟨fs,y⟩:=hd d z
  exact (I.a_ d _ y).Gs⟩
 have FU:e≠X.env.locals:=fun z=>by
  obtain ⟨m,⟨ol,es,ep,y,yd,_⟩,_⟩:=I.loc
  rw[<-z,t1]at y
  cases y
  rw[t4]at yd;cases yd
 have Ym: ∀x cc,X.env.cells.lookup x=some cc->cc≠e:=fun x cc y z=>by
  obtain ⟨v,oc,y1,y2⟩:=I.cell x cc y
  rw[z,t1]at y1
  cases y1
  rw[t4]at y2;cases y2
 have I0:Inv X pins σ H s:=I
 obtain ⟨h0,gg,dd,tt,oo⟩:=s
 refine Aa K1 c cm hs Yl ?_
 refine codeAny_handlers_suite_as ?_
 refine lJ (S:=jF X.stack) tb fun h1 Yn k1=>?_
 have I1:=I0.uM k1 (fun b hb=>by
  have z:b=T:=List.mem_singleton.mp hb
  rw[z]
  refine ⟨T0,fun o y=>⟨ts,?_⟩,pT,HT⟩
  rw[t7]at y
  cases y
  exact t8)
 obtain ⟨VN,VO,_,_,u1,u2,u3,u4,_⟩:=Yn
 have I2:=I1.Gu (a:=e) (o:=dv false e C dO) He e0 FU Ym pe (m7 ⟨VN,VO,u1,u2,u3,u4,fun z=>nomatch z⟩)
 refine fb I2 hN Eu (.inl Ac) (v:= .ref e) rfl (fun s4 I4=>?_) (.inr Ac)
 refine wpAny_mono (hh (.ref e) pins s4 _ _ _ I4.Mn q) (fun f s5 sp=>?_) fun _ _ z=>z.elim
 exact Et (C:=C) (dO:=dO) I0.ok hN Eu Ac sp
theorem IV (cm:XC X.K M) (hg:Gl X mx) (hm:X.mg mx=some (.ref M)) (hN:X.N.Nodup) (Eu:X.N[n]? =some nm) (Ac:X.env.kindOf nm=some .local) (mL:X.stack=X.env::X.outer) (Ew:X.env.frame=some X.env.locals) (Ex:X.ex=[])
  (hb: ∀pn W E,Throws (uN X pn W) E->jq (yy X.prog X.w X.K) (uN X pn W) E->rH (uN X pn W) body (tb E)) (hh: ∀ev,rH (w5 X ev) (b₀::yz) th) (vZ:(mx==("__debug__":Str))=false:=by decide):
  PS X (.Try body [.ExceptHandler (some (.Name mx mp)) (some nm) (b₀::yz) sj] [] [] pos) (Qa X.K M n tb th):=by
 intro pins s σ H D I h
 refine wpAny_Try_except ?_
 have frames:X.A.frames=some (X.env::X.outer):=by rw[<-mL];exact I.ok.frames
 refine wpAny_mono (hb pins _ (IU X.K M n th D) ?_ ?_ [] s σ H D I.Mm h) (fun f s1 q=>?_) fun e s1 z=>z
 ·intro qu σ' H1 s1 e C dO J he h0 c q
  have I1:=J.qR
  obtain ⟨oe,vs,x1,x2,x3,x4,x5⟩:=eA I1.a_ he
  have IW:s1.heap.FunFrames X.base (X.env::X.outer):=by rw[<-mL];exact I1.stack
  have e0:X.s₀.heap.get? e=none:=by
   cases z:X.s₀.heap.get? e with
   | none=>rfl
   | some o=>
    have:=I1.base.free e o z h0 (by rw[Ex];simp)
    rw[he]at this;cases this
  have pe: ∀p∈X.pn++pins,p.1≠e:=fun p hp z=>by
   have:=(I1.pin p hp).2.1
   rw[z,he]at this;cases this
  show wpAny _ _ (noteFrame (.ref e) X.env) _ _ s1
  refine yv (base:=X.base) (L:=X.env.locals) frames IW Ew ⟨oe,vs,x1,x2,x3,x4,(x5 rfl).1⟩ fun h1 T hT tb k1=>?_
  refine lJ (S:=jF X.stack) tb fun h2 BR k2=>?_
  have Kk:Kept (jF X.stack) [e] s1.heap h1:=by rw[mL];exact k1
  have T0:X.s₀.heap.get? T=none:=by
   cases z:X.s₀.heap.get? T with
   | none=>rfl
   | some o=>
    obtain ⟨o',z'⟩:=I1.base.there T o z (by rw[Ex];simp)
    rw[hT]at z';cases z'
  have pT: ∀p∈X.pn++pins,p.1≠T:=fun p hp z=>by
   have:=(I1.pin p hp).1
   rw[z,hT]at this;cases this
  have nT:H1 T=none:=I1.a_.none_of hT
  have I2:=(I1.Ep ⟨_,he⟩).uM (Kk.trans k2) (fun b Mo=>by
   simp only[List.cons_append,List.nil_append,List.mem_cons,List.not_mem_nil,or_false]at Mo
   rcases Mo with z | z
   ·rw[z]
    refine ⟨e0,fun o y=>⟨vs,?_⟩,pe,i6⟩
    rw[x1]at y;cases y;exact x4
   ·rw[z]
    refine ⟨T0,fun o y=>?_,pT,dz nT⟩
    rw[hT]at y;cases y)
  exact oq cm hg hm hN Eu Ac hh I2 c BR e0 T0 pe pT i6 (dz nT) q vZ
 ·intro qu σ' H1 s1 ev s2 J Yo
  have I1:=J.qR
  obtain ⟨e,C,dO,T1,H2,rfl,c,os,bare,un,a_,n1,n2,n3,n4,Eo,q⟩:=Yo
  have I2:=I1.xU os un a_ bare (fun b z=>absurd z (by simp))
  have IX:s2.heap.FunFrames X.base (X.env::X.outer):=by rw[<-mL];exact I2.stack
  have old: ∀{b},s1.heap.get? b=none->X.s₀.heap.get? b=none:=fun {b} y=>by
   cases z:X.s₀.heap.get? b with
   | none=>rfl
   | some o=>
    obtain ⟨o',z'⟩:=I1.base.there b o z (by rw[Ex];simp)
    rw[y]at z';cases z'
  have IZ: ∀{b},s1.heap.get? b=none-> ∀p∈X.pn++pins,p.1≠b:=fun {b} y p hp z=>by
   have:=(I1.pin p hp).1
   rw[z,y]at this;cases this
  have Qb:=Eo
  obtain ⟨oe,vs,oT1,ts,x1,x2,x3,x4,x5,x6,x7,x8,x9⟩:=Eo
  show wpAny _ _ (noteFrame (.ref e) X.env) _ _ s2
  refine yw (base:=X.base) (L:=X.env.locals) frames IX Ew Qb fun h1 T hT tb k1=>?_
  refine lJ (S:=jF X.stack) tb fun h2 BR k2=>?_
  have Kk:Kept (jF X.stack) [T1,e] s2.heap h1:=by rw[mL];exact k1
  have T0:X.s₀.heap.get? T=none:=by
   cases z:X.s₀.heap.get? T with
   | none=>rfl
   | some o=>
    obtain ⟨o',z'⟩:=I2.base.there T o z (by rw[Ex];simp)
    rw[hT]at z';cases z'
  have pT: ∀p∈X.pn++pins,p.1≠T:=fun p hp z=>by
   have:=(I2.pin p hp).1
   rw[z,hT]at this;cases this
  have nT:H2 T=none:=I2.a_.none_of hT
  have I3:=I2.uM (Kk.trans k2) (fun b Mo=>by
   simp only[List.cons_append,List.nil_append,List.mem_cons,List.not_mem_nil,or_false]at Mo
   rcases Mo with z | z | z
   ·rw[z]
    refine ⟨old n2,fun o y=>⟨ts,?_⟩,IZ n2,n4⟩
    rw[x7]at y;cases y;exact x8
   ·rw[z]
    refine ⟨old n1,fun o y=>⟨vs,?_⟩,IZ n1,n3⟩
    rw[x1]at y;cases y;exact x4
   ·rw[z]
    refine ⟨T0,fun o y=>?_,pT,nT⟩
    rw[hT]at y;cases y)
  exact oq cm hg hm hN Eu Ac hh I3 c BR (old n1) T0 (IZ n1) pT n3 nT q vZ
 ·cases f with
  | next=>obtain ⟨σ',H',J,q⟩:=q;exact wpAny_execs_nil ⟨σ',H',J.qR,q⟩
  | brk=>obtain ⟨σ',H',J,q⟩:=q;exact ⟨σ',H',J.qR,q⟩
  | cont=>obtain ⟨σ',H',J,q⟩:=q;exact ⟨σ',H',J.qR,q⟩
  | ret u=>obtain ⟨v,σ',H',J,r,q⟩:=q;exact ⟨v,σ',H',J.qR,r,q⟩
end
end L2
set_option maxHeartbeats 4000000
namespace L2
open PySem PySem.Spec PyProof.Rows XL
noncomputable def Yp (s:Stmt) (j:Nat):Stmt:=match s with
 | .ClassDef _ _ _ b _ _ _ _ _ _ _=>b.getD j (.Pass ⟨0,0,0,0⟩)
 | _=> .Pass ⟨0,0,0,0⟩
noncomputable def yA (C:Addr) (f:Str):Sp:=fun vs H Q _=> ∃e v,vs=[.ref e,v]/\H e=some (dv true e C none)/\ ∀d,H d=none->d≠e->Q .cT (upd (upd H e (dv true e C (some d))) d (wZ d [(f,v)]))
theorem I_ {C:Addr} {f:Str} {vs:List V} {H:Hp} {Q:VK} {E:XK} (h:yA C f vs H Q E):vs.length=2:=by obtain ⟨_,_,rfl,_⟩:=h;rfl
structure Made (H H':Hp) (e d:Addr) (C:Addr) (fs:List (Str×V)):Prop where
 ne:H e=none
 nd:H d=none
 ap:d≠e
 at_:H' e=some (dv true e C (some d))
 di:H' d=some (wZ d fs)
 old: ∀b,b≠e->b≠d->H' b=H b
theorem Made.same {H H':Hp} {e d C:Addr} {fs:List (Str×V)} (m:Made H H' e d C fs):ar H H':=fun b o q=>by
 rw[m.old b (fun z=>by rw[z,m.ne]at q;cases q) (fun z=>by rw[z,m.nd]at q;cases q)];exact q
theorem Made.gone {H H':Hp} {e d C:Addr} {fs:List (Str×V)} (m:Made H H' e d C fs):ar H (v7 H' e)/\v7 H' e d=some (wZ d fs):=by
 refine ⟨fun b o q=>?_,?_⟩
 ·rw[i7 (fun z=>by rw[z,m.ne]at q;cases q)];exact m.same b o q
 ·rw[i7 m.ap];exact m.di
theorem made_of {H:Hp} {e d C:Addr} {fs:List (Str×V)} (ne:H e=none) (nd:upd H e (dv true e C none) d=none) (ap:d≠e):
  Made H (upd (upd (upd H e (dv true e C none)) e (dv true e C (some d))) d (wZ d fs)) e d C fs:=by
 rw[aA ap]at nd
 refine ⟨ne,nd,ap,?_,ag,fun b h1 h2=>?_⟩
 ·rw[aA (Ne.symm ap),ag]
 ·rw[aA h2,aA h1,aA h1]
theorem Mp {H:Hp} {Q:VK} {C:Addr} {f:Str} {v:V} (h: ∀e d H',Made H H' e d C [(f,v)]->Q (.ref e) H'):[v].length<=sizeLine/\ ∀e,H e=none->yA C f (.ref e::[v]) (upd H e (dv true e C none)) (fun u H2=>u= .cT/\Q (.ref e) H2) E0:=
 ⟨by show 1<=sizeLine;decide,fun e ne=>⟨e,v,rfl,ag,fun d nd ap=>⟨rfl,h e d _ (made_of ne nd ap)⟩⟩⟩
end L2
set_option maxHeartbeats 4000000
namespace L2
open PySem PySem.Spec PyProof.Rows XL
theorem ar.none_ {H H':Hp} {p:Addr} (s:ar H H') (n:H' p=none):H p=none:=by
 cases q:H p with
 | none=>rfl
 | some o=>rw[s p o q]at n;cases n
theorem BZ {K:PySem.W.Frag} {H0 H:Hp} {E:XK} {C:Addr} {f:Str} {v:V} (xc:XC K C) (h0:ar H0 H) (h: ∀d H',H' d=some (wZ d [(f,v)])->ar H H'->E (.ref C) (some d) H'):
  [v].length<=sizeLine/\ ∀e,H e=none->yA C f (.ref e::[v]) (upd H e (dv true e C none)) (fun u H2=>u= .cT/\ ∃e' C' dO,V.ref e= .ref e'/\H2 e'=some (dv true e' C' dO)/\H0 e'=none/\XC K C'/\E (.ref C') dO (v7 H2 e')) E0:=
 Mp (Q:=fun v H1=> ∃e' C' dO,v= .ref e'/\H1 e'=some (dv true e' C' dO)/\H0 e'=none/\XC K C'/\E (.ref C') dO (v7 H1 e')) fun e d H' m=>⟨e,C,some d,rfl,m.at_,h0.none_ m.ne,xc,h d _ m.gone.2 m.gone.1⟩
theorem B0 {X:Cx} (K:PySem.W.Frag) (h:X.K=K) {o:Expr} {g:Str} {pos:Pos} {ta:TE} (ha:PE X o ta) (hb:attributeBase o g X.env (eval o X.env)=eval o X.env):PE X (.Attribute o g pos) (Gx K ta g):=by subst h;exact Es ha hb
theorem Ad {X:Cx} {e:Expr} {te:TE} {pos:Pos} {E:St->XK} (K:PySem.W.Frag) (H0:Hp) (hK:X.K=K) (hH:X.H₀=H0) (hh:X.A.handled=none) (th:Throws X E) (hx:PE X e te):PS X (.Raise (some e) none pos) (BU K H0 E te):=by
 subst hK hH
 exact BV hh th hx
end L2
namespace PySem
end PySem
namespace L2
open PySem PySem.Spec PyProof.Rows
structure VP (P:Program) (w:World) (K:PySem.W.Frag) (mg:Str->Option Value) (base:Heap) (k:Nat) (f:Addr) (fd:FuncData) (ps:List Str) (sp:Sp) (pre:List Value->Shared->Prop) (post:Shared->Prop):Prop where
 len: ∀vs H Q E,sp vs H Q E->vs.length=ps.length
 run: ∀(A:Around) (outer:List Env) (s:Shared) (H:Hp) (args:Args) (us:List Value) (vs:List V) (Q:VK) (E:XK),eh k A->uk P w K mg base A outer s H->BindsTo s fd args (ps.zip us)->Vals vs us->pre us s->sp vs H Q E->
  codeAny (model P w) A (.call (.ref f) args) (fun r s'=>CR eK outer P w H s Q E r s'/\post s') s
section
variable {P:Program} {w:World} {K:PySem.W.Frag} {mg:Str->Option Value} {base:Heap}
end
end L2
namespace L2
open PySem PySem.Spec PyProof.Rows
noncomputable def mh (c:Nat):List Nat->List (List Nat)
 | []=>[[]]
 | d::r=>if d=c then []::mh c r else match mh c r with | []=>[[d]] | p::ps=>(d::p)::ps
theorem ot (c:Nat): ∀l, ∃p ps,mh c l=p::ps
 | []=>⟨_,_,rfl⟩
 | d::r=>by
  unfold mh
  split
  ·exact ⟨_,_,rfl⟩
  ·obtain ⟨p,ps,e⟩:=ot c r
   rw[e];exact ⟨_,_,rfl⟩
noncomputable def v8 (c:Nat):Nat->List Nat->List Nat
 | _,[]=>[]
 | a,d::r=>if d=c then a::v8 c (a+1) r else v8 c (a+1) r
theorem sk (l:List Nat) (c lim:Nat): ∀(r:List Nat) (a:Nat) (st:Array Nat×Nat),l.drop a=r->st.2<=a->st.1.size+r.length<lim->
  (forIn (List.range' a (r.length+1)) st (StrLaws.occBody (S l) (S [c]) l.length lim)).run.fst.toList=st.1.toList++v8 c a r
 | [],a,st,hd,hf,hl=>by
  have mi:l.length<=a:=List.drop_eq_nil_iff.mp hd
  show (forIn [a] st (StrLaws.occBody (S l) (S [c]) l.length lim)).run.fst.toList=st.1.toList++[]
  rw[List.forIn_cons,List.append_nil]
  unfold StrLaws.occBody
  rw[if_neg (by rw[aY];simp only[List.length_cons,List.length_nil];omega)]
  rfl
 | d::r,a,st,hd,hf,hl=>by
  have mi:a<l.length:=by
   have:=congrArg List.length hd
   simp only[List.length_drop,List.length_cons]at this
   omega
  have z_:l[a]? =some d:=by
   have:=congrArg (fun z=>z[0]?) hd
   simpa using this
  have zx:l.drop (a+1)=r:=by
   have:=congrArg List.tail hd
   simpa using this
  show (forIn (a::List.range' (a+1) (r.length+1)) st (StrLaws.occBody (S l) (S [c]) l.length lim)).run.fst.toList=_
  rw[List.forIn_cons]
  have IE:Builtin.Str.subAt (S l) (S [c]) a=(l[a]? ==some c):=subAt_one l c a
  simp only[List.length_cons]at hl
  by_cases h:d=c
  ·subst h
   unfold StrLaws.occBody
   rw[if_pos (by rw[IE,z_,aY];simp only[List.length_cons,List.length_nil];exact ⟨⟨⟨by omega,hf⟩,by omega⟩,by simp⟩)]
   have ih:=sk l d lim r (a+1) (st.1.push a,a+(S [d]).length) zx (by rw[aY];simp) (by simp only[Array.size_push];omega)
   unfold v8
   rw[if_pos rfl]
   refine Eq.trans ih ?_
   simp
  ·unfold StrLaws.occBody
   rw[if_neg (by rw[IE,z_];simp[h])]
   have ih:=sk l c lim r (a+1) st zx (by omega) (by omega)
   unfold v8
   rw[if_neg h]
   exact ih
theorem yB (l:List Nat) (c lim:Nat) (h:l.length<lim):Builtin.Str.occurrences (S l) (S [c]) 0 (S l).length lim=v8 c 0 l:=by
 rw[StrLaws.occ_eq,aY]
 exact (sk l c lim l 0 (#[],0) rfl (Nat.le_refl _) (by simpa using h)).trans (by simp)
theorem uO (l:List Nat) (i j:Nat):Builtin.Str.strSub (S l) i j=S ((l.drop i).take (j - i)):=by
 apply Str.ext'
 apply Array.toList_inj.mp
 rw[StrLaws.strSub_toList]
 simp[S]
theorem lK (l:List Nat) (c:Nat): ∀(r:List Nat) (a b:Nat),b<=a->l.drop a=r->(∀d∈(l.drop b).take (a - b),d≠c)->
  StrLaws.partsFrom (S l) 1 b (v8 c a r)=((match mh c r with | []=>[] | p::ps=>((l.drop b).take (a - b)++p)::ps)).map S
 | [],a,b,Yq,hd,hn=>by
  have mi:l.length<=a:=List.drop_eq_nil_iff.mp hd
  show [Builtin.Str.strSub (S l) b (S l).length]=[S ((l.drop b).take (a - b)++[])]
  rw[uO,aY,List.append_nil]
  congr 2
  rw[List.take_of_length_le (by rw[List.length_drop];omega),List.take_of_length_le (by rw[List.length_drop];omega)]
 | d::r,a,b,Yq,hd,hn=>by
  have mi:a<l.length:=by
   have:=congrArg List.length hd
   simp only[List.length_drop,List.length_cons]at this
   omega
  have zx:l.drop (a+1)=r:=by
   have:=congrArg List.tail hd
   simpa using this
  have z_:l[a]? =some d:=by
   have:=congrArg (fun z=>z[0]?) hd
   simpa using this
  by_cases h:d=c
  ·subst h
   unfold v8 mh
   rw[if_pos rfl,if_pos rfl]
   show Builtin.Str.strSub (S l) b a::StrLaws.partsFrom (S l) 1 (a+1) (v8 d (a+1) r)=S _::(mh d r).map S
   rw[uO,List.append_nil,lK l d r (a+1) (a+1) (Nat.le_refl _) zx (by simp)]
   obtain ⟨p,ps,e⟩:=ot d r
   rw[e]
   simp
  ·have e1:(l.drop b).take (a+1 - b)=(l.drop b).take (a - b)++[d]:=by
    have e0:a+1 - b=(a - b)+1:=by omega
    rw[e0,List.take_add_one,List.getElem?_drop]
    have e2:b+(a - b)=a:=by omega
    rw[e2,z_]
    rfl
   have ih:=lK l c r (a+1) b (by omega) zx (by
    rw[e1]
    intro z hz
    rcases List.mem_append.mp hz with q | q
    ·exact hn z q
    ·rw[List.mem_singleton.mp q];exact h)
   unfold v8 mh
   rw[if_neg h,if_neg h,ih]
   obtain ⟨p,ps,e⟩:=ot c r
   rw[e,e1]
   simp
theorem yC (l:List Nat) (c lim:Nat) (h:l.length<lim):Builtin.Str.partsBetween (S l) (Builtin.Str.occurrences (S l) (S [c]) 0 (S l).length lim) 1=(mh c l).map S:=by
 rw[StrLaws.partsBetween_eq,yB l c lim h,lK l c l 0 0 (Nat.le_refl _) rfl (by simp)]
 obtain ⟨p,ps,e⟩:=ot c l
 rw[e]
 simp
theorem uP (c:Nat): ∀(l:List Nat) (a:Nat),v8 c a l=[]->l.filter (fun d=>decide (d≠c))=l
 | [],_,_=>rfl
 | d::r,a,h=>by
  unfold v8 at h
  by_cases e:d=c
  ·rw[if_pos e]at h;cases h
  ·rw[if_neg e]at h
   rw[List.filter_cons_of_pos (by simpa using e),uP c r (a+1) h]
end L2
namespace L2
open PySem PySem.Spec PyProof.Rows
noncomputable def VQ (X:Cx) (x:Str) (s:Shared):Prop:= ∃m z t,s.heap.Ns X.env.locals m/\m x=some (.str z t)/\t≠0/\t<s.toks
section
variable {X:Cx}
end
end L2
namespace L2
open PySem PySem.Spec PyProof.Rows
structure VR (P:Program) (w:World) (K:PySem.W.Frag) (tg:Expr) (J:It) (fp:List Addr) (it:Addr) (tn:Nat->Heap->Prop):Prop extends Turn P w K tg J fp it tn where
 VS: ∀(X:Cx),X.prog=P->X.w=w->X.K=K->X.calm=true-> ∀(i:Nat) (pins:List (Addr×Obj)) (s:Shared) (σ:St) (H:Hp) (E:Value->Shared->Prop),Inv X pins σ H s->(∀b∈fp,iw X pins H b)->tn i s.heap->J.go i H->
  wpAny (model P w) X.A (pyNext (.ref it)) (fun r s1=> ∃u,r=some u/\(∃z,u= .str z s.toks)/\s1.toks=s.toks+1/\
   wpAny (model P w) X.A (letOwnedTupleGo tg (.ref it) u) (fun _ s2=> ∃x H',Inv X pins σ H' s2/\RelV x u/\J.Bj i H x H'/\tn (i+1) s2.heap/\ ∀b∈fp,H' b=none) E s1) E s
end L2
namespace L2
open PySem PySem.Spec PyProof.Rows
section
variable {X:Cx}
end
end L2
set_option maxHeartbeats 1000000
namespace L2.F3
open PySem PySem.Spec PyProof.Rows
end L2.F3
namespace L2
open PySem PySem.Spec PyProof.Rows
section
variable {prog:Program} {w:World} {A:Around} {E:Value->Shared->Prop} {s:Shared}
end
section
variable {X:Cx}
end
section
variable {P:Program} {w:World} {K:PySem.W.Frag} {mg:Str->Option Value} {base:Heap}
end
end L2
namespace L2
open PySem PySem.Spec PyProof.Rows
noncomputable def eB (c:Nat):List (List Nat)->List Nat
 | []=>[]
 | [p]=>p
 | p::q::r=>p++c::eB c (q::r)
theorem yD (c:Nat): ∀(ps:List (List Nat)),Builtin.Str.glued (S [c]) (ps.map S)=S (eB c ps)
 | []=>rfl
 | [p]=>rfl
 | p::q::r=>by
  have ih:=yD c (q::r)
  rw[StrLaws.glued_eq_join]at ih ⊢
  show S p++S [c]++Str.join (S [c]) ((q::r).map S)=_
  rw[ih,Bz,Bz,List.append_assoc]
  rfl
theorem qS (c:Nat): ∀ps:List (List Nat),(eB c ps).length<=(ps.map List.length).sum+ps.length
 | []=>Nat.le_refl _
 | [p]=>by simp[eB]
 | p::q::r=>by
  have ih:=qS c (q::r)
  unfold eB
  simp only[List.length_append,List.length_cons,List.map_cons,List.sum_cons]at ih ⊢
  omega
theorem yE {c:Nat}: ∀{p:List Nat} (r:List Nat),c∉p->mh c (p++c::r)=p::mh c r
 | [],r,_=>by
  show mh c (c::r)=_
  conv=>lhs;unfold mh
  rw[if_pos rfl]
 | d::p,r,h=>by
  have hd:d≠c:=fun z=>h (by rw[z];exact List.mem_cons_self)
  have ih:=yE r (fun z=>h (List.mem_cons_of_mem _ z):c∉p)
  show mh c (d::(p++c::r))=_
  conv=>lhs;unfold mh
  rw[if_neg hd,ih]
theorem sr {c:Nat}: ∀{p:List Nat},c∉p->mh c p=[p]
 | [],_=>rfl
 | d::p,h=>by
  have hd:d≠c:=fun z=>h (by rw[z];exact List.mem_cons_self)
  have ih:=sr (fun z=>h (List.mem_cons_of_mem _ z):c∉p)
  unfold mh
  rw[if_neg hd,ih]
theorem uQ {c:Nat}: ∀{ps:List (List Nat)},ps≠[]->(∀p∈ps,c∉p)->mh c (eB c ps)=ps
 | [],h,_=>absurd rfl h
 | [p],_,h=>sr (h p List.mem_cons_self)
 | p::q::r,_,h=>by
  show mh c (p++c::eB c (q::r))=_
  rw[yE _ (h p List.mem_cons_self),uQ (by simp) (fun x hx=>h x (List.mem_cons_of_mem _ hx))]
theorem yF (c:Nat): ∀l:List Nat,(mh c l).length<=l.length+1
 | []=>Nat.le_refl _
 | d::r=>by
  have ih:=yF c r
  unfold mh
  split
  ·simp only[List.length_cons];omega
  ·obtain ⟨p,ps,e⟩:=ot c r
   rw[e]at ih ⊢
   simp only[List.length_cons]at ih ⊢
   omega
theorem B1 (l:List Nat) (c:Nat):Txt.split (S l) (S [c])=(mh c l).map S:=by
 have hp:=yC l c (l.length+1) (Nat.lt_succ_self _)
 have ho:=yB l c (l.length+1) (Nat.lt_succ_self _)
 have yG:v8 c 0 l=[]->(mh c l).map S=[S l]:=fun e=>by
  have hc:c∉l:=fun z=>by
   have e2:=uP c l 0 e
   have:c∈l.filter fun d=>decide (d≠c):=by rw[e2];exact z
   have:=(List.mem_filter.mp this).2
   simp at this
  rw[sr hc];rfl
 unfold Txt.split
 have e0:(S l).length+1=l.length+1:=by rw[aY]
 have e1:(S [c]).length=1:=by rw[aY];rfl
 rw[e0,ho]
 split
 ·rename_i h
  by_cases hz:v8 c 0 l=[]
  ·exact (yG hz).symm
  ·exfalso
   rw[Bool.or_eq_true]at h
   have VT:c∈l:=by
    by_cases z:c∈l
    ·exact z
    ·exfalso
     apply hz
     have: ∀(r:List Nat) (a:Nat),c∉r->v8 c a r=[]:=by
      intro r
      induction r with
      | nil=>intro a _;rfl
      | cons d r ih=>
       intro a hn
       unfold v8
       rw[if_neg (fun q:d=c=>hn (by rw[q];exact List.mem_cons_self)),ih (a+1) (fun q=>hn (List.mem_cons_of_mem _ q))]
     exact this l 0 z
   rcases h with h | h
   ·have h':=of_decide_eq_true h
    rw[aY,e1]at h'
    have:=List.length_pos_of_mem VT
    omega
   ·have h':=of_decide_eq_true h
    unfold Builtin.Str.strKind at h'
    have k1: ∀b:Nat,(S l).cps.all (· <b)=true->(S [c]).cps.all (· <b)=true:=fun b hb=>by
     have ea: ∀m:List Nat,(S m).cps.all (· <b)=m.all fun x=>decide (x<b):=fun m=>by simp[S]
     rw[ea,List.all_eq_true]at hb
     rw[ea,List.all_eq_true]
     intro x hx
     rw[List.mem_singleton.mp hx]
     exact hb c VT
    by_cases a1:(S l).cps.all (· <256)=true
    ·rw[if_pos a1,if_pos (k1 256 a1)]at h';omega
    ·rw[if_neg a1]at h'
     by_cases a2:(S l).cps.all (· <65536)=true
     ·rw[if_pos a2]at h'
      split at h'
      ·omega
      ·rw[if_pos (k1 65536 a2)]at h';omega
     ·rw[if_neg a2]at h'
      repeat' split at h'
      all_goals omega
 ·split
  ·rename_i h
   exact (yG (List.isEmpty_iff.mp h)).symm
  ·rw[<-ho,e1]
   exact hp
section
variable {X:Cx}
noncomputable def Ja (K:PySem.W.Frag) (c:Nat):V->List V->Hp->VK->Prop:=fun x vs H Q=> ∃(p:Addr) (ls:List (List Nat)),x= .str (S [c])/\vs=[.ref p]/\bt K H p (ls.map fun l=>V.str (S l))/\(ls.map List.length).sum+ls.length<=16777216/\Q (.str (S (eB c ls))) H
theorem uR (K:PySem.W.Frag) (c:Nat) (hK:X.K=K):rR X "str.join" (Ja K c):=by
 subst hK
 intro pins s σ H x xs v us Q I rx rv h
 obtain ⟨p,ls,rfl,rfl,hq,hz,q⟩:=h
 obtain ⟨t,rfl⟩:=rx
 obtain ⟨u,rfl,ru⟩:=vals1 rv
 cases ru
 obtain ⟨its,r,pl,_⟩:=I.list hq
 have e:(S [c]).length=1:=by rw[aY];rfl
 refine join_list pl.isList (by simpa using jT r) ?_ fun t' k=>?_
 ·rw[e,Nat.mul_one,List.map_map,List.length_map]
  have:((ls.map ((fun x:Str=>x.length) ∘ S)).sum)=(ls.map List.length).sum:=congrArg List.sum (List.map_congr_left fun l _=>aY l)
  rw[this];exact hz
 ·have e2:Txt.join (S [c]) (ls.map S)=S (eB c ls):=yD c ls
  rw[e2]
  exact ⟨.str (S (eB c ls)),H,I.tok _,⟨_,rfl⟩,q⟩
noncomputable def Ey (c:Nat):V->List V->Hp->VK->Prop:=fun x vs H Q=> ∃l,x= .str (S l)/\vs=[.str (S [c])]/\l.length<=1000000/\ ∀p,H p=none->Q (.ref p) (upd H p (.lst ((mh c l).map fun l=>V.str (S l))))
theorem jM: ∀(ps:List (List Nat)) (tv:List (Str×Tok)),tv.map (·.1)=ps.map S->Vals (ps.map fun l=>V.str (S l)) (strValues tv)
 | [],[],_=> .nil
 | p::ps,(a,t)::tv,h=>by
  simp only[List.map_cons,List.cons.injEq]at h
  obtain ⟨rfl,h⟩:=h
  exact .cons ⟨t,rfl⟩ (jM ps tv h)
 | [],_::_,h=>by simp at h
 | _::_,[],h=>by simp at h
theorem Ae (c:Nat):rR X "str.split" (Ey c):=by
 intro pins s σ H x xs v us Q I rx rv h
 obtain ⟨l,rfl,rfl,hz,q⟩:=h
 obtain ⟨t,rfl⟩:=rx
 obtain ⟨u,rfl,tu,rfl⟩:=vals1 rv
 have hn:=ff
 have hlen:=yF c l
 have fin: ∀(tv:List (Str×Tok)) (k:Nat),tv.map (·.1)=Txt.split (S l) (S [c])->EP X pins σ Q (.ref s.heap.objs.size) { s with heap:=s.heap.push { cls:= .type "list",data:= .seq (strValues tv).toArray },toks:=k }:=fun tv k e=>by
  rw[B1]at e
  have hf:H s.heap.objs.size=none:=I.a_.fresh (Nat.le_refl _)
  refine ⟨.ref s.heap.objs.size,_,I.laid (o:= .lst ((mh c l).map fun l=>V.str (S l))) (t':=k) (fun b u e=>Heap.get?_push_of_some _ e) (Nat.le_refl _) ?_,rfl,q _ hf⟩
  refine ⟨by rw[List.length_map];have:(1000001:Nat)<=sizeLine:=(by decide);omega,strValues tv,0,jM _ _ e,Heap.get?_push_size _ rfl⟩
 have Qc:(S l).length<=sizeLine:=by rw[aY];have:(1000001:Nat)<=sizeLine:=(by decide);omega
 have Qd:(Builtin.Str.partsBetween (S l) (Builtin.Str.occurrences (S l) (S [c]) 0 (S l).length ((S l).length+1)) (S [c]).length).length<=sizeLine:=by
  have e1:(S [c]).length=1:=by rw[aY];rfl
  rw[e1,yC l c _ (by rw[aY];exact Nat.lt_succ_self _),List.length_map]
  have:(1000001:Nat)<=sizeLine:=by decide
  omega
 have hy:((S [c]).length==0)=false:=by rw[aY];rfl
 show wpAny _ _ (call (.builtin "str.split") [.str (S l) t, .str (S [c]) tu]) _ _ s
 cases h1:(decide ((S l).length<(S [c]).length)||decide (Builtin.Str.strKind (S l)<Builtin.Str.strKind (S [c])))
 ·cases hf:(Builtin.Str.occurrences (S l) (S [c]) 0 (S l).length ((S l).length+1)).isEmpty
  ·refine call_meets F.slot_str_split (typeIs_str _ _ _) F.entry_str_split (F.args_str_split_2 _ _) (meets_str_split_sep (S l) (S [c]) t tu h1 hy hf Qc Qd) ?_
   show wants _ _ _ { s with toks:=_,heap:=s.heap.push { cls:= .type "list",data:= .seq (strsFrom s.toks _).toArray } }
   rw[strsFrom_eq]
   exact fin (numbered s.toks _) _ ((numbered_texts _ _).trans ((if_neg (ne_true_of_eq_false h1)).trans (if_neg (ne_true_of_eq_false hf))).symm)
  ·exact call_meets F.slot_str_split (typeIs_str _ _ _) F.entry_str_split (F.args_str_split_2 _ _) (meets_str_split_not_found (S l) (S [c]) t tu h1 hy hf)
    (fin [(S l,t)] s.toks ((if_neg (ne_true_of_eq_false h1)).trans (if_pos hf)).symm)
 ·exact call_meets F.slot_str_split (typeIs_str _ _ _) F.entry_str_split (F.args_str_split_2 _ _) (meets_str_split_cannot_occur (S l) (S [c]) t tu h1)
   (fin [(S l,t)] s.toks (if_pos h1).symm)
noncomputable def dg (n:Nat):List Nat:=((toString (n:Int):String):Str).cps.toList
theorem Qe (n:Nat):((toString (n:Int):String):Str)=S (dg n):=LB _
theorem Af {n:Nat} (h:n<2 ^ 60):((n:Int)).natAbs.log2<1920:=by
 rw[Int.natAbs_natCast]
 by_cases z:n=0
 ·subst z;decide
 ·exact (Nat.log2_lt z).mpr (Nat.lt_of_lt_of_le h (Nat.pow_le_pow_right (by decide) (by decide)))
theorem Ag:cL X (.type "str") (fun xs H Q=> ∃n:Nat,xs=[.int n]/\n<2 ^ 60/\Q (.str (S (dg n))) H):=by
 intro pins s σ H xs us Q I r h
 obtain ⟨n,rfl,hz,q⟩:=h
 refine rN pins s σ H _ us Q I r ⟨n,rfl,Af hz,?_⟩
 rw[Qe]
 exact q
end
end L2
namespace L2
open PySem PySem.Spec PyProof.Rows
structure ZT (P:Program) (w:World) (K:PySem.W.Frag) (fp:List Addr) (it:Addr) (Sq:Hp->List V->Prop) (IT:Nat->Heap->Prop):Prop where
 obj: ∀i h,IT i h-> ∃o,h.get? it=some o/\ ∀v,o.data≠ .cell v
 keep: ∀i h h',IT i h->(∀o,h.get? it=some o->h'.get? it=some o)->IT i h'
 inj: ∀(X:Cx),X.K=K-> ∀(pins:List (Addr×Obj)) (s:Shared) (σ:St) (H:Hp),Inv X pins σ H s-> ∀xs ys,Sq H xs->Sq H ys->xs=ys
 draws: ∀(X:Cx),X.prog=P->X.w=w->X.K=K->X.calm=true-> ∀(pins:List (Addr×Obj)) (s:Shared) (σ:St) (H:Hp),Inv X pins σ H s-> ∀xs,Sq H xs->
  ∃(PP:Nat->Value->Prop) (SS:Nat->Heap->Prop),(∀i x v,xs[i]? =some x->PP i v->RelV x v)/\Draws P w X.A.in1 it fp xs.length PP SS/\(∀i,IT i s.heap->SS i s.heap)/\ ∀i h,SS i h->IT i h
section
variable {X:Cx} {elts:List Expr} {k:Nat} {pos':Pos} {a b:Expr} {ta:TA} {p pos:Pos}
end
end L2
set_option maxHeartbeats 1000000
namespace L2
open PySem PySem.Spec PyProof.Rows
section
variable {prog:Program} {w:World} {A:Around} {E:Value->Shared->Prop} {s:Shared} {KK:Type} [DecidableEq KK] {knd:PySem.KeyKind prog w KK}
end
section
variable {X:Cx}
end
end L2
namespace L2
open PySem PySem.Spec PyProof.Rows
theorem i8 {P:Program} {w:World} {K:PySem.W.Frag} {mg:Str->Option Value} {base:Heap} {CX:wB} {k:Nat} {f:Addr} {fd:FuncData} {ps:List Str} {sp:Sp} (h: ∀vs H Q E,sp vs H Q E->False):bE P w K mg base CX k f fd ps sp:=
 ⟨fun vs H Q E x=>(h vs H Q E x).elim,fun _ _ _ H _ _ vs Q E _ _ _ _ x=>(h vs H Q E x).elim⟩
section
variable {X:Cx}
noncomputable def Ez:V->List V->Hp->VK->Prop:=fun x vs H Q=> ∃l:List Nat,x= .str (S l)/\vs=[]/\(∀c∈l,c<128)/\l.length<=1000/\Q (.str (S (l.map up1))) H
theorem ou {l:List Nat} (h: ∀c∈l,c<128):Txt.upper (S l)=S (l.map up1):=by
 rw[upper_ascii (by intro d hd;rw[dP]at hd;exact h d hd)]
 simp[S]
theorem Ah:rR X "str.upper" Ez:=by
 intro pins s σ H x xs v us Q I rx rv h
 obtain ⟨l,rfl,rfl,hc,hz,q⟩:=h
 obtain ⟨t,rfl⟩:=rx
 have e:us=[]:=by cases rv;rfl
 subst e
 refine SC.upper (by rw[ou hc,aY,List.length_map];unfold Builtin.Str.tooLong;have:(1000:Nat)<=sizeLine:=(by decide);exact decide_eq_false (by omega)) ⟨.str (S (l.map up1)),H,I.tok _,⟨_,congrArg (fun z=>Value.str z _) (ou hc)⟩,q⟩
end
end L2
set_option maxHeartbeats 4000000
namespace XL
open PySem PySem.Spec PySem.Calls PyProof.Rows PySem.W
section
variable {M:Model} {A:Around} {E:Value->Shared->Prop} {s:Shared} {base:Heap} {env env':Env} {outer:List Env} {L e C:Addr} {dO:Option Addr}
theorem Ai {x:Value} (h:env.frame=env'.frame):noteFrame x env=noteFrame x env':=by
 unfold noteFrame PySem.frameOf
 rw[h]
theorem yH {T0:Addr} {fl:Value} {Q:Unit->Shared->Prop} (pL:A.frames=some (env::outer)) (hl:s.heap.FunFrames base (env::outer)) (hf:env.frame=some L) (hx:Tb s.heap e C dO T0 fl)
  (hQ: ∀h' T,(T=T0\/s.heap.get? T=none)->Tb h' e C dO T (rawInt L)->Kept ((env::outer).filterMap (·.frame)) [T0,e] s.heap h'->Q () { s with heap:=h' }):wpAny M A (noteFrame (.ref e) env) Q E s:=by
 by_cases Mq:(fl==rawInt L)=true
 ·obtain ⟨oe,vs,oT,ts,he,hc,Ab,hd,h1,ne,hT,ua,h3⟩:=id hx
  have Qf:fl=rawInt L:=by simpa using Mq
  subst Qf
  unfold noteFrame
  simp only[hf]
  refine wpAny_bind (wpAny_field he hd h1 ?_)
  rw[if_pos (by simp)]
  refine wpAny_bind (wpAny_field hT ua h3 ?_)
  rw[if_pos Mq]
  exact wpAny_pure (hQ s.heap T0 (.inl rfl) hx ⟨fun b o _ _ e=>e,fun b o _ _ e=>⟨o.slots,e⟩⟩)
 ·obtain ⟨oe,vs,oT,ts,he,hc,Ab,hd,h1,ne,hT,ua,h3⟩:=hx
  unfold noteFrame
  simp only[hf]
  refine wpAny_bind (wpAny_field he hd h1 ?_)
  rw[if_pos (by simp)]
  refine wpAny_bind (wpAny_field hT ua h3 ?_)
  rw[if_neg Mq]
  refine wpAny_bind (wpAny_setField hT ua (Array.getElem?_eq_some_iff.mp h3).1 ?_)
  have P7:=eu hl hT ua
  have k1:Kept ((env::outer).filterMap (·.frame)) [T0] s.heap (s.heap.update T0 (Obj.mapFields (·.setIfInBounds 3 Value.none))):=
   ⟨fun b o hb _ e0=>(Heap.get?_update_other _ _ (fun z=>hb (by simp[z]))).trans e0,fun b o hb _ e0=>⟨o.slots,(Heap.get?_update_other _ _ (fun z=>hb (by simp[z]))).trans e0⟩⟩
  refine sf (s:={ s with heap:=s.heap.update T0 (Obj.mapFields (·.setIfInBounds 3 Value.none)) }) pL (k1.frames (fun b hb=>⟨hb,fun z=>P7 ((List.mem_singleton.mp z)▸hb)⟩) hl) hf
   (k1.keep e oe (fun z=>ne (List.mem_singleton.mp z).symm) (eu hl he hd) he) hc Ab hd (Array.getElem?_eq_some_iff.mp h1).1 fun h' T hn tb k2=>hQ h' T (.inr ?_) tb (k1.trans k2)
  cases hq:s.heap.get? T with
  | none=>rfl
  | some o=>
   exfalso
   by_cases z:T=T0
   ·rw[z,Heap.get?_update_self _ hT (Obj.isFreed_of_fields (Obj.data_mapFields ua _))]at hn
    cases hn
   ·rw[Heap.get?_update_other _ _ (Ne.symm z),hq]at hn
    cases hn
theorem Mr {S:List Addr} {T:Addr} {fl:Value} {fr:Option Addr} {Q:Unit->Shared->Prop} (hx:Tb s.heap e C dO T fl) (hQ: ∀h' Jc,Tb h' e C dO T Jc->Kept S [T] s.heap h'->Q () { s with heap:=h' }):wpAny M A (setFlight (.ref e) fr) Q E s:=by
 obtain ⟨oe,vs,oT,ts,he,hc,Ab,hd,h1,ne,hT,ua,h3⟩:=hx
 unfold setFlight
 refine wpAny_bind (wpAny_field he hd h1 ?_)
 rw[if_pos (by simp)]
 have hsz:3<ts.size:=(Array.getElem?_eq_some_iff.mp h3).1
 have d2:=Obj.data_mapFields ua (·.setIfInBounds 3 (fr.elim Value.none fun f=>rawInt f))
 refine wpAny_setField hT ua hsz (hQ _ (fr.elim Value.none fun f=>rawInt f) ⟨oe,vs,_,_,(Heap.get?_update_other _ _ ne).trans he,hc,Ab,hd,h1,ne,Heap.get?_update_self _ hT (Obj.isFreed_of_fields d2),d2,by simp[hsz]⟩
  ⟨fun b o hb _ e0=>(Heap.get?_update_other _ _ (fun z=>hb (by simp[z]))).trans e0,fun b o hb _ e0=>⟨o.slots,(Heap.get?_update_other _ _ (fun z=>hb (by simp[z]))).trans e0⟩⟩)
theorem Jd {α:Type} {S:List Addr} {T:Addr} {fl:Value} {Hv:String} {Q:α->Shared->Prop} (hx:Tb s.heap e C dO T fl) (hE: ∀h' Jc,Tb h' e C dO T Jc->Kept S [T] s.heap h'->E (.ref e) { s with heap:=h' }):wpAny M A (PySem.passOn Hv (.ref e) env:Sem α) Q E s:=by
 obtain ⟨oe,vs,oT,ts,he,hc,Ab,hd,h1,ne,hT,ua,h3⟩:=id hx
 unfold PySem.passOn
 refine wpAny_bind (wpAny_field he hd h1 ?_)
 rw[if_neg (by simp)]
 refine wpAny_bind (Mr (S:=S) hx fun h' Jc tb k=>?_)
 exact wpAny_throw (hE h' Jc tb k)
end
end XL
set_option maxHeartbeats 4000000
namespace L2
open PySem PySem.Spec PyProof.Rows XL
noncomputable def Flying (X:Cx) (pins:List (Addr×Obj)) (E:XK) (H:Hp) (s:Shared) (e:Addr):Prop:= ∃(C:Addr) (dO:Option Addr) (T:Addr) (fl:Value),XC X.K C/\X.s₀.heap.get? e=none/\X.s₀.heap.get? T=none/\H e=none/\H T=none/\Tb s.heap e C dO T fl/\(∀p∈X.pn++pins,p.1≠T)/\E (.ref C) dO H
noncomputable def sv (X:Cx) (E:XK):Prop:= ∀(pins:List (Addr×Obj)) (σ:St) (H:Hp) (s:Shared) (e:Addr),Inv X pins σ H s->Flying X pins E H s e->X.xe (.ref e) s
section
variable {P:Program} {w:World} {K:PySem.W.Frag} {mg:Str->Option Value} {base:Heap} {N:List Str} {qual:Str} {scope:Scope} {f:Addr} {cd:Value} {A:Around} {outer:List Env} {s:Shared} {H:Hp} {E:XK}
theorem Ms:sv (pQ (yy P w K) P w K mg base N qual scope f cd A outer s H E) E:=by
 intro pins σ H2 s2 e I2 h
 obtain ⟨C,dO,T0,fl,c,n1,n2,n3,n4,Eo,_,q⟩:=h
 have n1':s.heap.get? e=none:=n1
 have n2':s.heap.get? T0=none:=n2
 show wpAny _ _ (leaving _ (.ref e)) _ _ s2
 unfold leaving
 refine wpAny_bind (yH (base:=base) (L:=s.heap.objs.size) I2.ok.frames I2.stack rfl Eo fun h1 T hT tb k1=>?_)
 refine lJ (S:=(envOfC qual scope s.heap.objs.size f cd::outer).filterMap (·.frame)) tb fun h2 BR k2=>?_
 have oT:s.heap.get? T=none:=by
  rcases hT with rfl | hT
  ·exact n2
  cases z:s.heap.get? T with
  | none=>rfl
  | some o=>
   obtain ⟨o',z'⟩:=I2.base.there T o z (by show T∉([]:List Addr);simp)
   rw[hT]at z';cases z'
 have nT:H2 T=none:=by
  rcases hT with rfl | hT
  ·exact n4
  ·exact I2.a_.none_of hT
 refine ⟨e,C,dO,T,H2,rfl,c,I2.os,I2.bare,si I2.base (k1.trans k2) (fun b hb=>?_) rfl (Heap.get?_none_of_le (Nat.le_refl _)),kr I2.a_ (k1.trans k2) (fun b hb=>I2.jk b hb) (fun b hb=>?_),n1,oT,n3,nT,BR,q⟩
 ·simp only[List.cons_append,List.nil_append,List.mem_cons,List.not_mem_nil,or_false]at hb
  rcases hb with z | z | z<;>rw[z]<;>assumption
 ·simp only[List.cons_append,List.nil_append,List.mem_cons,List.not_mem_nil,or_false]at hb
  rcases hb with z | z | z<;>rw[z]<;>assumption
end
theorem pW {prog:Program} {w:World} {A:Around} {R:Result->Shared->Prop} {s:Shared} {elt target iter:Expr} {ifs:List Expr} {scope:Scope} {pos:Pos} {it acc:Value} {env:Env} {XE:Value->Shared->Prop} (Oz:XE=notedBy (model prog w) A env fun x s'=>R (.error x) s') (I:Nat->Shared->Prop)
  (turn: ∀n s,I n s->wpAny (model prog w) A (pyNext it) (fun r s₁=>match r with
   | none=>R (.ok .next) s₁
   | some v=>wpAny (model prog w) A (letOwnedTupleGo target it v) (fun _ Ls=>wpAny (model prog w) A (assign target env v) (fun _ s₂=>
     wpAny (model prog w) A (forIn ifs true fun c r=>if r=true then do let ok <-isTrue c env (eval c env);pure (ForInStep.yield ok) else pure (ForInStep.yield r)) (fun ok s₃=>
      if ok=true then wpAny (model prog w) A (eval elt env) (fun x s₄=>
       wpAny (model prog w) A (call (.builtin "list.append") [acc,x]) (fun _ s₅=> ∃m,m<n/\I m s₅) XE s₄) XE s₃
      else ∃m,m<n/\I m s₃) XE s₂) XE Ls) XE s₁) XE s)
  (n:Nat) (h:I n s):codeAny (model prog w) A (.compLoop (.ListComp elt [⟨target,iter,ifs,0⟩] scope pos) 0 it acc env) R s:=by
 subst Oz
 refine codeAny_loop rfl I (fun n s hI=>?_) n h
 show wpAny _ A ((compTurn (.ListComp elt [⟨target,iter,ifs,0⟩] scope pos) 0 it acc env).onRaise (fun x=>do noteFrame x env;theTreesLotGoes x)) _ _ s
 refine wpAny_noted ?_
 rw[compTurn_list]
 refine wpAny_bind (wpAny_standAt (wpAny_bind (wpAny_mono (turn n s hI) (fun r s₁ h₁=>?_) fun _ _ e=>e)))
 cases r with
 | none=>exact wpAny_pure h₁
 | some v=>
  refine wpAny_bind (wpAny_mono h₁ (fun _ Ls Px=>?_) fun _ _ e=>e)
  refine wpAny_bind (wpAny_mono Px (fun _ s₂ h₂=>wpAny_bind (wpAny_mono h₂ (fun ok s₃ h₃=>?_) fun _ _ e=>e)) fun _ _ e=>e)
  cases ok with
  | false=>exact wpAny_pure ⟨rfl,h₃⟩
  | true=>
   exact wpAny_bind (wpAny_bind (wpAny_mono h₃ (fun x s₄ h₄=>wpAny_bind (wpAny_mono h₄ (fun _ s₅ h₅=>wpAny_pure (wpAny_pure ⟨rfl,h₅⟩)) fun _ _ e=>e)) fun _ _ e=>e))
noncomputable def cD (X:Cx) (scope:Scope) (C:Addr) (Nc:List Str) (s:Shared) (H:Hp) (fp:List Addr) (pn:List (Addr×Obj)) (xe:Value->Shared->Prop):Cx:={ bh X scope C Nc s H fp with pn:=pn,xe:=xe }
section
variable {X:Cx} {scope:Scope} {C:Addr} {Nc:List Str} {s0:Shared} {H0:Hp} {fp:List Addr} {pn pins:List (Addr×Obj)} {xe:Value->Shared->Prop} {σ:St} {H:Hp} {s:Shared}
theorem Yr (I:Inv (bh X scope C Nc s0 H0 fp) (pn++pins) σ H s):Inv (cD X scope C Nc s0 H0 fp pn xe) pins σ H s:=
 ⟨⟨I.ok.mod,I.ok.kind,I.ok.glob,I.ok.blt,I.ok.above,I.ok.inj,I.ok.has,I.ok.C3,I.ok.hd,I.ok.frames,I.ok.C4,I.ok.Hi,I.ok.bs,I.ok.xT,I.ok.pO,I.ok.rG,I.ok.iT,I.ok.A8⟩,I.os,I.bare,I.base,I.loc,I.cell,I.free,I.cO,I.pin,I.a_,I.len⟩
theorem B2 (I:Inv (cD X scope C Nc s0 H0 fp pn xe) pins σ H s):Inv (bh X scope C Nc s0 H0 fp) (pn++pins) σ H s:=
 ⟨⟨I.ok.mod,I.ok.kind,I.ok.glob,I.ok.blt,I.ok.above,I.ok.inj,I.ok.has,I.ok.C3,I.ok.hd,I.ok.frames,I.ok.C4,I.ok.Hi,I.ok.bs,I.ok.xT,I.ok.pO,I.ok.rG,I.ok.iT,I.ok.A8⟩,I.os,I.bare,I.base,I.loc,I.cell,I.free,I.cO,I.pin,I.a_,I.len⟩
end
noncomputable def Ec (E:XK):XK:=fun v dO H'=> ∀(D:Addr) (acc:List V),H' D=none->E v dO (upd H' D (.lst acc))
theorem w6 {X:Cx} {E:XK} {tg iter elt:Expr} {ifs:List Expr} {scope:Scope} {pos:Pos} {wi:TI} {g:TG} {tc:TT} {te:TE} {Nc:List Str} {ix:List (Option Nat)} (hi:PI X tg iter wi) (fg:X.calm=true) (v5:iR X scope Nc ix)
  (dJ: ∀y∈scope.names,y.2≠ .cell) (dM:scope.kind= .function) (pL: ∀y∈scope.names,y.2= .free->X.env.kindOf y.1=some .cell\/X.env.kindOf y.1=some .free)
  (mL:X.stack=X.env::X.outer/\X.env.frame=some X.env.locals) (hex:X.ex=[])
  (hG: ∀C s H fp pn xe,PG (cD X scope C Nc s H fp pn xe) tg g) (hT: ∀C s H fp pn xe,PF (cD X scope C Nc s H fp pn xe) ifs tc) (hE: ∀C s H fp pn xe,jq (yy X.prog X.w X.K) (cD X scope C Nc s H fp pn xe) (fun _=>Ec E)->PE (cD X scope C Nc s H fp pn xe) elt te)
  {pins:List (Addr×Obj)} {s:Shared} {σ:St} {H:Hp} {Q:VK} (I:Inv X pins σ H s) (h:nJ wi ix g tc te σ H Q) {RR:Value->Addr->Result->Shared->Prop}
  (Py: ∀(D C:Addr) (oC:Obj) (m:Str->Option Value) (H':Hp) (s':Shared),s'.heap.get? C=some oC->s'.heap.Ns C m->iw X pins H' C->Inv X (pins++[(C,oC)]) σ H' s'->Q (.ref D) H'->RR (.ref D) C (.ok .next) s')
  (Ys: ∀(D C:Addr) (oC:Obj) (m:Str->Option Value) (H':Hp) (s':Shared) (e:Addr),s'.heap.get? C=some oC->s'.heap.Ns C m->iw X pins H' C->Inv X (pins++[(C,oC)]) σ H' s'->Flying X pins E H' s' e->RR (.ref D) C (.error (.ref e)) s'):
  wpAny (model X.prog X.w) X.A (eval iter X.env) (fun v s1=>wpAny (model X.prog X.w) X.A (pyIter v) (fun it s2=>wpAny (model X.prog X.w) X.A (newList []) (fun acc s3=>
   wpAny (model X.prog X.w) X.A (newFunctionEnv scope X.env.globals (eO X.env scope.names []) [] X.env.qual none .none (some X.env)) (fun zS s4=>
    codeAny (model X.prog X.w) X.A (.compStart (.ListComp elt [⟨tg,iter,ifs,0⟩] scope pos) 0 it acc { zS with scope:=relabel scope X.env }) (RR acc zS.locals) s4) X.xe s3) X.xe s2) X.xe s1) X.xe s:=by
 refine aS (hi pins s σ H _ I h) fun v s1 h1=>aS h1 fun Oe s2 h2=>?_
 obtain ⟨it,fp,tn,J,H2,e,I2,T,lb,f2,W,⟨m0,w0⟩,turn⟩:=h2
 subst e
 refine wpAny_newObj_type (wpAny_newFunctionEnv dJ (by intro y hy;simp at hy) (fun h₁ wN rZ=>?_) dM)
 dsimp only at wN rZ ⊢
 generalize Ic:s2.heap.push { cls:= .type "list",dict:=none,data:= .seq ([]:List Value).toArray }=P2 at wN rZ ⊢
 have hC:P2.objs.size=s2.heap.objs.size+1:=by rw[<-Ic,Heap.size_push]
 have wM:s2.heap.objs.size≠P2.objs.size:=by rw[hC];exact Nat.ne_of_lt (Nat.lt_succ_self _)
 have r6:s2.heap.objs.size<=P2.objs.size:=by rw[hC];exact Nat.le_succ _
 have C6: ∀b,b<s2.heap.objs.size->b≠P2.objs.size:=fun b hb=>by rw[hC];exact Nat.ne_of_lt (Nat.lt_succ_of_lt hb)
 have old: ∀b o,s2.heap.get? b=some o->h₁.get? b=some o:=fun b o e=>rZ.extBut b o (C6 b (Heap.lt_size e)) (Heap.get?_push_of_some _ (Ic▸Heap.get?_push_of_some _ e))
 have nK:h₁.get? s2.heap.objs.size=some { cls:= .type "list",data:= .seq ([]:List Value).toArray }:=rZ.extBut _ _ wM (Heap.get?_push_of_some _ (Ic▸Heap.get?_push_size _ rfl))
 have Lv:tn 0 h₁:=T.keep 0 _ _ lb fun b _ o e=>old b o e
 have DS: ∀b∈fp, ∃o,s2.heap.get? b=some o:=fun b hb=>let ⟨o,e,_⟩:=T.obj 0 _ lb b hb;⟨o,e⟩
 have Lw: ∀b∈fp,s2.heap.objs.size≠b:=fun b hb=>let ⟨o,e⟩:=DS b hb;Nat.ne_of_gt (Heap.lt_size e)
 have IY:=nI I2 v5 dJ dM pL f2 DS (t':=s2.toks+([]:List (Str×Value)).length) r6 wN old
 have Ie: ∀b,s2.heap.objs.size<=b->b∉jF X.stack:=fun b hb hs=>by
  rcases List.mem_cons.mp (I2.ir b hs) with z | z
  ·exact absurd (Nat.lt_of_lt_of_le I2.lt hb) (by rw[z];exact Nat.lt_irrefl _)
  ·exact I2.Dt hb z
 have iL: ∀{x:Str} {c:Addr},(eO X.env scope.names []).lookup x=some c->X.env.cells.lookup x=some c:=fun {x c} e=>jn scope.names [] (fun y d q=>by simp at q) e
 have By: ∀x c,(eO X.env scope.names []).lookup x=some c->c≠s2.heap.objs.size:=fun x c e z=>by
  obtain ⟨v,q⟩:=I2.cell x c (iL e)
  exact absurd (q.lt) (by rw[z];exact Nat.lt_irrefl _)
 have fY: ∀{pl:List (Addr×Obj)} {H':Hp},(∀p∈pl,p.1=s2.heap.objs.size)->(∀b∈fp,H' b=none)-> ∀b∈fp,iw (bh X scope P2.objs.size Nc s2 H2 fp) pl H' b:=fun {pl H'} j4 hn b hb=>by
  refine ⟨hn b hb,?_,?_, .inl hb,fun x c e=>(f2 b hb).2.2.2.2.1 x c (iL e),fun p hp=>?_⟩
  ·obtain ⟨o,e⟩:=DS b hb
   exact C6 b (Heap.lt_size e)
  ·intro hs
   rcases List.mem_cons.mp (I2.ir b hs) with z | z
   ·exact (f2 b hb).2.1 z
   ·exact (f2 b hb).2.2.1 z
  ·rw[j4 p hp]
   exact Lw b hb
 have loop: ∀s₃:Shared,s₃={ s2 with heap:=h₁,toks:=s2.toks+([]:List (Str×Value)).length }->
   codeAny (model X.prog X.w) X.A (.compLoop (.ListComp elt [⟨tg,iter,ifs,0⟩] scope pos) 0 (.ref it) (.ref s2.heap.objs.size) (compEnvC scope (eO X.env scope.names []) P2.objs.size X.env)) (RR (.ref s2.heap.objs.size) P2.objs.size) s₃:=by
  rintro s₃ rfl
  generalize Oz:(notedBy (model X.prog X.w) X.A (compEnvC scope (eO X.env scope.names []) P2.objs.size X.env) fun x s'=>RR (.ref s2.heap.objs.size) P2.objs.size (.error x) s')=XE
  refine pW (XE:=XE) Oz.symm (fun n s'=> ∃i acc its nn H',Inv (bh X scope P2.objs.size Nc s2 H2 fp) [] (iK σ ix) H' s'/\tn i s'.heap/\(∀b∈fp,H' b=none)/\
   s'.heap.get? s2.heap.objs.size=some { cls:= .type "list",data:= .seq (its:List Value).toArray nn }/\Vals acc its/\H' s2.heap.objs.size=none/\W i n acc H') ?_ m0
   ⟨0,[],[],0,H2,IY,Lv,fun b hb=>(f2 b hb).1,nK, .nil,I2.a_.fresh (Nat.le_refl _),w0⟩
  rintro n s3 ⟨i,acc,its,nn,H3,I3,ui,FZ,eD,rv,nD,w3⟩
  obtain ⟨hz,alt⟩:=turn i n acc H3 w3
  have IP:Inv (bh X scope P2.objs.size Nc s2 H2 fp) [(s2.heap.objs.size,{ cls:= .type "list",data:= .seq its.toArray nn })] (iK σ ix) H3 s3:=I3.iu fun p hp=>by
   have e:p=(s2.heap.objs.size,_):=List.mem_singleton.mp hp
   subst e
   refine ⟨eD,nD,wM,Ie _ (Nat.le_refl _),fun v z=>?_⟩
   have z':Data.seq its.toArray nn=Data.cell v:=z
   cases z'
  have j4: ∀p∈[(s2.heap.objs.size,({ cls:= .type "list",data:= .seq its.toArray nn }:Obj))],p.1=s2.heap.objs.size:=fun p hp=>by
   have e:p=(s2.heap.objs.size,_):=List.mem_singleton.mp hp
   rw[e]
  rcases alt with ⟨stop,fin⟩ | ⟨go,step⟩
  ·refine aS (T.done (bh X scope P2.objs.size Nc s2 H2 fp) rfl rfl rfl fg i _ s3 _ H3 XE IP (fY j4 FZ) ui stop) fun r s4 ⟨hr,I4⟩=>?_
   subst hr
   obtain ⟨m,hn,_⟩:=id I4.loc
   obtain ⟨oC,es,ep,eC,dC,_⟩:=id hn
   have Pz:=(I4.pin (s2.heap.objs.size,_) (List.mem_append_right _ (List.mem_singleton.mpr rfl))).1
   have Ig:=fin _ nD
   refine Py _ _ oC m _ s4 eC hn ?_ (lC I2 I4 f2 (Nat.le_refl _) r6 wM Pz rv (Nat.le_of_lt hz) nD eC fun v z=>?_) Ig
   ·refine I2.lj r6 ?_
    rw[aA (Ne.symm wM)]
    exact I4.free
   ·rw[dC]at z;cases z
  ·refine aS (T.item (bh X scope P2.objs.size Nc s2 H2 fp) rfl rfl rfl fg i _ s3 _ H3 XE IP (fY j4 FZ) ui go) fun r s4 ⟨u,hr,h4⟩=>?_
   subst hr
   refine aS h4 fun _ s5 ⟨x,H5,I5,r5,y5,mY,K9⟩=>?_
   have Kd:=I5.pinned (fY j4 K9) (T.obj _ _ mY)
   generalize OA:[(s2.heap.objs.size,({ cls:= .type "list",data:= .seq its.toArray nn }:Obj))]++jR fp s5.heap=pn at Kd
   have hp:jq (yy X.prog X.w X.K) (cD X scope P2.objs.size Nc s2 H2 fp pn XE) (fun _=>Ec E):=by
    intro yI σC Ha sa ev sb Ia hq
    obtain ⟨e,Cl,dO,T0,Hb,rfl,c,os,bare,un,a_,n1,n2,n3,n4,Eo,q⟩:=hq
    have Ib:=Ia.xU os un a_ bare (fun b z=>absurd z (by simp))
    show XE (.ref e) sb
    rw[<-Oz]
    show wpAny _ _ (noteFrame (.ref e) _) _ _ sb
    rw[Ai (env:=compEnvC scope (eO X.env scope.names []) P2.objs.size X.env) (env':=X.env) rfl]
    have yJ: ∀{sx:Shared} {σx:St} {Hx:Hp} {b:Addr},Inv (cD X scope P2.objs.size Nc s2 H2 fp pn XE) yI σx Hx sx->sx.heap.get? b=none->s2.heap.get? b=none:=fun {sx σx Hx b} Ix y=>by
     cases z:s2.heap.get? b with
     | none=>rfl
     | some o=>
      by_cases hb:b∈fp
      ·obtain ⟨o',e',_⟩:=T.obj _ _ mY b hb
       have:=(Ix.pin (b,o') (List.mem_append_left _ (by show (b,o')∈pn;rw[<-OA];exact List.mem_append_right _ (cU hb e')))).1
       rw[show sx.heap.get? b=some o' from this]at y;cases y
      ·obtain ⟨o',z'⟩:=Ix.base.there b o z hb
       rw[y]at z';cases z'
    have VU: ∀{b:Addr},s2.heap.get? b=none->X.s₀.heap.get? b=none:=fun {b} y=>by
     cases z:X.s₀.heap.get? b with
     | none=>rfl
     | some o=>
      obtain ⟨o',z'⟩:=I2.base.there b o z (by rw[hex];simp)
      rw[y]at z';cases z'
    have Ew:X.A.frames=some (X.env::X.outer):=by rw[<-mL.1];exact I2.ok.frames
    have Mt:sb.heap.FunFrames X.base (X.env::X.outer):=by rw[<-mL.1];exact Ib.stack
    refine yH (base:=X.base) Ew Mt mL.2 Eo fun h1 T hT tb k1=>?_
    have nT:Hb T=none:=by
     rcases hT with rfl | hT
     ·exact n4
     ·exact Ib.a_.none_of hT
    have oT:s2.heap.get? T=none:=by
     rcases hT with rfl | hT
     ·exact yJ Ia n2
     ·exact yJ Ib hT
    have VW:=yJ Ia n1
    have Yt:=yJ Ia n2
    have Kk:Kept (jF X.stack) [T0,e] sb.heap h1:=by rw[mL.1];exact k1
    have VX: ∀{b:Addr},sa.heap.get? b=none-> ∀p∈pn++yI,p.1≠b:=fun {b} y p hp z=>by
     have:=(Ia.pin p hp).1
     rw[z,y]at this;cases this
    obtain ⟨oe,vs,Yu,ts,t1,t2,t3,t4,t5,t6,t7,t8,t9⟩:=id Eo
    have Jb:Inv (cD X scope P2.objs.size Nc s2 H2 fp pn XE) yI σC Hb { sb with heap:=h1 }:=Ib.uM Kk fun b hb=>by
     simp only[List.mem_cons,List.not_mem_nil,or_false]at hb
     rcases hb with rfl | rfl
     ·exact ⟨Yt,fun o q=>by rw[t7]at q;cases q;exact ⟨_,t8⟩,VX n2,n4⟩
     ·exact ⟨VW,fun o q=>by rw[t1]at q;cases q;exact ⟨_,t4⟩,VX n1,n3⟩
    have pD:=fun {sx:Shared} {σx:St} {Hx:Hp} (Ix:Inv (cD X scope P2.objs.size Nc s2 H2 fp pn XE) yI σx Hx sx)=>Ix.pin (s2.heap.objs.size,({ cls:= .type "list",data:= .seq its.toArray nn }:Obj)) (List.mem_append_left _ (by show _∈pn;rw[<-OA];exact List.mem_append_left _ (List.mem_singleton.mpr rfl)))
    have Yv:=(pD Jb).1
    have EA:=(pD Jb).2.1
    have Yw:e≠s2.heap.objs.size:=fun z=>by have:=(pD Ia).1;rw[<-z]at this;rw[show sa.heap.get? e=some _ from this]at n1;cases n1
    have Yx:T≠s2.heap.objs.size:=fun z=>by
     rcases hT with y | y
     ·have:=(pD Ia).1;rw[<-z,y]at this;rw[show sa.heap.get? T0=some _ from this]at n2;cases n2
     ·have:=(pD Ib).1;rw[<-z]at this;rw[show sb.heap.get? T=some _ from this]at y;cases y
    obtain ⟨m,hn,_⟩:=id Jb.loc
    obtain ⟨oC,es,ep,eC,dC,_⟩:=id hn
    refine Ys _ _ oC m (upd Hb s2.heap.objs.size (.lst acc)) _ e eC hn ?_ (lC I2 (B2 Jb) f2 (Nat.le_refl _) r6 wM Yv rv (Nat.le_of_lt hz) EA eC fun v z=>by rw[dC]at z;cases z) ⟨Cl,dO,T,_,c,VU VW,VU oT,by rw[aA Yw];exact n3,by rw[aA Yx];exact nT,tb,fun p hp z=>(by have:=(I2.pin p hp).1;rw[z,oT]at this;cases this),q _ acc EA⟩
    refine I2.lj r6 ?_
    rw[aA (Ne.symm wM)]
    exact Jb.free
   have J5:=Yr (xe:=XE) (pins:=[]) (by rw[List.append_nil];exact Kd)
   refine aS (hG _ s2 H2 fp pn XE _ s5 _ H5 x u _ J5 r5 (step x H5 y5)) fun _ s6 ⟨σ6,H6,J6,wk,q6⟩=>?_
   refine aS (hT _ s2 H2 fp pn XE _ s6 σ6 H6 _ J6 q6) fun b s7 ⟨H7,J7,q7⟩=>?_
   have I7:=B2 J7
   rw[List.append_nil, <-OA]at I7
   have again: ∀{H9:Hp} {s9:Shared} {m':Nat},Inv (bh X scope P2.objs.size Nc s2 H2 fp) ([(s2.heap.objs.size,({ cls:= .type "list",data:= .seq its.toArray nn }:Obj))]++jR fp s5.heap) σ6 H9 s9->
     (s9.heap.get? s2.heap.objs.size=some { cls:= .type "list",data:= .seq its.toArray nn }/\H9 s2.heap.objs.size=none)/\tn (i+1) s9.heap/\(∀b∈fp,H9 b=none)/\Inv (bh X scope P2.objs.size Nc s2 H2 fp) [] (iK σ ix) H9 s9:=fun {H9 s9 m'} I9=>by
    have pD:=I9.pin (s2.heap.objs.size,_) (List.mem_append_right _ (List.mem_append_left _ (List.mem_singleton.mpr rfl)))
    refine ⟨⟨pD.1,pD.2.1⟩,T.keep _ _ _ mY fun b hb o e=>(I9.pin (b,o) (List.mem_append_right _ (List.mem_append_right _ (cU hb e)))).1,fun b hb=>?_,?_⟩
    ·obtain ⟨o,e,d⟩:=T.obj _ _ mY b hb
     exact (I9.pin (b,o) (List.mem_append_right _ (List.mem_append_right _ (cU hb e)))).2.1
    ·exact (I9.weak wk.len fun i v e=>wk.get e).iu fun p hp=>absurd hp (by simp)
   cases b with
   | false=>
    rw[if_neg Bool.false_ne_true]at q7 ⊢
    obtain ⟨m',hm,w7⟩:=q7
    obtain ⟨⟨e7,n7⟩,t7,f7,J7⟩:=again (m':=0) I7
    exact ⟨m',hm,i+1,acc,its,nn,H7,J7,t7,f7,e7,rv,n7,w7⟩
   | true=>
    rw[if_pos rfl]at q7 ⊢
    refine aS (hE _ s2 H2 fp pn XE hp _ s7 σ6 H7 _ J7 q7) fun y s8 ⟨v,H8,Yy,r8,m',hm,w8⟩=>?_
    have I8:=B2 Yy
    rw[List.append_nil, <-OA]at I8
    obtain ⟨⟨e8,n8⟩,t8,f8,J8⟩:=again (m':=0) I8
    refine wpAny_list_append_plain (items:=its.toArray) ⟨nn,e8⟩ (fun h9 PD Lx=>?_) (by rw[List.size_toArray, <-rv.length];exact Nat.le_of_lt hz)
    obtain ⟨n9,e9⟩:=PD
    refine ⟨m',hm,i+1,acc++[v],its++[y],n9,H8,J8.turned (t':=s8.toks) (fun b o hb e=>(Lx.2 b hb).trans e) n8 wM (.inr (Nat.le_refl _)) By (fun p hp=>absurd hp (by simp[bh])),?_,f8,?_,rv.append (.cons r8 .nil),n8,w8⟩
    ·exact T.keep _ _ _ t8 fun b hb o e=>(Lx.2 b (Ne.symm (Lw b hb))).trans e
    ·simpa using e9
 exact codeAny_compStart_list (loop _ rfl) (T.self _ 0 _ _ _ Lv (loop _ rfl))
theorem EB {h h':Heap} {e C T Z:Addr} {dO:Option Addr} {fl:Value} (t:Tb h e C dO T fl) (k: ∀b o,b≠Z->h.get? b=some o->h'.get? b=some o) (he:e≠Z) (hT:T≠Z):Tb h' e C dO T fl:=by
 obtain ⟨oe,vs,oT,ts,t1,t2,t3,t4,t5,t6,t7,t8,t9⟩:=t
 exact ⟨oe,vs,oT,ts,k _ _ he t1,t2,t3,t4,t5,t6,k _ _ hT t7,t8,t9⟩
theorem uS {X:Cx} {E:XK} {pins:List (Addr×Obj)} {σ:St} (hX:sv X E) {Q:Value->Shared->Prop} {use:Option (Value->Sem Unit)} (D C:Addr) (oC:Obj) (m:Str->Option Value) (H':Hp) (s':Shared) (e:Addr) (eC:s'.heap.get? C=some oC) (hn:s'.heap.Ns C m) (fC:iw X pins H' C) (I':Inv X (pins++[(C,oC)]) σ H' s')
  (fl:Flying X pins E H' s' e):compPost (model X.prog X.w) X.A X.xe use Q (.ref D) C (.error (.ref e)) s':=by
 obtain ⟨Cl,dO,T,v,c,n1,n2,n3,n4,tb,pT,q⟩:=fl
 obtain ⟨oC',es,ep,VY,dC,_⟩:=id hn
 obtain ⟨oe,vs,oT,ts,t1,t2,t3,t4,t5,t6,t7,t8,t9⟩:=id tb
 have eZ:e≠C:=fun z=>by rw[z,VY]at t1;cases t1;rw[dC]at t4;cases t4
 have TZ:T≠C:=fun z=>by rw[z,VY]at t7;cases t7;rw[dC]at t8;cases t8
 refine ⟨m,hn,fun h' iS zS _=>?_⟩
 have VZ:=EB tb (fun b o hb e=>(iS.2 b hb).trans e) eZ TZ
 have J:=I'.fe.turned (t':=s'.toks) (fun b o hb e=>(iS.2 b hb).trans e) fC.1 fC.2.1 fC.2.2.2.1 fC.2.2.2.2.1 fC.2.2.2.2.2
 refine Jd (S:=jF X.stack) VZ fun h2 Jc BR k2=>?_
 obtain ⟨VN,VO,Yu,ts',u1,u2,u3,u4,u5,u6,u7,u8,u9⟩:=id VZ
 refine hX pins σ H' _ e (J.uM k2 fun b hb=>?_) ⟨Cl,dO,T,Jc,c,n1,n2,n3,n4,BR,pT,q⟩
 rw[List.mem_singleton.mp hb]
 exact ⟨n2,fun o z=>by rw[show h'.get? T=some o from z]at u7;cases u7;exact ⟨_,u8⟩,pT,n4⟩
theorem B3 {X:Cx} {E:XK} {i:Nat} {x:Str} {tg iter elt:Expr} {ifs:List Expr} {scope:Scope} {pos uy pos':Pos} {wi:TI} {g:TG} {tc:TT} {te:TE} (Nc:List Str) (ix:List (Option Nat)) (hX:sv X E) (mL:X.stack=X.env::X.outer/\X.env.frame=some X.env.locals) (hex:X.ex=[]) (hN:X.N.Nodup) (Ly:X.N[i]? =some x) (hx:Loc X.env.scope x)
  (hi:PI X tg iter wi) (v5:iR X scope Nc ix)
  (hG: ∀C s H fp pn xe,PG (cD X scope C Nc s H fp pn xe) tg g) (hT: ∀C s H fp pn xe,PF (cD X scope C Nc s H fp pn xe) ifs tc) (hE: ∀C s H fp pn xe,jq (yy X.prog X.w X.K) (cD X scope C Nc s H fp pn xe) (fun _=>Ec E)->PE (cD X scope C Nc s H fp pn xe) elt te)
  (Lz:swapsWith (.ListComp elt [⟨tg,iter,ifs,0⟩] scope pos) (some (.Name x pos')) uy.line X.env=pure true:=by rfl) (a_:nW X scope=true:=by rfl) (fg:X.calm=true:=by rfl)
  (hs: ∀x,foldedSetIterable iter X.env x=pure x:=by intro _;rfl) (hf:X.fn x=true\/X.env.scope.names.lookup x=some .local:=by first | exact .inl rfl | exact .inr rfl | assumption):
  PS X (.Assign [.Name x pos'] (.ListComp elt [⟨tg,iter,ifs,0⟩] scope pos) uy) (Bi (nJ wi ix g tc te) (uh i)):=by
 obtain ⟨dJ,dM,pL,nM⟩:=iA a_
 intro pins s σ H Ee I h
 have Gh: ∀y∈scope.names,y.2= .free-> ∃c,X.env.cells.lookup y.1=some c:=fun y hy e=>I.ok.has y.1 (pL y hy e)
 rw[exec_Assign_Name_used _ _ _ _ Lz]
 refine wpAny_bind (wpAny_standAt (wpAny_bind ?_))
 show wpAny _ X.A (do let _ <-comprehension (.ListComp elt [⟨tg,iter,ifs,0⟩] scope pos) scope X.env _ (newList []) false (eval iter X.env) (some (assign (.Name x pos') X.env))) _ _ s
 refine wpAny_bind (wpAny_mono (wpAny_comprehension_free (use:=some (assign (.Name x pos') X.env)) (Q:=fun _ s'=>SP X pins Ee .next s') rfl hs (gC Gh) dM nM
  (w6 hi fg v5 dJ dM pL mL hex hG hT hE I h (RR:=fun acc C=>compPost (model X.prog X.w) X.A X.xe (some (assign (.Name x pos') X.env)) (fun _ s'=>SP X pins Ee .next s') acc C) ?_ (uS hX))) (fun _ s' hq=>wpAny_pure (wpAny_pure hq)) fun _ _ e=>e)
 intro D C oC m H' s' eC hn fC I' q
 show wpAny _ X.A (assign (.Name x pos') X.env (.ref D)) _ _ _
 refine wpAny_assign_Name (fb I' hN Ly hx (show RelV (.ref D) _ from rfl) (fun HI LA=>?_) hf)
 have pC:=LA.pin (C,oC) (List.mem_append_right _ (List.mem_append_right _ (List.mem_singleton.mpr rfl)))
 refine ⟨m,?_,fun h' iS=>?_⟩
 ·obtain ⟨o,es,ep,e,r⟩:=hn
  rw[eC]at e;cases e
  exact ⟨oC,es,ep,pC.1,r⟩
 ·refine ⟨_,H',LA.fe.turned (t':=HI.toks) (fun b o hb e=>(iS.2 b hb).trans e) fC.1 fC.2.1 fC.2.2.2.1 fC.2.2.2.2.1 fC.2.2.2.2.2,q⟩
end L2
set_option maxHeartbeats 1000000
namespace L2
open PySem PySem.Spec PyProof.Rows
section
variable {X:Cx}
noncomputable def Aj:List V->Hp->VK->Prop:=fun xs H Q=> ∃p d kvs,xs=[.ref p]/\H p=some (yr p d)/\H d=some (.dK kvs)/\kvs.length<=100000/\ ∀l,H l=none->Q (.ref l) (upd H l (.lst (kvs.map (·.2))))
theorem yK: ∀{xs:List V} {us vs:List Value},Vals xs us->vs.length=us.length->(∀(j:Nat) (v:Value),vs[j]? =some v->us[j]? =some v)->Vals xs vs
 | _,_,[], .nil,_,_=> .nil
 | _,_,v::vs, .cons r t,hl,h=>by
  have e:=h 0 v rfl
  simp only[List.getElem?_cons_zero,Option.some.injEq]at e
  rw[<-e]
  exact .cons r (yK t (by simpa using hl) fun j v e=>by have:=h (j+1) v (by simpa using e);simpa using this)
theorem pX (hc:X.calm=true):cL X (.type "list") Aj:=by
 intro pins s σ H xs us Q I r h
 obtain ⟨p,d,kvs,rfl,hp,hd,hz,q⟩:=h
 obtain ⟨u,rfl,ru⟩:=vals1 r
 cases ru
 obtain ⟨z,lo,ws,kv,dd⟩:=yo I.a_ hd
 obtain ⟨hv,_,_⟩:bI X.prog X.w H s.heap p (yr p d):=I.a_ p _ hp
 have hv:s.heap.IsValuesView p d:=hv
 obtain ⟨o,es,ep,ho,he,Qg,hk,Qh,hn⟩:=dd
 have hm:s.heap.DictAt (bB X.prog X.w) d ws ep:=⟨o,es,ho,he,Qg,hk,Qh,hn⟩
 have rr:=yt kv
 have hlw:ws.length=kvs.length:=by have:=rr.length;simpa using this.symm
 have hs:(100000:Nat)<sizeLine:=by decide
 refine PySem.W.kdl_call (PySem.W.kdl_values (knd:=bB X.prog X.w) (kvs:=ws) (ep:=ep)) (I.ok.hd hc) ⟨hv,hm⟩ (by omega) fun h' tk cW c' Yz e nK=>?_
 obtain ⟨h1,h2⟩:=nK
 refine ⟨.ref s.heap.objs.size,_,I.laid (t':=tk) (o:= .lst (kvs.map (·.2))) Yz (Nat.le_refl _) ?_,rfl,q _ I.fresh⟩
 refine ⟨by rw[List.length_map];omega,cW.toList,c',yK rr (by simpa using h1) (fun j v ej=>?_),by simpa using e⟩
 obtain ⟨k,ek⟩:=h2 j v (by simpa using ej)
 rw[List.getElem?_map,ek]
 rfl
end
end L2
namespace L2
open PySem PySem.Spec PyProof.Rows
section
variable {X:Cx}
noncomputable def B4:List V->Hp->VK->Prop:=fun xs H Q=> ∃x,xs=[x, .ty "list"]/\((∃p ys,x= .ref p/\H p=some (.lst ys)/\Q (.bl true) H)\/(∃p ys,x= .ref p/\H p=some (.tup ys)/\Q (.bl false) H)\/(∃z,x= .str z/\Q (.bl false) H))
theorem iB (K:PySem.W.Frag) (h:X.K=K):cL X (.builtin "isinstance") B4:=by
 subst h
 intro pins s σ H xs us Q I r h
 obtain ⟨x,rfl,h⟩:=h
 obtain ⟨u,w',rfl,r1,r2⟩:=vals2 r
 cases (show w'=Value.type "list" from r2)
 rcases h with ⟨p,ys,rfl,hq,q⟩ | ⟨p,ys,rfl,hq,q⟩ | ⟨z,rfl,q⟩
 ·exact g7 I r1 (.lst hq) (by unfold PySem.W.kitOne;rw[if_pos (by decide)]) fun tk=>⟨.bl true,H,I.tok _,rfl,q⟩
 ·exact g7 I r1 (.tup hq) (b:=false) (by unfold PySem.W.kitOne;rw[if_neg (by decide)];rfl) fun tk=>⟨.bl false,H,I.tok _,rfl,q⟩
 ·exact g7 I r1 (.str z) (b:=false) (by unfold PySem.W.kitOne;rw[if_neg (by decide)];rfl) fun tk=>⟨.bl false,H,I.tok _,rfl,q⟩
end
end L2
namespace PySem
open Sem (wp)
section
variable {prog:Program} {w:World} {K:Type} [DecidableEq K] (knd:KeyKind prog w K)
noncomputable def Kl (h:Heap) (p:K×List K) (a:Addr):Prop:= ∃o v b n,h.get? a=some o/\o.cls= .type "tuple"/\o.data= .seq #[v, .ref b] n/\knd.is p.1 v=true/\IsTupleKey knd h p.2 b
variable {knd}
variable {A:Around} {E:Value->Shared->Prop} {s:Shared}
end
end PySem
namespace PySem
open Sem (wp)
namespace F
end F
section
variable {prog:Program} {w:World} {A:Around} {E:Value->Shared->Prop} {s:Shared}
end
section
variable {prog:Program} {w:World} {K:Type} [DecidableEq K] {knd:HeapKind prog w K} {A:Around} {E:Value->Shared->Prop} {s:Shared}
end
end PySem
namespace L2
open PySem PySem.Spec PyProof.Rows
noncomputable def Mu (H:Hp) (k:Key×List Key) (a:Addr):Prop:= ∃b,H a=some (.tup [kV k.1, .ref b])/\H b=some (.tup (k.2.map kV))
section
variable {X:Cx} {o i:Expr} {pos:Pos} {td ty:TE}
structure YA where
 t:Addr
 a:Addr
 k:Key×List Key
 n:Int
structure V0 (H:Hp) (e:YA):Prop where
 tp:H e.t=some (.tup [.ref e.a, .int e.n])
 ky:Mu H e.k e.a
end
end L2
namespace L2.F2
open PySem PySem.Spec PyProof.Rows
end L2.F2
namespace L2
open PySem PySem.Spec PyProof.Rows
section
variable {prog:Program} {w:World} {A:Around} {E:Value->Shared->Prop} {s:Shared}
noncomputable def Qi (h:Heap) (it a:Addr) (i:Int):Prop:= ∃o,h.get? it=some o/\o.cls= .type "reversed"/\o.data= .fields #[.ref a,rawInt i]
end
section
variable {X:Cx} {tg:Expr}
end
end L2
set_option maxHeartbeats 1000000
namespace L2
open PySem PySem.Spec PyProof.Rows
section
variable {X:Cx}
end
end L2
namespace L2
open PySem PySem.Spec PyProof.Rows PySem.W
section
noncomputable def Ev (lt:Nat->Nat->Bool) (n:Nat) {α:Type}:KasT α->(α->Prop)->Prop
 | .ret a,Q=>Q a
 | .ask i j k,Q=>i<n/\j<n/\Ev lt n (k (lt i j)) Q
structure Tot (lt:Nat->Nat->Bool) (n:Nat):Prop where
 tr: ∀a b c,lt b a=false->lt c b=false->lt c a=false
 sm: ∀a b,lt a b=true->lt b a=false
 tt: ∀a b,a<n->b<n->a≠b->lt a b=false->lt b a=true
noncomputable def Pm (p:Array Nat) (n:Nat):Prop:=p.Perm (List.range n).toArray
section
variable {lt:Nat->Nat->Bool} {n:Nat}
end
end
section
variable {prog:Program} {w:World} {A:Around} {E:Value->Shared->Prop} {s:Shared}
end
section
variable {X:Cx}
end
end L2
namespace L2
open PySem PySem.Spec PyProof.Rows
section
variable {X:Cx} {tg:Expr}
end
section
variable {X:Cx} {tg:Expr}
end
end L2
namespace L2
open PySem PySem.Spec PyProof.Rows PySem.MeetsSeq PySem.SeqAt
section
variable {X:Cx}
end
end L2
namespace L2
open PySem PySem.Spec PyProof.Rows
noncomputable abbrev fm (h:Heap) (z TI TO:Addr) (f0:Value) (f:Bool):Prop:=
 h.get? z=some { cls:= .type "zip",dict:=none,data:= .fields #[f0, .bool f, .bool false, .ref TI, .ref TO],slots:= #[] }
noncomputable def Dc (h:Heap) (z TI TO:Addr):Prop:= ∃f0 f,fm h z TI TO f0 f/\(f0= .none\/ ∃a:Nat,f0=rawInt a)
theorem Dc.keep {h h':Heap} {z TI TO:Addr} (x:Dc h z TI TO) (k: ∀o,h.get? z=some o->h'.get? z=some o):Dc h' z TI TO:=by
 obtain ⟨f0,f,e,g⟩:=x
 exact ⟨f0,f,k _ e,g⟩
section
variable {prog:Program} {w:World} {A:Around} {E:Value->Shared->Prop} {s:Shared}
variable {z TI TO i1 i2:Addr} {f1 f2:List Addr} {n1 n2 i:Nat} {P1 P2:Nat->Value->Prop} {S1 S2:Nat->Heap->Prop} {a b:Value}
theorem Ak {a:Addr} {Q:Option Obj->Shared->Prop} (h:Q (s.heap.get? a) s):wpAny (model prog w) A (loadIfAlive a) Q E s:=by
 exact fun _ _ _=>h
theorem uT {Q:Bool->Shared->Prop} {f0:Value} {f:Bool} (hz:fm s.heap z TI TO f0 f) (h0:f0= .none\/ ∃a:Nat,f0=rawInt a)
  (h: ∀b h' f',fm h' z TI TO f0 f'->h'.objs.size=s.heap.objs.size->(∀c o,c≠z->s.heap.get? c=some o->h'.get? c=some o)->Q b { s with heap:=h' }):
  wpAny (model prog w) A (Builtin.SmallTypes.ownedTupleIsFree (.ref z)) Q E s:=by
 unfold Builtin.SmallTypes.ownedTupleIsFree
 refine wpAny_bind (m:=field (.ref z) 0) (wpAny_field hz rfl (x:=f0) rfl ?_)
 rcases h0 with rfl | ⟨a,rfl⟩
 ·exact wpAny_pure (h true s.heap f hz rfl fun c o _ e=>e)
 ·show wpAny _ _ (loadIfAlive (a:Int).toNat >>= _) _ _ s
  refine wpAny_bind (Ak ?_)
  cases hg:s.heap.get? (a:Int).toNat with
  | none=>exact wpAny_pure (h true s.heap f hz rfl fun c o _ e=>e)
  | some o=>
   show wpAny _ _ (field (.ref z) 1 >>= _) _ _ s
   refine wpAny_bind (wpAny_field hz rfl (x:= .bool f) rfl ?_)
   cases f with
   | true=>exact wpAny_pure (h false s.heap true hz rfl fun c o _ e=>e)
   | false=>
    show wpAny _ _ (setField (.ref z) 1 (.bool true) >>= fun _=>pure false) _ _ s
    refine wpAny_bind (wpAny_setField_rec hz (by simp) fun k1 EC w9=>?_)
    exact wpAny_pure (h false k1 true EC w9.1 fun c o hc e=>w9.extBut _ _ hc e)
theorem Al {Q:Value->Shared->Prop} (D1:Draws prog w A i1 f1 n1 P1 S1) (D2:Draws prog w A i2 f2 n2 P2 S2) (Z:ZA z TI TO i1 i2 f1 f2)
  (hz:Dc s.heap z TI TO) (Gy:IsPair s.heap TI (.ref i1) (.ref i2)) (Qj:IsPair s.heap TO a b) (h1:S1 i s.heap) (h2:S2 i s.heap) (l1:i<n1) (l2:i<n2)
  (hQ: ∀x y h' tk,P1 i x->P2 i y->Dc h' z TI TO->(∃a b,IsPair h' TO a b)->S1 (i+1) h'->S2 (i+1) h'->IsPair h' s.heap.objs.size x y->
   (∀c o,c≠z->c≠TO->c≠i1->c≠i2->s.heap.get? c=some o->h'.get? c=some o)->Q (.ref s.heap.objs.size) { s with heap:=h',toks:=tk }):
  wpAny (model prog w) A (Builtin.«zip.__next__» ⟨[.ref z],[]⟩) (fun fin s'=> ∃v,fin= .done (.ret v)/\Q v s') E s:=by
 obtain ⟨hp,g,d,YB,os⟩:=s
 obtain ⟨f0,f,hz,h0⟩:=hz
 have i1z:=nm Z.m1 Z.z1
 have i2z:=nm Z.m2 Z.z2
 have V1:=nm Z.m1 Z.o1
 have V2:=nm Z.m2 Z.o2
 have i21:=nm Z.m2 Z.c1
 refine wpAny_bind (m:=field (.ref z) 2) (wpAny_field hz rfl (x:= .bool false) rfl ?_)
 refine wpAny_bind (m:=field (.ref z) 3) (wpAny_field hz rfl (x:= .ref TI) rfl ?_)
 refine wpAny_bind (m:=seqItems? (.ref TI)) (wpAny_seqItems Gy rfl ?_)
 refine wpAny_bind (m:=Builtin.SmallTypes.ownedTupleIsFree (.ref z)) ?_
 refine uT hz h0 fun b0 k0 f' Km Je yL=>?_
 replace Je:k0.objs.size=hp.objs.size:=Je
 replace yL: ∀c o,c≠z->hp.get? c=some o->k0.get? c=some o:=yL
 have YC:IsPair k0 TI (.ref i1) (.ref i2):=yL _ _ Z.tz Gy
 have Mv:IsPair k0 TO a b:=yL _ _ Z.oz Qj
 have Mw:S1 i k0:=D1.frame _ _ _ h1 fun c hc o e=>yL _ _ (nm hc Z.z1) e
 have V3:S2 i k0:=D2.frame _ _ _ h2 fun c hc o e=>yL _ _ (nm hc Z.z2) e
 cases b0 with
 | true=>
  simp only[if_true]
  refine wpAny_bind (wpAny_rule ?_);refine wpAny_bind (m:=field (.ref z) 4) (wpAny_field Km rfl (x:= .ref TO) rfl ?_)
  refine wpAny_bind (wpAny_setField_rec Km (by simp) fun k1 EC w9=>?_)
  replace EC:fm k1 z TI TO .ellipsis f':=EC
  replace w9:Heap.SameBut z k0 k1:=w9
  refine wpAny_bind ?_;simp only[List.zipIdx_cons,List.zipIdx_nil,List.forIn_cons,List.forIn_nil]
  refine wpAny_bind (wpAny_bind (wpAny_onRaise ?_));refine wpAny_bind (m:=Builtin.SmallTypes.nextOf (.ref i1)) ?_
  refine D1.item i _ _ _ l1 (D1.frame _ _ _ Mw fun c hc o e=>w9.extBut _ _ (nm hc Z.z1) e) fun x k2 YD px lb qT=>wpAny_pure ?_
  replace qT:Heap.SameBut i1 k1 k2:=qT
  have to2:IsPair k2 TO a b:=qT.extBut _ _ (Ne.symm V1) (w9.extBut _ _ Z.oz Mv)
  refine wpAny_bind (m:=seqItems? (.ref TO)) (wpAny_seqItems to2 rfl ?_)
  refine wpAny_bind (wpAny_updateSeq_pair to2 fun k3 to3 Dd=>?_)
  replace to3:IsPair k3 TO x b:=to3
  replace Dd:Heap.SameBut TO k2 k3:=Dd
  refine wpAny_bind (wpAny_letGo (wpAny_pure ?_));refine wpAny_bind (wpAny_bind (wpAny_onRaise ?_))
  refine wpAny_bind (m:=Builtin.SmallTypes.nextOf (.ref i2)) ?_
  refine D2.item i _ _ _ l2 (D2.frame _ _ _ V3 fun c hc o e=>Dd.extBut _ _ (nm hc Z.o2) (qT.extBut _ _ (nm hc Z.c1) (w9.extBut _ _ (nm hc Z.z2) e))) fun y k4 Qk py Kn w_=>wpAny_pure ?_
  replace w_:Heap.SameBut i2 k3 k4:=w_
  have V4:IsPair k4 TO x b:=w_.extBut _ _ (Ne.symm V2) to3
  refine wpAny_bind (m:=seqItems? (.ref TO)) (wpAny_seqItems V4 rfl ?_)
  refine wpAny_bind (wpAny_updateSeq_pair V4 fun k5 OB Jf=>?_)
  replace OB:IsPair k5 TO x y:=OB
  replace Jf:Heap.SameBut TO k4 k5:=Jf
  refine wpAny_bind (wpAny_letGo (wpAny_pure (wpAny_pure ?_)));refine wpAny_bind (m:=seqItems? (.ref TO)) (wpAny_seqItems OB rfl ?_)
  refine wpAny_bind (wpAny_newTuple ?_)
  have sz:k5.objs.size=hp.objs.size:=by rw[Jf.1,w_.1,Dd.1,qT.1,w9.1,Je]
  have z5:fm k5 z TI TO .ellipsis f':=Jf.extBut _ _ (Ne.symm Z.oz) (w_.extBut _ _ (Ne.symm i2z) (Dd.extBut _ _ (Ne.symm Z.oz) (qT.extBut _ _ (Ne.symm i1z) EC)))
  have kp: ∀c o,c≠z->c≠TO->c≠i1->c≠i2->hp.get? c=some o->k5.get? c=some o:=fun c o c1 c2 c3 c4 e=>Jf.extBut _ _ c2 (w_.extBut _ _ c4 (Dd.extBut _ _ c2 (qT.extBut _ _ c3 (w9.extBut _ _ c1 (yL _ _ c1 e)))))
  have Ql:S1 (i+1) k5:=D1.frame _ _ _ lb fun c hc o e=>Jf.extBut _ _ (nm hc Z.o1) (w_.extBut _ _ (nm hc Z.c2) (Dd.extBut _ _ (nm hc Z.o1) e))
  have YE:S2 (i+1) k5:=D2.frame _ _ _ Kn fun c hc o e=>Jf.extBut _ _ (nm hc Z.o2) e
  have zl:z<k5.objs.size:=Heap.lt_size z5
  refine wpAny_bind (m:=Builtin.SmallTypes.ownedTupleHandOut (.ref z) (.ref k5.objs.size)) ?_
  have z6:fm (k5.push { cls:= .type "tuple",data:= .seq #[x,y] }) z TI TO .ellipsis f':=Heap.get?_push_of_some _ z5
  (unfold Builtin.SmallTypes.ownedTupleHandOut;refine wpAny_bind (wpAny_setField_rec z6 (by simp) fun k7 z7 s7=>?_))
  replace z7:fm k7 z TI TO (rawInt k5.objs.size) f':=z7
  refine wpAny_setField_rec z7 (by simp) fun k8 z8 s8=>?_
  replace z8:fm k8 z TI TO (rawInt k5.objs.size) false:=z8
  have up: ∀c o,c≠z->k5.get? c=some o->k8.get? c=some o:=fun c o c1 e=>s8.extBut _ _ c1 (s7.extBut _ _ c1 (Heap.get?_push_of_some _ e))
  have t8:IsPair k8 k5.objs.size x y:=s8.extBut _ _ (Nat.ne_of_gt zl) (s7.extBut _ _ (Nat.ne_of_gt zl) (Heap.get?_push_size _ rfl))
  rw[sz]at t8
  refine wpAny_pure ⟨_,rfl,?_⟩
  show Q (.ref k5.objs.size) _
  rw[sz]
  exact hQ x y k8 Qk px py ⟨_,_,z8, .inr ⟨_,rfl⟩⟩ ⟨_,_,up _ _ Z.oz OB⟩ (D1.frame _ _ _ Ql fun c hc o e=>up c o (nm hc Z.z1) e) (D2.frame _ _ _ YE fun c hc o e=>up c o (nm hc Z.z2) e) t8 fun c o c1 c2 c3 c4 e=>up c o c1 (kp c o c1 c2 c3 c4 e)
 | false=>
  simp only[Bool.false_eq_true,if_false]
  refine wpAny_bind ?_
  rw[<-Array.forIn_toList]
  simp only[List.forIn_cons,List.forIn_nil]
  refine wpAny_bind (wpAny_bind (wpAny_holding ?_));refine wpAny_bind (m:=Builtin.SmallTypes.nextOf (.ref i1)) ?_
  refine D1.item i _ _ _ l1 Mw fun x k2 YD px lb qT=>wpAny_pure (wpAny_pure ?_)
  replace qT:Heap.SameBut i1 k0 k2:=qT
  refine wpAny_bind (wpAny_bind (wpAny_holding ?_));refine wpAny_bind (m:=Builtin.SmallTypes.nextOf (.ref i2)) ?_
  refine D2.item i _ _ _ l2 (D2.frame _ _ _ V3 fun c hc o e=>qT.extBut _ _ (nm hc Z.c1) e) fun y k4 Qk py Kn w_=>wpAny_pure (wpAny_pure (wpAny_pure ?_))
  replace w_:Heap.SameBut i2 k2 k4:=w_
  show wpAny _ _ (newTuple [x,y] >>= _) _ _ _
  refine wpAny_bind (wpAny_newTuple ?_)
  have sz:k4.objs.size=hp.objs.size:=by rw[w_.1,qT.1,Je]
  refine wpAny_pure ⟨_,rfl,?_⟩
  show Q (.ref k4.objs.size) _
  have up: ∀c o,k4.get? c=some o->(k4.push { cls:= .type "tuple",data:= .seq #[x,y] }).get? c=some o:=fun c o e=>Heap.get?_push_of_some _ e
  have z4:fm k4 z TI TO f0 f':=w_.extBut _ _ (Ne.symm i2z) (qT.extBut _ _ (Ne.symm i1z) Km)
  have o4:IsPair k4 TO a b:=w_.extBut _ _ (Ne.symm V2) (qT.extBut _ _ (Ne.symm V1) Mv)
  have t8:IsPair (k4.push { cls:= .type "tuple",data:= .seq #[x,y] }) k4.objs.size x y:=Heap.get?_push_size _ rfl
  rw[sz]at t8
  have e0:Value.ref k4.objs.size=Value.ref hp.objs.size:=by rw[sz]
  rw[e0]
  exact hQ x y _ Qk px py ⟨_,_,up _ _ z4,h0⟩ ⟨_,_,up _ _ o4⟩ (D1.frame _ _ _ lb fun c hc o e=>up c o (w_.extBut _ _ (nm hc Z.c2) e)) (D2.frame _ _ _ Kn fun c hc o e=>up c o e) t8 fun c o c1 c2 c3 c4 e=>up c o (w_.extBut _ _ c4 (qT.extBut _ _ c3 (yL _ _ c1 e)))
theorem B5 {Q:Fin->Shared->Prop} (D1:Draws prog w A i1 f1 n1 P1 S1) (Z:ZA z TI TO i1 i2 f1 f2)
  (hz:Dc s.heap z TI TO) (Gy:IsPair s.heap TI (.ref i1) (.ref i2)) (h1:S1 n1 s.heap)
  (hE: ∀h' e,(∀c o,c≠z->c≠TO->c≠i1->c≠i2->s.heap.get? c=some o->h'.get? c=some o)->(∃o,h'.get? e=some o/\o.cls= .type "StopIteration")->E (.ref e) { s with heap:=h' }):
  wpAny (model prog w) A (Builtin.«zip.__next__» ⟨[.ref z],[]⟩) Q E s:=by
 obtain ⟨hp,g,d,YB,os⟩:=s
 obtain ⟨f0,f,hz,h0⟩:=hz
 have i1z:=nm Z.m1 Z.z1
 refine wpAny_bind (m:=field (.ref z) 2) (wpAny_field hz rfl (x:= .bool false) rfl ?_)
 refine wpAny_bind (m:=field (.ref z) 3) (wpAny_field hz rfl (x:= .ref TI) rfl ?_)
 refine wpAny_bind (m:=seqItems? (.ref TI)) (wpAny_seqItems Gy rfl ?_)
 refine wpAny_bind (m:=Builtin.SmallTypes.ownedTupleIsFree (.ref z)) ?_
 refine uT hz h0 fun b0 k0 f' Km Je yL=>?_
 replace Je:k0.objs.size=hp.objs.size:=Je
 replace yL: ∀c o,c≠z->hp.get? c=some o->k0.get? c=some o:=yL
 have Mw:S1 n1 k0:=D1.frame _ _ _ h1 fun c hc o e=>yL _ _ (nm hc Z.z1) e
 cases b0 with
 | true=>
  simp only[if_true]
  refine wpAny_bind (wpAny_rule ?_);refine wpAny_bind (m:=field (.ref z) 4) (wpAny_field Km rfl (x:= .ref TO) rfl ?_)
  refine wpAny_bind (wpAny_setField_rec Km (by simp) fun k1 EC w9=>?_)
  replace EC:fm k1 z TI TO .ellipsis f':=EC
  replace w9:Heap.SameBut z k0 k1:=w9
  refine wpAny_bind ?_;simp only[List.zipIdx_cons,List.zipIdx_nil,List.forIn_cons,List.forIn_nil]
  refine wpAny_bind (wpAny_bind (wpAny_onRaise ?_));refine wpAny_bind (m:=Builtin.SmallTypes.nextOf (.ref i1)) ?_
  refine D1.done _ _ _ (D1.frame _ _ _ Mw fun c hc o e=>w9.extBut _ _ (nm hc Z.z1) e) fun k2 e qT he=>?_
  obtain ⟨oe,Qm,V5⟩:=he
  have z2:fm k2 z TI TO .ellipsis f':=qT _ _ (Ne.symm i1z) EC
  have ez:e≠z:=fun x=>by subst x;rw[z2]at Qm;cases Qm;simp at V5
  refine wpAny_setField_rec z2 (by simp) fun k3 _ Dd=>hE k3 e (fun c o c1 _ c3 _ x=>Dd.extBut _ _ c1 (qT _ _ c3 (w9.extBut _ _ c1 (yL _ _ c1 x)))) ⟨oe,Dd.extBut _ _ ez Qm,V5⟩
 | false=>
  simp only[Bool.false_eq_true,if_false]
  refine wpAny_bind ?_
  rw[<-Array.forIn_toList]
  simp only[List.forIn_cons,List.forIn_nil]
  refine wpAny_bind (wpAny_bind (wpAny_holding ?_));refine wpAny_bind (m:=Builtin.SmallTypes.nextOf (.ref i1)) ?_
  refine D1.done _ _ _ Mw fun k2 e qT he=>hE k2 e (fun c o c1 _ c3 _ x=>qT _ _ c3 (yL _ _ c1 x)) he
theorem uU {Q:Option Value->Shared->Prop} (D1:Draws prog w A.in1 i1 f1 n1 P1 S1) (D2:Draws prog w A.in1 i2 f2 n2 P2 S2) (Z:ZA z TI TO i1 i2 f1 f2)
  (hz:Dc s.heap z TI TO) (Gy:IsPair s.heap TI (.ref i1) (.ref i2)) (Qj:IsPair s.heap TO a b) (h1:S1 i s.heap) (h2:S2 i s.heap) (l1:i<n1) (l2:i<n2)
  (hQ: ∀x y h' tk,P1 i x->P2 i y->Dc h' z TI TO->(∃a b,IsPair h' TO a b)->S1 (i+1) h'->S2 (i+1) h'->IsPair h' s.heap.objs.size x y->
   (∀c o,c≠z->c≠TO->c≠i1->c≠i2->s.heap.get? c=some o->h'.get? c=some o)->Q (some (.ref s.heap.objs.size)) { s with heap:=h',toks:=tk }):
  wpAny (model prog w) A (pyNext (.ref z)) Q E s:=by
 have hT:s.TypeIs (.ref z) "zip":=by
  obtain ⟨f0,f,e,_⟩:=hz
  exact ⟨_,e,rfl⟩
 unfold pyNext
 exact wpAny_bind (wpAny_attempt (wpAny_callSpecial?_slot (name:=Str.ofString "__next__") hT F.slot_zip_next (wpAny_call_entry F.slot_zip_next hT F.entry_zip_next
   (Al D1 D2 Z hz Gy Qj h1 h2 l1 l2 fun x y h' tk p1 p2 a1 a2 a3 a4 a5 a6=>wpAny_pure (hQ x y h' tk p1 p2 a1 a2 a3 a4 a5 a6)) (F.args_zip_next_1 _))))
theorem xa {Q:Option Value->Shared->Prop} (D1:Draws prog w A.in1 i1 f1 n1 P1 S1) (Z:ZA z TI TO i1 i2 f1 f2)
  (hz:Dc s.heap z TI TO) (Gy:IsPair s.heap TI (.ref i1) (.ref i2)) (h1:S1 n1 s.heap)
  (hQ: ∀h',(∀c o,c≠z->c≠TO->c≠i1->c≠i2->s.heap.get? c=some o->h'.get? c=some o)->Q none { s with heap:=h' }):wpAny (model prog w) A (pyNext (.ref z)) Q E s:=by
 have hT:s.TypeIs (.ref z) "zip":=by
  obtain ⟨f0,f,e,_⟩:=hz
  exact ⟨_,e,rfl⟩
 unfold pyNext
 refine wpAny_bind (wpAny_attempt (wpAny_callSpecial?_slot (name:=Str.ofString "__next__") hT F.slot_zip_next (wpAny_call_entry F.slot_zip_next hT F.entry_zip_next (B5 D1 Z hz Gy h1 fun h' e hk he=>?_) (F.args_zip_next_1 _))))
 obtain ⟨o,ho,hc⟩:=he
 refine wpAny_bind (wpAny_isInstance (T:="StopIteration") (b:=true) ⟨o,ho,hc⟩ isSubtype_stop (wpAny_pure (hQ _ hk)))
end
section
variable {X:Cx} {nx:Str} {pos':Pos} {a b:Expr} {ta:TA} {p pos:Pos}
end
end L2
namespace L2
open PySem PySem.Spec PyProof.Rows HT
section
variable {prog:Program} {w:World} {A:Around} {E:Value->Shared->Prop} {s:Shared}
theorem ku {t sl:Addr} {items:Array Value} {vl vu:Value} {lo hi:Option Int} {Q:Value->Shared->Prop} (ht:IsTup s.heap t items) (hs:s.heap.IsSliceOf sl vl vu .none) (pl:IsPart vl lo) (pu:IsPart vu hi)
  (hw:cB items.size 0 lo=0/\cB items.size items.size hi=items.size) (h:Q (.ref t) s):wpAny (model prog w) A (getItem (.ref t) (.ref sl)) Q E s:=by
 obtain ⟨os,HK,Ke,Lg⟩:=id hs
 have Ge:s.TypeIs (.ref sl) "slice":=⟨os,HK,Ke⟩
 unfold getItem
 try with_reducible refine wpAny_holding ?_
 first | refine wpAny_bind (wpAny_pure ?_) | skip
 refine wpAny_bind (wpAny_sequenceKey ht.typeIs (by decide) ?_)
 refine wpAny_bind (wpAny_callSpecial?_slot (name:=Str.ofString "__getitem__") ht.typeIs PyProof.Rows.slot_tuple_getitem
  (wpAny_call_entry PyProof.Rows.slot_tuple_getitem ht.typeIs entry_tuple_getitem ?_ (args_tuple_getitem _ _)))
 show wpAny _ _ (Builtin.Tuple.tupleItemsOf (.ref t) >>= _) _ _ s
 refine wpAny_bind (tupleItemsOf_ ht ?_)
 refine wpAny_bind (wpAny_typeOf Ge ?_)
 rw[if_pos (by decide)]
 refine wpAny_bind (g8 hs pl pu ?_)
 show wpAny _ _ (if (((cB items.size 0 lo:Nat):Int)==0&&(1:Int)==1&&(cB items.size items.size hi - cB items.size 0 lo)==items.size)=true then _ else _) _ _ s
 rw[if_pos (by rw[hw.1,hw.2];simp)]
 show wpAny _ _ (Builtin.Tuple.tupleIsExact (.ref t) >>= _) _ _ s
 refine wpAny_bind (m:=Builtin.Tuple.tupleIsExact (.ref t)) (wpAny_bind (wpAny_typeOf ht.typeIs (wpAny_pure ?_)))
 show wpAny _ _ (if true=true then _ else _) _ _ s
 rw[if_pos rfl]
 exact wpAny_bind (wpAny_rule (wpAny_pure ⟨_,rfl,wpAny_pure h⟩))
end
section
variable {X:Cx}
noncomputable def Qn:V->Option Int->Option Int->Hp->VK->Prop:=fun x lo hi H Q=> ∃a xs,x= .ref a/\H a=some (.tup xs)/\
 ∀p H',(∀c o,H c=some o->H' c=some o)->H' p=some (.tup (ka xs lo hi))->Q (.ref p) H'
theorem yM:Lh X Qn:=by
 intro pins s σ H x v vl vu lo hi sl Q I rx hs pl pu h
 obtain ⟨a,xs,rfl,hx,q⟩:=h
 cases rx
 obtain ⟨its,r,ht,hz⟩:=I.tuple (bp.of hx)
 have hlen:its.toArray.size=xs.length:=by rw[List.size_toArray];exact r.length.symm
 refine ⟨"tuple",_,PyProof.Rows.slot_tuple_getitem.lookup,ht.typeIs,?_⟩
 by_cases hw:HT.cB xs.length 0 lo=0/\HT.cB xs.length xs.length hi=xs.length
 ·refine ku ht hs pl pu (by rw[hlen];exact hw) ⟨.ref a,H,I,rfl,q a H (fun _ _ e=>e) ?_⟩
  unfold ka
  rw[hw.1,hw.2,List.drop_zero,Nat.sub_zero,List.take_length]
  exact hx
 refine HT.j_ ht hs pl pu (by rw[hlen];exact hw) ?_ (by rw[hlen];exact hz)
 rw[hlen]
 have n:=I.a_.fresh (Nat.le_refl s.heap.objs.size)
 refine ⟨.ref s.heap.objs.size,_,I.laid (t':=s.toks) (o:= .tup (ka xs lo hi)) (fun b ob q=>Heap.get?_push_of_some _ q) (Nat.le_refl _) ?_,rfl,q _ _ (fun c o e=>?_) ag⟩
 ·exact ⟨Nat.le_trans (l_ xs lo hi) hz,_,(r.drop (HT.cB xs.length 0 lo)).take (HT.cB xs.length xs.length hi - HT.cB xs.length 0 lo),IsTup.new _ _⟩
 ·rw[aA (fun z=>by rw[z,n]at e;cases e)];exact e
end
end L2
namespace L2
open PySem PySem.Spec PyProof.Rows
structure KD (K:PySem.W.Frag) (P:Program) (w:World) (a:Addr) (kvs:List (Key×V)):Prop where
 sm:(a==sysModules)=false
 ok: ∃vs ep,KV kvs vs/\ ∀h:Heap,K.In h->h.DictAt (bB P w) a vs ep
noncomputable def Mx (K:PySem.W.Frag) (P:Program) (w:World) (td ty:TE):TE:=fun σ H Q=>td σ H fun x H1=>ty σ H1 fun y H2=> ∃a kvs k v,x= .ref a/\KD K P w a kvs/\y=kV k/\cQ kvs k=some v/\Q v H2
noncomputable def Mz (K:PySem.W.Frag) (P:Program) (w:World) (n:Bool) (ty td:TE):TE:=fun σ H Q=>ty σ H fun y H1=>td σ H1 fun x H2=> ∃a kvs k,x= .ref a/\KD K P w a kvs/\y=kV k/\Q (.bl (n != (cQ kvs k).isSome)) H2
noncomputable def YF (K:PySem.W.Frag) (P:Program) (w:World) (td:TE):TI:=fun σ H R=>td σ H fun x H1=> ∃a kvs,x= .ref a/\KD K P w a kvs/\R (BE (kvs.map fun kv=>kV kv.1)) H1
theorem Jg {kvs:List (Key×V)} {vs:List (Key×Value)} (r:KV kvs vs): ∀{i:Nat} {p:Key×V} {q:Key×Value},kvs[i]? =some p->vs[i]? =some q->q.1=p.1:=by
 unfold KV at r
 induction r with
 | nil=>intro i p q h;simp at h
 | @cons a b as bs h t ih=>
  intro i p q h1 h2
  cases i with
  | zero=>simp at h1 h2;rw[<-h1, <-h2];exact h.1.symm
  | succ i=>exact ih (by simpa using h1) (by simpa using h2)
section
variable {X:Cx} {o i e value tg:Expr} {pos pos' Le:Pos} {td ty tv:TE} (K:PySem.W.Frag) (P:Program) (w:World)
theorem sC (hK:X.K=K) (hP:X.prog=P) (hw:X.w=w) (ho:PE X o td) (hi:PE X i ty) (hs:Iu i):PE X (.Subscript o i pos) (Mx K P w td ty):=by
 subst hK hP hw
 intro pins s σ H Q I h
 refine yp PySem.F.slot_dict_getitem.lookup hs (aS (ho pins s σ H _ I h) fun u s1 ⟨x,H1,I1,rx,q1⟩=>aS (hi pins s1 σ H1 _ I1 q1) fun iv s2 ⟨y,H2,I2,ry,a,kvs,k,v,ex,g,ek,hv,q2⟩=>?_)
 subst ex ek
 obtain rfl:u=Value.ref a:=rx
 obtain ⟨vs,ep,rel,at_⟩:=g.ok
 have dd:=(at_ _ I2.iU).dictOf
 obtain ⟨w',hw,zK⟩:=ip.some_of (v:=v) (o:=valueAt vs k) (by rw[<-hv];exact rel.val k)
 exact ⟨dd.typeIs,wpAny_getItem_of (jK ry) dd.mapOf hw ⟨v,H2,I2.tok _,zK,q2⟩⟩
theorem Jh (hK:X.K=K) (hP:X.prog=P) (hw:X.w=w) (hi:PE X i ty) (ho:PE X o td):PC X .In i o (Mz K P w false ty td):=by
 subst hK hP hw
 intro pins s σ H Q I h
 refine aS (hi pins s σ H _ I h) fun iv s1 ⟨y,H1,I1,ry,q1⟩=>aS (ho pins s1 σ H1 _ I1 q1) fun u s2 ⟨x,H2,I2,rx,a,kvs,k,ex,g,ek,q2⟩=>?_
 subst ex ek
 obtain rfl:u=Value.ref a:=rx
 obtain ⟨vs,ep,rel,at_⟩:=g.ok
 have dd:=(at_ _ I2.iU).dictOf
 refine wpAny_in_of (jK ry) g.sm dd.mapOf ?_
 rw[<-(rel.val k).dQ]
 exact ⟨.bl (cQ kvs k).isSome,H2,I2.tok _,rfl,by simpa using q2⟩
theorem ED (hK:X.K=K) (hP:X.prog=P) (hw:X.w=w) (hi:PE X i ty) (ho:PE X o td):PC X .NotIn i o (Mz K P w true ty td):=by
 subst hK hP hw
 intro pins s σ H Q I h
 refine aS (hi pins s σ H _ I h) fun iv s1 ⟨y,H1,I1,ry,q1⟩=>aS (ho pins s1 σ H1 _ I1 q1) fun u s2 ⟨x,H2,I2,rx,a,kvs,k,ex,g,ek,q2⟩=>?_
 subst ex ek
 obtain rfl:u=Value.ref a:=rx
 obtain ⟨vs,ep,rel,at_⟩:=g.ok
 have dd:=(at_ _ I2.iU).dictOf
 refine wpAny_notIn_of (jK ry) g.sm dd.mapOf ?_
 rw[<-(rel.val k).dQ]
 exact ⟨.bl (!(cQ kvs k).isSome),H2,I2.tok _,rfl,by simpa using q2⟩
theorem EE {a it:Addr} {kvs:List (Key×V)} {vs:List (Key×Value)} {ep:Nat} (rel:KV kvs vs) (at_: ∀h:Heap,K.In h->h.DictAt (bB P w) a vs ep):Turn P w K tg (BE (kvs.map fun kv=>kV kv.1)) [it] it (fun i h=>h.IsKeyIter it a i vs.length ep) where
 mem:=by simp
 obj:=fun i h st b hb=>by
  have e:b=it:=by simpa using hb
  subst e
  obtain ⟨o,e,c,d⟩:=st
  exact ⟨o,e,fun v z=>by rw[d]at z;cases z⟩
 keep:=fun i h h' st k=>st.at fun o e=>k it (by simp) o e
 item:=by
  intro X hP hw hK hc i pins s σ H E I hf st hg
  subst hP hw hK
  have BG:i<kvs.length:=by have:i<(kvs.map fun kv=>kV kv.1).length:=hg;rwa [List.length_map]at this
  have hl:kvs.length=vs.length:=Paired.length rel
  have Ko:i<vs.length:=by omega
  obtain ⟨f0,f1,f2,f3,f4,f5⟩:=hf it (by simp)
  refine wpAny_pyNext_dict_item (k:=vs[i].1) (v:=vs[i].2) st (at_ _ I.iU) (List.getElem?_eq_getElem Ko) fun key h' wx aT sb=>?_
  have I1:Inv X pins σ H { s with heap:=h' }:=I.turned (t':=s.toks) (fun b o hb e=>(sb.2 b hb).trans e) f0 f1 f3 f4 f5
  obtain ⟨o,e,c,d⟩:=id aT
  have hk:vs[i].1=kvs[i].1:=Jg rel (List.getElem?_eq_getElem BG) (List.getElem?_eq_getElem Ko)
  refine ⟨key,rfl,qw (s:={ s with heap:=h' }) e c d (by decide) ⟨kV kvs[i].1,H,I1,?_,⟨rfl,by rw[List.getElem?_map,List.getElem?_eq_getElem BG];rfl⟩,aT,fun b hb=>(hf b hb).1⟩⟩
  rw[hk]at wx
  rcases bP wx with ⟨j,t,e1,e2⟩ | ⟨x,t,e1,e2⟩
  ·rw[e1,e2];exact ⟨t,rfl⟩
  ·rw[e1,e2];exact ⟨t,rfl⟩
 done:=by
  intro X hP hw hK hc i pins s σ H E I hf st hg
  subst hP hw hK
  have BG:kvs.length<=i:=by have:(kvs.map fun kv=>kV kv.1).length<=i:=hg;rwa [List.length_map]at this
  have hl:kvs.length=vs.length:=Paired.length rel
  obtain ⟨f0,f1,f2,f3,f4,f5⟩:=hf it (by simp)
  exact wpAny_pyNext_dict_end (I.ok.hd hc) st (at_ _ I.iU) (List.getElem?_eq_none (by omega)) fun h' eb=>⟨rfl,I.turned (t':=s.toks) (fun b o hb e=>eb b o hb e) f0 f1 f3 f4 f5⟩
 self:=fun _ _ _ _ _ st h=>wpAny_pyIter_keyiter st h
theorem MA {l:Expr} {tl:TE} (hK:X.K=K) (hP:X.prog=P) (hw:X.w=w) (hl:PE X l tl):PI X tg l (YF K P w tl):=by
 subst hK hP hw
 intro pins s σ H R I h
 refine aS (hl pins s σ H _ I h) fun v s1 ⟨x,H1,I1,r1,q1⟩=>?_
 obtain ⟨a,kvs,e,g,q⟩:=q1
 subst e
 cases r1
 obtain ⟨vs,ep,rel,at_⟩:=g.ok
 refine wpAny_pyIter_dict g.sm (at_ _ I1.iU) ?_
 refine ⟨s1.heap.objs.size,[s1.heap.objs.size],_,_,H1,rfl,I1.kept (t':=s1.toks) fun b o e=>Heap.get?_push_of_some _ e,EE X.K X.prog X.w rel at_,⟨_,Heap.get?_push_size _ rfl,rfl,rfl⟩,fun b hb=>?_,q⟩
 have e:b=s1.heap.objs.size:=by simpa using hb
 subst e
 exact I1.lj (Nat.le_refl _) (I1.a_.fresh (Nat.le_refl _))
end
end L2
namespace L2
open PySem PySem.Spec PyProof.Rows
theorem sE (l p:List Nat) (i:Nat):Builtin.Str.subAt (S l) (S p) i=decide ((l.drop i).take p.length=p):=by
 unfold Builtin.Str.subAt
 have e:(S l).cps.extract i (i+(S p).length)=((l.drop i).take p.length).toArray:=by
  rw[aY]
  apply Array.ext'
  simp[S,List.take_drop]
 rw[e]
 show (((l.drop i).take p.length).toArray==p.toArray)=_
 by_cases h:(l.drop i).take p.length=p
 ·rw[decide_eq_true h,h];simp
 ·rw[decide_eq_false h,beq_eq_false_iff_ne]
  exact fun z=>h (by have:=congrArg Array.toList z;simpa using this)
theorem uV {n i:Nat}:fromIndex n (i:Int)=i:=by
 unfold fromIndex
 rw[if_neg (by omega)]
 omega
theorem Ji (l:List Nat) (c i:Nat) (h:i<=l.length):Builtin.Str.occurrences (S l) (S [c]) i (S l).length 1=if c∈l.drop i then [i+(l.drop i).idxOf c] else []:=by
 rw[StrLaws.occ_eq,occ_first _ _ _ _ i fun j hj=>by have:=List.mem_range'_1.mp hj;omega]
 have e:(fun i=>decide (i+(S [c]).length<=(S l).length)&&Builtin.Str.subAt (S l) (S [c]) i)=fun i=>decide (i+1<=l.length)&&(l[i]? ==some c):=by
  funext i
  rw[subAt_one,aY,aY]
  rfl
 rw[e,aY,kh l c i (l.length+1 - i) (by omega)]
 by_cases g:c∈l.drop i
 ·rw[if_pos g,if_pos g];rfl
 ·rw[if_neg g,if_neg g];rfl
theorem B6 (a b p:List Nat) (c:Nat) (h:c∉a):Builtin.Str.occurrences (S (a++(c::p)++b)) (S (c::p)) 0 (S (a++(c::p)++b)).length 1=[a.length]:=by
 rw[StrLaws.occ_eq,occ_first _ _ _ _ 0 fun _ _=>Nat.zero_le _]
 have hl:(a++(c::p)++b).length=a.length+(p.length+1)+b.length:=by simp;omega
 have no: ∀i,i<a.length->(decide (i+(S (c::p)).length<=(S (a++(c::p)++b)).length)&&Builtin.Str.subAt (S (a++(c::p)++b)) (S (c::p)) i)=false:=fun i hi=>by
  refine Bool.and_eq_false_iff.mpr (.inr ?_)
  rw[sE]
  refine decide_eq_false fun z=>?_
  rw[List.append_assoc,List.drop_append_of_le_length (by omega),List.drop_eq_getElem_cons hi]at z
  have:=(List.cons.inj z).1
  exact h (by rw[<-this];exact List.getElem_mem hi)
 have yes:(decide (a.length+(S (c::p)).length<=(S (a++(c::p)++b)).length)&&Builtin.Str.subAt (S (a++(c::p)++b)) (S (c::p)) a.length)=true:=by
  rw[sE,aY,aY,hl,decide_eq_true (by simp),Bool.true_and]
  refine decide_eq_true ?_
  rw[List.append_assoc,List.drop_append_of_le_length (Nat.le_refl _),List.drop_length,List.nil_append,List.take_append_of_le_length (Nat.le_refl _),List.take_length]
 rw[aY (a++(c::p)++b),hl,Nat.sub_zero]
 have go: ∀(n k:Nat),k<=a.length->a.length<k+n->((List.range' k n).find? fun i=>decide (i+(S (c::p)).length<=a.length+(p.length+1)+b.length)&&Builtin.Str.subAt (S (a++(c::p)++b)) (S (c::p)) i)=some a.length:=by
  intro n
  induction n with
  | zero=>intro k h1 h2;omega
  | succ n ih=>
   intro k h1 h2
   rw[List.range'_succ,List.find?_cons]
   rcases Nat.lt_or_eq_of_le h1 with g | g
   ·have:=no k g
    rw[aY (a++(c::p)++b),hl]at this
    rw[this]
    exact ih (k+1) (by omega) (by omega)
   ·rw[g]
    have:=yes
    rw[aY (a++(c::p)++b),hl]at this
    rw[this]
 rw[go _ 0 (Nat.zero_le _) (by omega)]
 rfl
theorem Gz (l:List Nat) (i j:Nat):Builtin.Str.strSub (S l) i j=S ((l.drop i).take (j - i)):=by
 unfold Builtin.Str.strSub S
 congr 1
 apply Array.ext'
 simp
section
variable {X:Cx}
noncomputable def Jj:V->List V->Hp->VK->Prop:=fun x vs H Q=> ∃(l:List Nat) (c i:Nat),x= .str (S l)/\vs=[.str (S [c]), .int i]/\i<=l.length/\Q (.int (if c∈l.drop i then ((i+(l.drop i).idxOf c:Nat):Int) else -1)) H
theorem B7:rR X "str.find" Jj:=by
 intro pins s σ H x xs v us Q I rx rv h
 obtain ⟨l,c,i,rfl,rfl,hi,q⟩:=h
 obtain ⟨t,rfl⟩:=rx
 obtain ⟨u,u',rfl,⟨t',rfl⟩,⟨t2,rfl⟩⟩:=vals2 rv
 refine SC.find3 ⟨.int _,H,I.tok _,⟨_,rfl⟩,?_⟩
 have e:Txt.find3 (S l) (S [c]) (i:Int)=(if c∈l.drop i then ((i+(l.drop i).idxOf c:Nat):Int) else -1):=by
  unfold Txt.find3
  rw[uV,Ji l c i hi]
  by_cases g:c∈l.drop i
  ·rw[if_pos g,if_pos g]
  ·rw[if_neg g,if_neg g]
 rw[e]
 exact q
noncomputable def EF:V->List V->Hp->VK->Prop:=fun x vs H Q=> ∃(l p:List Nat) (i:Nat),x= .str (S l)/\vs=[.str (S p), .int i]/\Q (.bl (decide (i+p.length<=l.length)&&decide ((l.drop i).take p.length=p))) H
theorem lL:rR X "str.startswith" EF:=by
 intro pins s σ H x xs v us Q I rx rv h
 obtain ⟨l,p,i,rfl,rfl,q⟩:=h
 obtain ⟨t,rfl⟩:=rx
 obtain ⟨u,u',rfl,⟨t',rfl⟩,⟨t2,rfl⟩⟩:=vals2 rv
 refine SC.startswith3 ⟨.bl _,H,I,rfl,?_⟩
 unfold Txt.startswith3
 rw[uV,sE,aY,aY]
 exact q
noncomputable def Jk:V->List V->Hp->VK->Prop:=fun x vs H Q=> ∃(a b p:List Nat) (c:Nat),x= .str (S (a++(c::p)++b))/\vs=[.str (S (c::p))]/\c∉a/\(a++(c::p)++b).length<=1000000/\ ∀T,H T=none->Q (.ref T) (upd H T (.tup [.str (S a), .str (S (c::p)), .str (S b)]))
theorem B8:rR X "str.partition" Jk:=by
 intro pins s σ H x xs v us Q I rx rv h
 obtain ⟨a,b,p,c,rfl,rfl,hc,hz,q⟩:=h
 obtain ⟨t,rfl⟩:=rx
 obtain ⟨u,rfl,tu,rfl⟩:=vals1 rv
 have Qc:(S (a++(c::p)++b)).length<=sizeLine:=by rw[aY];exact Nat.le_trans hz (by decide)
 refine call_meets F.slot_str_partition (typeIs_str _ _ _) F.entry_str_partition (F.args_str_partition_2 _ _) (meets_str_partition _ _ t tu (by rw[aY];rfl) Qc) ?_
 rw[B6 a b p c hc]
 have hf:H s.heap.objs.size=none:=I.a_.fresh (Nat.le_refl _)
 refine ⟨.ref s.heap.objs.size,_,I.laid (o:= .tup [.str (S a), .str (S (c::p)), .str (S b)]) (t':=s.toks+1+1) (fun b u e=>Heap.get?_push_of_some _ e) (Nat.le_refl _) ?_,rfl,q _ hf⟩
 have e1:Builtin.Str.strSub (S (a++(c::p)++b)) 0 a.length=S a:=by
  rw[Gz,List.drop_zero,Nat.sub_zero,List.append_assoc,List.take_append_of_le_length (Nat.le_refl _),List.take_length]
 have e2:Builtin.Str.strSub (S (a++(c::p)++b)) (a.length+(S (c::p)).length) (S (a++(c::p)++b)).length=S b:=by
  rw[Gz,aY,aY]
  congr 1
  have hd:(a++(c::p)++b).drop (a.length+(c::p).length)=b:=by
   rw[<-List.length_append,List.drop_append_of_le_length (Nat.le_refl _),List.drop_length,List.nil_append]
  rw[hd,List.take_of_length_le]
  simp only[List.length_append]
  omega
 rw[e1,e2]
 exact ⟨by show 3<=sizeLine;decide,_, .cons ⟨_,rfl⟩ (.cons ⟨_,rfl⟩ (.cons ⟨_,rfl⟩ .nil)),_,Heap.get?_push_size _ rfl,rfl,_,rfl⟩
end
end L2
namespace L2
open PySem PySem.Spec PyProof.Rows
section
variable {X:Cx}
noncomputable def MB:List V->Hp->VK->Prop:=fun xs H Q=>(∃n:Nat,xs=[.int n]/\n<2 ^ 60/\Q (.str (S (dg n))) H)\/ ∃l,xs=[.str (S l)]/\Q (.str (S l)) H
theorem Am:cL X (.type "str") MB:=by
 intro pins s σ H xs us Q I r h
 rcases h with h | ⟨l,rfl,q⟩
 ·exact Ag pins s σ H xs us Q I r h
 ·obtain ⟨u,rfl,t,rfl⟩:=vals1 r
  exact PySem.P.str_of_str ⟨.str (S l),H,I,⟨t,rfl⟩,q⟩
theorem EG: ∀c,c<58->48<=c->PySem.intText? ⟨#[c]⟩=some ((c - 48:Nat):Int):=by decide+kernel
noncomputable def MC:List V->Hp->VK->Prop:=fun xs H Q=> ∃c,xs=[.str (S [c])]/\48<=c/\c<58/\Q (.int ((c - 48:Nat):Int)) H
theorem An:cL X (.type "int") MC:=by
 intro pins s σ H xs us Q I r h
 obtain ⟨c,rfl,h1,h2,q⟩:=h
 obtain ⟨u,rfl,t,rfl⟩:=vals1 r
 exact PySem.W.KIN.call_text (EG c h2 h1) (by rw[aY];show 1<=640;decide) ⟨.int _,H,I.tok _,⟨_,rfl⟩,q⟩
end
end L2
namespace L2
open PySem PySem.Spec PyProof.Rows
noncomputable def Kp (w:World):List (Key×V)->List DictEntry->Prop
 | [],[]=>True
 |(k,v)::r,e::es=>(∃x t,k=Sum.inr x/\e.key= .str x t/\e.hash=PyData.keyHash w.params x)/\RelV v e.val/\Kp w r es
 | _,_=>False
noncomputable def KE (kvs:List (Key×V)) (w:World) (es:Array DictEntry):Prop:=Kp w kvs es.toList
theorem Kp.vs {P:Program} {w:World}: ∀{kvs:List (Key×V)} {es:List DictEntry},Kp w kvs es-> ∃vs,KV kvs vs/\Pairs (bB P w) es vs/\vs.map (·.1)=kvs.map (·.1)/\ ∀e∈es, ∃k,lX k e.key=true/\e.hash=KH w k
 | [],[],_=>⟨[], .nil, .nil,rfl,fun _ h=>absurd h List.not_mem_nil⟩
 |(k,v)::r,e::es,⟨⟨x,t,h1,h2,h3⟩,h4,h5⟩=>by
  obtain ⟨vs,a,b,c,d⟩:=Kp.vs (P:=P) h5
  subst h1
  have hk:lX (Sum.inr x) e.key=true:=by rw[h2];exact qt x t
  refine ⟨(Sum.inr x,e.val)::vs, .cons ⟨rfl,h4⟩ a, .cons hk rfl b,by rw[List.map_cons,List.map_cons,c],fun e' he=>?_⟩
  rcases List.mem_cons.mp he with g | g
  ·rw[g];exact ⟨Sum.inr x,hk,h3⟩
  ·exact d e' g
theorem KE.kd {K:PySem.W.Frag} {P:Program} {w:World} {a:Addr} {es:Array DictEntry} {ep:Nat} {kvs:List (Key×V)} (hl:K.lookup a=some ⟨.type "dict",none, .dict es ep, #[]⟩) (he:KE kvs w es) (hs:(a==sysModules)=false) (hn:(kvs.map (·.1)).Nodup):KD K P w a kvs:=by
 obtain ⟨vs,x,b,c,d⟩:=Kp.vs (P:=P) he
 exact ⟨hs,vs,ep,x,fun h KI=>⟨_,es,KI _ _ hl,⟨rfl,rfl,rfl⟩,rfl,fun e he=>d e (by simpa using he),b,by rw[c];exact hn⟩⟩
theorem S_lit {s:String} {l:List Nat} (h:(Str.ofString s).cps.toList=l):Str.ofString s=S l:=by
 unfold S
 rw[<-h]
theorem ke_int {i:Int} {t:Tok}:RelV (.int i) (.int i t):=⟨t,rfl⟩
theorem ke_str {x:Str} {l:List Nat} {t:Tok} (h:x=S l):RelV (.str (S l)) (.str x t):=⟨t,by rw[h]⟩
theorem ke_key {w:World} {x:Str} {l:List Nat} {t:Tok} {v:Value} (h:x=S l): ∃y t',(Sum.inr (S l):Key)=Sum.inr y/\(DictEntry.mk (PyData.keyHash w.params x) (.str x t) v).key= .str y t'/\(DictEntry.mk (PyData.keyHash w.params x) (.str x t) v).hash=PyData.keyHash w.params y:=⟨x,t,by rw[h],rfl,rfl⟩
end L2
namespace L2
open PySem PySem.Spec PyProof.Rows
section
variable {X:Cx} {tg:Expr}
end
end L2
set_option maxHeartbeats 1000000
namespace L2
open PySem PySem.Spec PyProof.Rows
section
variable {prog:Program} {w:World} {A:Around} {E:Value->Shared->Prop} {s:Shared}
theorem sG (z:Addr):Builtin.«tuple.__new__» ⟨[.type "tuple", .ref z],[]⟩=(do
  let b <-Builtin.Tuple.tupleIsExact (.ref z)
  if b=true then do
   rule "tuple.new.same-object"
   ret (.ref z)
  else do
   let xs <-collect (.ref z)
   let v <-Builtin.Tuple.tupleExact xs.toArray
   ret v):=by
 kernel_rfl
theorem kx {z:Addr} {T:String} {Q:Value->Shared->Prop} (hT:s.TypeIs (.ref z) T) (z9:(Value.type T==Value.type "tuple")=false)
  (h:wpAny (model prog w) A.in1.in1 (collect (.ref z)) (fun xs s'=>xs.length<=sizeLine/\Q (.ref s'.heap.objs.size) { s' with heap:=s'.heap.push { cls:= .type "tuple",data:= .seq xs.toArray } }) E s):
  wpAny (model prog w) A (call (.type "tuple") [.ref z]) Q E s:=by
 refine callType_newIn F.called_tuple (by decide) (F.typeCall_tuple_1 _) (F.newCall_tuple_1 _) (fun ob=>F.args_object_init_2 ob _) F.entry_tuple_new (S:=fun A' R s=>wpAny (model prog w) A'.in1 (Builtin.«tuple.__new__» ⟨[.type "tuple", .ref z],[]⟩) (fun fin s'=>match fin with | .done f=>R (.ok f) s' | .again c'=>c'.quiet=true/\codeAny (model prog w) A' c' R s') (fun e s'=>R (.error e) s') s) (fun A' R s h=>h) ?_
 show wpAny (model prog w) A.in1.in1 _ _ _ s
 rw[sG]
 refine wpAny_bind (m:=Builtin.Tuple.tupleIsExact (.ref z)) ?_
 unfold Builtin.Tuple.tupleIsExact
 refine wpAny_bind (wpAny_typeOf hT (wpAny_pure ?_))
 rw[z9]
 refine wpAny_bind (aS h fun xs s' h'=>?_)
 unfold Builtin.Tuple.tupleExact
 refine wpAny_bind (wpAny_newObj_type ?_ (by show xs.toArray.size<=sizeLine;simpa using h'.1))
 exact wpAny_pure ⟨⟨_,Heap.get?_push_size _ rfl,rfl⟩,h'.2⟩
theorem qU {R:Result->Shared->Prop} (S I:Addr) (res:Value) (n:Nat) (hn:n<=sizeLine) (Jv:Nat->Array Value->Shared->Prop) (Fv:Array Value->Shared->Prop)
  (item: ∀i acc s (Q:Option Value->Shared->Prop) (E:Value->Shared->Prop),i<n->Jv i acc s->(∀v s' c,s'.heap.get? S=some { cls:= .type "list",data:= .seq acc c }->acc.size=i->Jv (i+1) (acc.push v) { s' with heap:=s'.heap.update S (Obj.mapSeq fun x=>x.push v) }->Q (some v) s')->wpAny (model prog w) A.in1 (pyNext (.ref I)) Q E s)
  (done: ∀acc s (Q:Option Value->Shared->Prop) (E:Value->Shared->Prop),Jv n acc s->(∀s',Fv acc s'->Q none s')->wpAny (model prog w) A.in1 (pyNext (.ref I)) Q E s):
  ∀(k i:Nat) (s:Shared) (acc:Array Value),n - i=k->i<=n->Jv i acc s->(∀s' cW,Fv cW s'->R (.ok (.ret res)) s')->
   codeAny (model prog w) A (.builtin "list.extend.loop" ⟨[.ref S, .ref I,res],[]⟩) R s
 | 0,i,s,acc,hk,hi,hj,hR=>by
  have e:i=n:=by omega
  subst e
  refine codeAny_builtin PySem.F.entry_extend_loop ?_
  rw[Around.under_plainId PySem.F.plain_extend_loop _]
  show wpAny _ A.in1 (pyNext (.ref I) >>= _) _ _ s
  exact wpAny_bind (done acc s _ _ hj fun s' hf=>wpAny_pure (hR s' acc hf))
 | k+1,i,s,acc,hk,hi,hj,hR=>by
  refine codeAny_builtin PySem.F.entry_extend_loop ?_
  rw[Around.under_plainId PySem.F.plain_extend_loop _]
  show wpAny _ A.in1 (pyNext (.ref I) >>= _) _ _ s
  refine wpAny_bind (item i acc s _ _ (by omega) hj fun v s' c hS hz YG=>?_)
  show wpAny _ A.in1 (updateSeq S (fun x=>x.push v) >>= _) _ _ s'
  refine wpAny_bind (wpAny_updateSeq hS rfl ?_ (by omega) (by rw[Array.size_push];omega))
  exact wpAny_pure ⟨plainId_quiet PySem.F.plain_extend_loop _,qU S I res n hn Jv Fv item done k (i+1) _ _ (by omega) (by omega) YG hR⟩
theorem Ao:typeLookup (.type "zip") "__len__"=pure none:=by kernel_rfl
theorem xf:typeLookup (.type "zip") "__length_hint__"=pure none:=by kernel_rfl
theorem uW {Q:List Value->Shared->Prop} {z TI TO:Addr} {f0:Value} (hz:IsZip s.heap z TI TO f0) (n:Nat) (hn:n<=sizeLine) (Jv:Nat->Array Value->Shared->Prop) (Fv:Array Value->Shared->Prop)
  (h0: ∀h',h'.get? s.heap.objs.size=some { cls:= .type "list",data:= .seq #[] }\/(∃c,h'.get? s.heap.objs.size=some { cls:= .type "list",data:= .seq #[] c })->(∀b o,s.heap.get? b=some o->h'.get? b=some o)->Jv 0 #[] { s with heap:=h' })
  (item: ∀i acc s1 (Q:Option Value->Shared->Prop) (E:Value->Shared->Prop),i<n->Jv i acc s1->(∀v s' c,s'.heap.get? s.heap.objs.size=some { cls:= .type "list",data:= .seq acc c }->acc.size=i->Jv (i+1) (acc.push v) { s' with heap:=s'.heap.update s.heap.objs.size (Obj.mapSeq fun x=>x.push v) }->Q (some v) s')->wpAny (model prog w) A.in1 (pyNext (.ref z)) Q E s1)
  (done: ∀acc s1 (Q:Option Value->Shared->Prop) (E:Value->Shared->Prop),Jv n acc s1->(∀s',Fv acc s'->Q none s')->wpAny (model prog w) A.in1 (pyNext (.ref z)) Q E s1)
  (hF: ∀acc s',Fv acc s'->(∃c,s'.heap.get? s.heap.objs.size=some { cls:= .type "list",data:= .seq acc c })/\Q acc.toList s'):
  wpAny (model prog w) A (collect (.ref z)) Q E s:=by
 have hT:s.TypeIs (.ref z) "zip":=⟨_,hz,rfl⟩
 have Qo:=Heap.lt_size hz
 unfold collect
 refine wpAny_bind (wpAny_runValue (codeAny_builtin PySem.F.entry_proto_collect ?_))
 rw[Around.under_plainId PySem.F.plain_proto_collect _]
 show wpAny _ A.in1 (newList [] >>= fun l=>again (.builtin "list.__iadd__" ⟨[l, .ref z],[]⟩)) _ _ s
 refine wpAny_bind (wpAny_newObj_type ?_)
 refine wpAny_pure ⟨plainId_quiet PySem.F.plain_list_iadd _,codeAny_builtin PySem.F.entry_list_iadd ?_⟩
 rw[Around.under_plainId PySem.F.plain_list_iadd _]
 show wpAny _ A.in1 (Builtin.List.listExtendWith (.ref s.heap.objs.size) (.ref z) (.ref s.heap.objs.size)) _ _ _
 generalize hH:s.heap.push { cls:= .type "list",data:= .seq ([]:List Value).toArray }=H
 have V6:IsZip H z TI TO f0:=by rw[<-hH];exact Heap.get?_push_of_some _ hz
 have MD:Shared.TypeIs { s with heap:=H } (.ref z) "zip":=⟨_,V6,rfl⟩
 have YH:s.heap.objs.size≠z:=Nat.ne_of_gt Qo
 unfold Builtin.List.listExtendWith
 refine wpAny_bind (wpAny_typeOf MD ?_)
 have h1:Builtin.List.listSameRef (.ref s.heap.objs.size) (.ref z)=false:=by simp[Builtin.List.listSameRef,YH]
 rw[if_neg (by rw[h1];decide)]
 refine wpAny_bind (wpAny_pyIter_zip (s:={ s with heap:=H }) V6 ?_)
 refine wpAny_bind (wpAny_holding ?_)
 unfold Builtin.List.listLengthHint
 refine wpAny_bind (wpAny_specialOf MD Ao ?_)
 wp_delta
 show wpAny _ A.in1 (specialOf (.ref z) "__length_hint__" >>= _) _ _ _
 refine wpAny_bind (wpAny_specialOf MD xf ?_)
 refine wpAny_pure ?_
 rw[Bool.true_or,if_pos rfl]
 refine wpAny_bind (wpAny_rule ?_)
 refine wpAny_bind ?_
 unfold Builtin.List.listTouch
 have hS:H.get? s.heap.objs.size=some { cls:= .type "list",data:= .seq ([]:List Value).toArray }:=by
  rw[<-hH];exact Heap.get?_push_size _ rfl
 refine wpAny_bind (wpAny_updateSeq hS rfl ?_ (Nat.zero_le _) (Nat.succ_le_succ (Nat.zero_le _)))
 have V7:=Heap.get?_update_self (Obj.mapSeq (fun l:Array Value=>l.push .none)) hS rfl
 refine wpAny_updateSeq V7 rfl ?_ (by show 1<=sizeLine;decide) (Nat.zero_le _)
 have YI:=Heap.get?_update_self (Obj.mapSeq (fun l:Array Value=>l.pop)) V7 rfl
 have YJ: ∀b o,b≠s.heap.objs.size->H.get? b=some o->((H.update s.heap.objs.size (Obj.mapSeq (fun l:Array Value=>l.push .none))).update s.heap.objs.size (Obj.mapSeq (fun l:Array Value=>l.pop))).get? b=some o:=fun b o hb e=>
  (Heap.get?_update_other _ _ (Ne.symm hb)).trans ((Heap.get?_update_other _ _ (Ne.symm hb)).trans e)
 refine wpAny_pure ⟨plainId_quiet PySem.F.plain_extend_loop _,qU (A:=A) s.heap.objs.size z _ n hn Jv Fv item done n 0 _ _ rfl (Nat.zero_le _) (h0 _ (.inr ⟨_,YI⟩) fun b o e=>YJ b o (Nat.ne_of_lt (Heap.lt_size e)) (by rw[<-hH];exact Heap.get?_push_of_some _ e)) fun s' cW hf=>?_⟩
 obtain ⟨⟨c,hc⟩,hq⟩:=hF cW s' hf
 show wpAny _ A (load s.heap.objs.size >>= _) _ _ s'
 exact wpAny_bind (wpAny_load hc (wpAny_pure hq))
end
section
variable {X:Cx} {a b:Expr} {ta:TA} {p p2 pos EH:Pos}
noncomputable def EI (K:PySem.W.Frag) (ta:TA):TE:=fun σ H Q=>ta σ H fun vs H1=> ∃u v xs ys,vs=[.ref u, .ref v]/\bt K H1 u xs/\bt K H1 v ys/\xs.length=ys.length/\xs.length<=1000/\
 ∀(p:Addr) (Ts:List Addr) (H':Hp),(∀c o,H1 c=some o->H' c=some o)->H1 p=none->H' p=some (.tup (Ts.map V.ref))->Ts.length=xs.length->(∀(j:Nat) (x y:V),xs[j]? =some x->ys[j]? =some y-> ∃T,Ts[j]? =some T/\H' T=some (.tup [x,y]))->Q (.ref p) H'
theorem lM: ∀Ts:List Addr,Vals (Ts.map V.ref) (Ts.map Value.ref)
 | []=> .nil
 | T::Ts=> .cons rfl (lM Ts)
theorem Ap (K:PySem.W.Frag) (hK:X.K=K) (hc:X.calm=true) (YK:Gl X "tuple") (V8:X.mg "tuple"=none) (hg:Gl X "zip") (hm:X.mg "zip"=none) (ha:PA X [a,b] ta)
  (hs:starEach [a,b] X.env=[(false,eval a X.env),(false,eval b X.env)]:=by rfl) (V9:starEach [b] X.env=[(false,eval b X.env)]:=by rfl) (V_:starEach [.Call (.Name "zip" p2) [a,b] [] EH] X.env=[(false,eval (.Call (.Name "zip" p2) [a,b] [] EH) X.env)]:=by rfl):
  PE X (.Call (.Name "tuple" p) [.Call (.Name "zip" p2) [a,b] [] EH] [] pos) (EI K ta):=by
 subst hK
 intro pins s σ H Q I h
 refine Call_ (iV I YK V8 boot_tuple (PyProof.Rows.callWith_type1 ?_ V_ rfl))
 rw[V_]
 refine Calls.spliced_cons ?_
 refine Call_ (iV I hg hm boot_zip (PyProof.Rows.callWith_type1 (aS (ha EH pins s σ H _ I h) fun us s1 ⟨vs,H1,I1,r1,q1⟩=>?_) (by rw[hs,V9]) (by rw[V9];rfl)))
 obtain ⟨u,v,xs,ys,rfl,hx,hy,hl,hn,q⟩:=q1
 obtain ⟨u',v',rfl,ru,rv⟩:=vals2 r1
 cases ru
 cases rv
 obtain ⟨xi,rx,px,_⟩:=I1.list hx
 obtain ⟨yi,ry,py,_⟩:=I1.list hy
 have lx:=rx.length
 have ly:=ry.length
 obtain ⟨ox,ex,_⟩:=id px.isList
 obtain ⟨oy,ey,_⟩:=id py.isList
 have lu:=Heap.lt_size ex
 have lv:=Heap.lt_size ey
 refine IF (P1:=fun h=>h.IsList u xi.toArray) (P2:=fun h=>h.IsList v yi.toArray) (uI u v xi.toArray yi.toArray) X.prog X.w X.A X.xe s1 _ px.isList py.isList fun h' z1 z2 z3 z4 z5 kk=>?_
 refine Calls.spliced_nil ?_
 have Z:=IG lu lv
 have I2:=I1.kept (t':=s1.toks) kk
 have hf: ∀e∈[s1.heap.objs.size+4,s1.heap.objs.size+2,s1.heap.objs.size+3,s1.heap.objs.size,s1.heap.objs.size+1],s1.heap.objs.size<=e/\iw X pins H1 e/\e<h'.objs.size:=fun e he=>by
  have Qp:s1.heap.objs.size<=e:=by
   simp only[List.mem_cons,List.not_mem_nil,or_false]at he
   rcases he with g | g | g | g | g<;>rw[g]<;>omega
  have cG:=Heap.lt_size z1
  have YL:e<=s1.heap.objs.size+4:=by
   simp only[List.mem_cons,List.not_mem_nil,or_false]at he
   rcases he with g | g | g | g | g<;>rw[g]<;>omega
  exact ⟨Qp,I1.lj Qp (I1.a_.fresh Qp),Nat.lt_of_le_of_lt YL cG⟩
 have Qq:s1.heap.objs.size<h'.objs.size:=(hf _ (by simp)).2.2
 have GA:h'.objs.size∉[s1.heap.objs.size+4,s1.heap.objs.size+2,s1.heap.objs.size+3,s1.heap.objs.size,s1.heap.objs.size+1]:=fun z=>absurd (hf _ z).2.2 (Nat.lt_irrefl _)
 have YM:h'.objs.size≠u:=Nat.ne_of_gt (Nat.lt_trans lu Qq)
 have YN:h'.objs.size≠v:=Nat.ne_of_gt (Nat.lt_trans lv Qq)
 have hd:X.A.handled=none:=I1.ok.hd hc
 generalize ez:s1.heap.objs.size+4=z at*
 generalize eTI:s1.heap.objs.size+2=TI at*
 generalize eTO:s1.heap.objs.size+3=TO at*
 generalize YO:s1.heap.objs.size+1=i2 at*
 generalize ei1:s1.heap.objs.size=i1 at*
 have D1:=Draws.list (prog:=X.prog) (w:=X.w) (A:=X.A.in1.in1.in1.in1) hd i1 u (Nat.ne_of_lt lu) xi.toArray
 have D2:=Draws.list (prog:=X.prog) (w:=X.w) (A:=X.A.in1.in1.in1.in1) hd i2 v (by rw[<-YO];exact Nat.ne_of_lt (Nat.lt_succ_of_lt lv)) yi.toArray
 have sx:xi.toArray.size=xs.length:=by rw[List.size_toArray];exact lx.symm
 have sy:yi.toArray.size=xs.length:=by rw[List.size_toArray,hl];exact ly.symm
 rw[sx]at D1
 rw[sy]at D2
 have Wa:h'.objs.size≠z:=fun e=>GA (by rw[e];simp)
 have Qr:h'.objs.size≠TI:=fun e=>GA (by rw[e];simp)
 have ME:h'.objs.size≠TO:=fun e=>GA (by rw[e];simp)
 have MF:h'.objs.size≠i1:=fun e=>GA (by rw[e];simp)
 have MG:h'.objs.size≠i2:=fun e=>GA (by rw[e];simp)
 have n1:i1<=h'.objs.size:=Nat.le_of_lt Qq
 have Ei:(1000:Nat)<sizeLine:=by decide
 refine kx (T:="zip") ⟨_,z1,rfl⟩ (by decide) ?_
 refine uW z1 xs.length (by omega)
  (fun i acc s=> ∃(H':Hp) (Ts:List Addr),Inv X pins σ H' s/\H' h'.objs.size=some (.lst (Ts.map V.ref))/\(∃c,s.heap.get? h'.objs.size=some { cls:= .type "list",data:= .seq acc c })/\acc.toList=Ts.map Value.ref/\Ts.length=i/\(∀b∈[z,TI,TO,i1,i2],iw X pins H' b)/\
   Dc s.heap z TI TO/\IsPair s.heap TI (.ref i1) (.ref i2)/\(∃a b,IsPair s.heap TO a b)/\(s.heap.IsListIter i1 u i/\s.heap.IsList u xi.toArray)/\(s.heap.IsListIter i2 v i/\s.heap.IsList v yi.toArray)/\(∀c o,H1 c=some o->H' c=some o)/\
   ∀(j:Nat) (x y:V),j<i->xs[j]? =some x->ys[j]? =some y-> ∃T,Ts[j]? =some T/\H' T=some (.tup [x,y]))
  (fun acc s=> ∃(H':Hp) (Ts:List Addr),Inv X pins σ H' s/\(∃c,s.heap.get? h'.objs.size=some { cls:= .type "list",data:= .seq acc c })/\acc.toList=Ts.map Value.ref/\Ts.length=xs.length/\(∀c o,H1 c=some o->H' c=some o)/\
   ∀(j:Nat) (x y:V),j<xs.length->xs[j]? =some x->ys[j]? =some y-> ∃T,Ts[j]? =some T/\H' T=some (.tup [x,y])) ?_ ?_ ?_ ?_
 ·intro k0 EJ ks
  have Qs: ∃c,k0.get? h'.objs.size=some { cls:= .type "list",data:= .seq #[] c }:=by
   rcases EJ with g | g
   ·exact ⟨_,g⟩
   ·exact g
  obtain ⟨c,gc⟩:=Qs
  have I3:=I2.laid (t':=s1.toks) (o:= .lst []) ks (Nat.le_refl _) (show bI X.prog X.w _ k0 h'.objs.size (.lst []) from ⟨Nat.zero_le _,[],c, .nil,gc⟩)
  refine ⟨_,[],I3,ag,⟨c,gc⟩,rfl,rfl,fun e he=>?_,⟨_,_,ks _ _ z1, .inl rfl⟩,ks _ _ z2,⟨_,_,ks _ _ z3⟩,⟨⟨_,ks _ _ z4,rfl,rfl⟩,?_⟩,⟨⟨_,ks _ _ z5,rfl,rfl⟩,?_⟩,fun c o e=>?_,fun j x y hj=>absurd hj (Nat.not_lt_zero _)⟩
  ·obtain ⟨f1,f2,f3⟩:=(hf e (by simpa using he)).2.1
   refine ⟨?_,f2,f3⟩
   rw[aA (fun q:e=h'.objs.size=>GA (by rw[<-q];simpa using he))]
   exact f1
  ·obtain ⟨o,g1,g2⟩:=px.isList
   exact ⟨o,ks _ _ (kk _ _ g1),g2⟩
  ·obtain ⟨o,g1,g2⟩:=py.isList
   exact ⟨o,ks _ _ (kk _ _ g1),g2⟩
  ·rw[aA (fun q:c=h'.objs.size=>by rw[q,I2.a_.fresh (Nat.le_refl _)]at e;cases e)]
   exact e
 ·rintro i acc s4 Q4 E4 hi ⟨H',Ts,I4,Qt,⟨c4,g4⟩,ea,et,f4,q1,q2,⟨aa,bb,q3⟩,q4,q5,qV,MH⟩ hQ
  have YQ:i<ys.length:=by omega
  have gx:=List.getElem?_eq_getElem hi
  have gy:=List.getElem?_eq_getElem YQ
  obtain ⟨u0,hu,ru⟩:=rx.get gx
  obtain ⟨w0,YR,YS⟩:=ry.get gy
  refine uU (A:=X.A.in1.in1.in1) D1 D2 Z q1 q2 q3 q4 q5 hi hi fun x2 y2 k5 tk p1 p2 e1 e2 e3 e4 e5 e7=>?_
  have ex:x2=u0:=Option.some.inj (p1.symm.trans (by simpa using hu))
  have ey:y2=w0:=Option.some.inj (p2.symm.trans (by simpa using YR))
  subst ex
  subst ey
  have lt: ∀{c o},s4.heap.get? c=some o->s4.heap.objs.size≠c:=fun e=>Nat.ne_of_gt (Heap.lt_size e)
  obtain ⟨o1,g1⟩:=D1.live _ _ q4
  obtain ⟨o2,g2⟩:=D2.live _ _ q5
  have Ot:s4.heap.objs.size∉[z,TI,TO,i1,i2]:=by
   obtain ⟨f0,f,qz,_⟩:=q1
   simp only[List.mem_cons,List.not_mem_nil,or_false,not_or]
   exact ⟨lt qz,lt q2,lt q3,lt g1,lt g2⟩
  have Wb: ∀b o,b∉[z,TI,TO,i1,i2]->s4.heap.get? b=some o->k5.get? b=some o:=fun b o hb e=>by
   simp only[List.mem_cons,List.not_mem_nil,or_false,not_or]at hb
   exact e7 b o hb.1 hb.2.2.1 hb.2.2.2.1 hb.2.2.2.2 e
  have I5:Inv X pins σ (upd H' s4.heap.objs.size (.tup [xs[i],ys[i]])) { s4 with heap:=k5,toks:=tk }:=
   I4.uD (t':=tk) Wb f4 (Nat.le_refl _) (show bI X.prog X.w _ k5 s4.heap.objs.size (.tup [xs[i],ys[i]]) from ⟨by show 2<=sizeLine;decide,[x2,y2], .cons ru (.cons YS .nil),⟨_,e5,rfl,_,rfl⟩⟩)
  have Qu:k5.get? h'.objs.size=some { cls:= .type "list",data:= .seq acc c4 }:=Wb _ _ GA g4
  have Wc:h'.objs.size≠s4.heap.objs.size:=Ne.symm (lt g4)
  have YT:upd H' s4.heap.objs.size (.tup [xs[i],ys[i]]) h'.objs.size=some (.lst (Ts.map V.ref)):=by rw[aA Wc];exact Qt
  have nK:acc=acc.toList.toArray:=by simp
  have YU:acc.size=i:=by rw[<-Array.length_toList,ea,List.length_map,et]
  have I6:=I5.DM (t':=tk) (its:=acc.toList) (its':=acc.toList++[.ref s4.heap.objs.size]) (ys:=(Ts++[s4.heap.objs.size]).map V.ref) (f:=fun x=>x.push (.ref s4.heap.objs.size)) (n:=c4) YT (by rw[<-nK];exact Qu) (by apply Array.toList_inj.mp;simp) (by rw[List.map_append,ea];exact (lM Ts).append (.cons rfl .nil)) (by rw[List.length_map,List.length_append];simp;omega)
  have MI: ∀{b:Addr} {o:Obj},b≠h'.objs.size->k5.get? b=some o->(k5.update h'.objs.size (Obj.mapSeq fun x=>x.push (.ref s4.heap.objs.size))).get? b=some o:=fun hb e=>(Heap.get?_update_other _ _ (Ne.symm hb)).trans e
  refine hQ _ _ c4 Qu YU ⟨_,Ts++[s4.heap.objs.size],I6,ag,⟨_,Heap.get?_update_self _ Qu rfl⟩,by simp[ea],by simp[et],fun e he=>?_,e1.keep fun o g=>MI (Ne.symm Wa) g,MI (Ne.symm Qr) (e7 _ _ Z.tz Z.tt Z.t1 Z.t2 q2),?_,?_,?_,fun c o e=>?_,fun j x y hj Qv Qw=>?_⟩
  ·obtain ⟨f1,f2,f3⟩:=f4 e he
   refine ⟨?_,f2,f3⟩
   rw[aA (fun q:e=h'.objs.size=>GA (by rw[<-q];exact he)),aA (fun q:e=s4.heap.objs.size=>Ot (by rw[<-q];exact he))]
   exact f1
  ·obtain ⟨a',b',e2⟩:=e2
   exact ⟨a',b',MI (Ne.symm ME) e2⟩
  ·exact D1.frame _ _ _ e3 fun c hc o e=>MI (fun q=>by rw[q]at hc;rcases List.mem_cons.mp hc with g | g;exact MF g;exact YM (List.mem_singleton.mp g)) e
  ·exact D2.frame _ _ _ e4 fun c hc o e=>MI (fun q=>by rw[q]at hc;rcases List.mem_cons.mp hc with g | g;exact MG g;exact YN (List.mem_singleton.mp g)) e
  ·have e':=qV c o e
   have c1:c≠s4.heap.objs.size:=fun q=>by rw[q,I4.a_.fresh (Nat.le_refl _)]at e';cases e'
   have c2:c≠h'.objs.size:=fun q=>by rw[q,I2.a_.fresh (Nat.le_refl _)]at e;cases e
   rw[aA c2,aA c1]
   exact e'
  ·by_cases YV:j<i
   ·obtain ⟨T,t1,t2⟩:=MH j x y YV Qv Qw
    have c1:T≠s4.heap.objs.size:=fun q=>by rw[q,I4.a_.fresh (Nat.le_refl _)]at t2;cases t2
    have c2:T≠h'.objs.size:=fun q=>by rw[q,Qt]at t2;cases t2
    exact ⟨T,by rw[List.getElem?_append_left (by omega)];exact t1,by rw[aA c2,aA c1];exact t2⟩
   ·have ej:j=i:=by omega
    subst ej
    rw[gx]at Qv
    rw[gy]at Qw
    cases Qv
    cases Qw
    refine ⟨s4.heap.objs.size,by rw[List.getElem?_append_right (by omega),et,Nat.sub_self];rfl,?_⟩
    rw[aA (Ne.symm Wc)]
    exact ag
 ·rintro acc s4 Q4 E4 ⟨H',Ts,I4,Qt,⟨c4,g4⟩,ea,et,f4,q1,q2,⟨aa,bb,q3⟩,q4,q5,qV,MH⟩ hQ
  refine xa (A:=X.A.in1.in1.in1) D1 Z q1 q2 q4 fun k5 hk=>hQ _ ⟨H',Ts,I4.yl (t':=s4.toks) (ch:=[z,TI,TO,i1,i2]) (fun b o hb e=>?_) f4,⟨c4,?_⟩,ea,et,qV,MH⟩
  ·simp only[List.mem_cons,List.not_mem_nil,or_false,not_or]at hb
   exact hk b o hb.1 hb.2.2.1 hb.2.2.2.1 hb.2.2.2.2 e
  ·exact hk _ _ Wa ME MF MG g4
 ·rintro acc s4 ⟨H',Ts,I4,MJ,ea,et,qV,MH⟩
  refine ⟨MJ,by rw[ea,List.length_map];omega,?_⟩
  have I5:=I4.laid (t':=s4.toks) (h':=s4.heap.push { cls:= .type "tuple",data:= .seq acc.toList.toArray }) (a:=s4.heap.objs.size) (o:= .tup (Ts.map V.ref)) (fun b o e=>Heap.get?_push_of_some _ e) (Nat.le_refl _) (show bI X.prog X.w _ _ s4.heap.objs.size (.tup (Ts.map V.ref)) from ⟨by rw[List.length_map];omega,acc.toList,by rw[ea];exact lM Ts,⟨_,Heap.get?_push_size _ rfl,rfl,_,rfl⟩⟩)
  have fr:H' s4.heap.objs.size=none:=I4.a_.fresh (Nat.le_refl _)
  refine ⟨.ref s4.heap.objs.size,_,I5,rfl,q _ Ts _ (fun c o e=>?_) ?_ ag et fun j x y hx hy=>?_⟩
  ·have e':=qV c o e
   rw[aA (fun q:c=s4.heap.objs.size=>by rw[q,fr]at e';cases e')]
   exact e'
  ·cases e:H1 s4.heap.objs.size with
   | none=>rfl
   | some o=>have:=qV _ _ e;rw[fr]at this;cases this
  ·obtain ⟨T,t1,t2⟩:=MH j x y (List.getElem?_eq_some_iff.mp hx).1 hx hy
   exact ⟨T,t1,by rw[aA (fun q:T=s4.heap.objs.size=>by rw[q,fr]at t2;cases t2)];exact t2⟩
end
end L2
set_option maxHeartbeats 1000000
namespace L2
open PySem PySem.Spec PyProof.Rows
noncomputable def YW:Bool->Keyed->Array Keyed->Nat->Nat->Nat->StateT SortSt Sem (Option Nat):=sortPriv%PySem.Builtin.gallop
noncomputable def YX:Array Keyed->Array Keyed->StateT SortSt Sem (Array Keyed):=sortPriv%PySem.Builtin.mergeLo
noncomputable def YY:Array Keyed->Array Keyed->StateT SortSt Sem (Array Keyed):=sortPriv%PySem.Builtin.mergeHi
structure PB (a₀:Array Keyed) (st:SortSt):Prop where
 perm:(arrOf st).Perm a₀
 kind:kindOf st=oneType'
 failed:failedOf st=none
theorem PB.size {a₀:Array Keyed} {st:SortSt} (h:PB a₀ st):(arrOf st).size=a₀.size:=h.perm.size_eq
theorem PB.mem {a₀:Array Keyed} {st:SortSt} (h:PB a₀ st) {p:Keyed} (hp:p∈(arrOf st).toList):p∈a₀.toList:=(Array.perm_iff_toList_perm.mp h.perm).mem_iff.mp hp
section
variable {prog:Program} {w:World} {A:Around} {E:Value->Shared->Prop} {s:Shared} {κ:KeyKind} {a₀:Array Keyed}
theorem kz {st:SortSt} {p q:Keyed} {Q:Option Bool->SortSt->Prop} (hO:κ.OneLt) (h0:KeysOf κ a₀) (hk:kindOf st=oneType') (hp:p∈a₀.toList) (hq:q∈a₀.toList) (h: ∀b,Q (some b) st):wpS (model prog w) A E s (lt' p q) Q st:=by
 obtain ⟨a,ha⟩:=h0 p hp
 obtain ⟨b,hb⟩:=h0 q hq
 rw[lt'_eq]
 refine wpS_bind (wpS_get ?_)
 rw[hk,keyLt'_oneType]
 refine wpS_bind (wpS_lift (wpAny_attempt (hO prog w A _ s p.1 q.1 a b ha hb ⟨rfl,?_⟩)))
 exact wpS_pure (h _)
theorem bR {st:SortSt} {arr:Array Keyed} {i:Nat} {Q:Keyed->SortSt->Prop} (hi:i<arr.size) (h: ∀p,p∈arr.toList->arr[i]? =some p->Q p st):wpS (model prog w) A E s (elem' arr i) Q st:=by
 have e:arr[i]? =some arr[i]:=getElem?_pos arr i hi
 rw[elem'_eq,e]
 exact wpS_pure (h _ (by simp) e)
theorem jr {st:SortSt} {left:Bool} {key:Keyed} {arr:Array Keyed} {base n hint:Nat} {Q:Option Nat->SortSt->Prop} (hO:κ.OneLt) (h0:KeysOf κ a₀) (hk:kindOf st=oneType') (wx:key∈a₀.toList) (MK: ∀p∈arr.toList,p∈a₀.toList) (hn:base+n<=arr.size) (hh:hint<n)
  (h: ∀k,k<=n->Q (some k) st):wpS (model prog w) A E s (YW left key arr base n hint) Q st:=by
 have ML: ∀(i:Nat) (R:Option Bool->SortSt->Prop),i<n->(∀b,R (some b) st)->wpS (model prog w) A E s (elem' arr (base+i) >>= fun x=>if left=true then lt' x key else lt' key x >>= fun b=>pure (b.map fun x=>!x)) R st:=by
  intro i R hi hR
  refine wpS_bind (bR (by omega) fun p hp _=>?_)
  cases left with
  | true=>rw[if_pos rfl];exact kz hO h0 hk (MK p hp) wx hR
  | false=>rw[if_neg (by decide)];exact wpS_bind (kz hO h0 hk wx (MK p hp) fun b=>wpS_pure (hR _))
 refine wpS_bind (ML hint _ hh fun b=>?_)
 cases b with
 | true=>
  refine wpS_bind (wpS_mono (wpS_forRange (I:=fun _ c aT=>aT=st/\ ∃l o,c=(none,l,o)) (Q:=fun c aT=>aT=st/\ ∃l o,c=(none,l,o)) ?_ (fun _ _ z=>z) ⟨rfl,0,1,rfl⟩) ?_)
  ·rintro x c aT _ _ ⟨rfl,l,o,rfl⟩
   dsimp only
   by_cases g:o ≥ n - hint
   ·rw[if_pos g];exact wpS_pure ⟨rfl,l,o,rfl⟩
   ·rw[if_neg g]
    refine wpS_bind (ML _ _ (by omega) fun b=>?_)
    cases b with
    | true=>exact wpS_pure ⟨rfl,_,_,rfl⟩
    | false=>exact wpS_pure ⟨rfl,_,_,rfl⟩
  ·rintro c jG ⟨rfl,l,o,rfl⟩
   dsimp only
   refine wpS_bind (wpS_mono (wpS_forRange (I:=fun _ c aT=>aT=jG/\ ∃l r,c=(none,l,r)/\r<=n) (Q:=fun c aT=>aT=jG/\ ∃l r,c=(none,l,r)/\r<=n) ?_ (fun _ _ z=>z) ⟨rfl,_,_,rfl,by omega⟩) ?_)
   ·rintro x c aT _ _ ⟨rfl,l,r,rfl,hr⟩
    dsimp only
    by_cases g:l ≥ r
    ·rw[if_pos g];exact wpS_pure ⟨rfl,l,r,rfl,hr⟩
    ·rw[if_neg g]
     refine wpS_bind (ML _ _ (by omega) fun b=>?_)
     cases b with
     | true=>exact wpS_pure ⟨rfl,_,_,rfl,hr⟩
     | false=>exact wpS_pure ⟨rfl,_,_,rfl,by omega⟩
   ·rintro c aT ⟨rfl,l,r,rfl,hr⟩
    exact wpS_pure (h r hr)
 | false=>
  refine wpS_bind (wpS_mono (wpS_forRange (I:=fun _ c aT=>aT=st/\ ∃l o,c=(none,l,o)) (Q:=fun c aT=>aT=st/\ ∃l o,c=(none,l,o)) ?_ (fun _ _ z=>z) ⟨rfl,0,1,rfl⟩) ?_)
  ·rintro x c aT _ _ ⟨rfl,l,o,rfl⟩
   dsimp only
   by_cases g:o ≥ hint+1
   ·rw[if_pos g];exact wpS_pure ⟨rfl,l,o,rfl⟩
   ·rw[if_neg g]
    refine wpS_bind (ML _ _ (by omega) fun b=>?_)
    cases b with
    | true=>exact wpS_pure ⟨rfl,_,_,rfl⟩
    | false=>exact wpS_pure ⟨rfl,_,_,rfl⟩
  ·rintro c jG ⟨rfl,l,o,rfl⟩
   dsimp only
   refine wpS_bind (wpS_mono (wpS_forRange (I:=fun _ c aT=>aT=jG/\ ∃l r,c=(none,l,r)/\r<=n) (Q:=fun c aT=>aT=jG/\ ∃l r,c=(none,l,r)/\r<=n) ?_ (fun _ _ z=>z) ⟨rfl,_,_,rfl,by omega⟩) ?_)
   ·rintro x c aT _ _ ⟨rfl,l,r,rfl,hr⟩
    dsimp only
    by_cases g:l ≥ r
    ·rw[if_pos g];exact wpS_pure ⟨rfl,l,r,rfl,hr⟩
    ·rw[if_neg g]
     refine wpS_bind (ML _ _ (by omega) fun b=>?_)
     cases b with
     | true=>exact wpS_pure ⟨rfl,_,_,rfl,hr⟩
     | false=>exact wpS_pure ⟨rfl,_,_,rfl,by omega⟩
   ·rintro c aT ⟨rfl,l,r,rfl,hr⟩
    exact wpS_pure (h r hr)
end
theorem aK {M:Model} {A:Around} {E:Value->Shared->Prop} {s:Shared} {σ α:Type} {c:Prop} [Decidable c] {m1 m2:StateT σ Sem α} {Q:α->σ->Prop} {st:σ} (h1:c->wpS M A E s m1 Q st) (h2: ¬c->wpS M A E s m2 Q st):wpS M A E s (if c then m1 else m2) Q st:=by
 by_cases g:c
 ·rw[if_pos g];exact h1 g
 ·rw[if_neg g];exact h2 g
noncomputable def sg (st:SortSt) (g:Nat):SortSt:=SortSt.mk' (kindOf st) (arrOf st) (pendingOf st) g (failedOf st)
noncomputable def mM (st aT:SortSt):Prop:= ∃g,aT=sg st g
theorem mM.refl (st:SortSt):mM st st:=⟨gallopOf st,rfl⟩
theorem mM.set {st aT:SortSt} (h:mM st aT) (g:Nat):mM st (sg aT g):=by
 obtain ⟨g0,rfl⟩:=h
 exact ⟨g,rfl⟩
theorem mM.kind {st aT:SortSt} (h:mM st aT) (hk:kindOf st=oneType'):kindOf aT=oneType':=by
 obtain ⟨g0,rfl⟩:=h
 exact hk
noncomputable def Mg (a b out:Array Keyed) (ia ib:Nat):Prop:=out.toList.Perm (a.toList.take ia++b.toList.take ib)
theorem yN {α:Type} {l:List α} {i:Nat} {p:α} (h:l[i]? =some p):l.take (i+1)=l.take i++[p]:=by
 have:=List.getElem?_eq_some_iff.mp h
 rw[List.take_succ_eq_append_getElem this.1,this.2]
theorem m8 {α:Type} {l:List α} {i:Nat} {p:α} (h:l[i]? =some p):l.drop i=p::l.drop (i+1):=by
 have:=List.getElem?_eq_some_iff.mp h
 rw[List.drop_eq_getElem_cons this.1,this.2]
theorem xg {α:Type} (l:List α) (i j:Nat) (h:i<=j):l.take j=l.take i++(l.drop i).take (j - i):=by
 have:j=i+(j - i):=by omega
 conv=>lhs;rw[this,List.take_add]
theorem xh {α:Type} (l:List α) (i j:Nat) (h:i<=j):l.drop i=(l.drop i).take (j - i)++l.drop j:=by
 conv=>lhs;rw[<-List.take_append_drop (j - i) (l.drop i),List.drop_drop,show i+(j - i)=j by omega]
theorem cq {α:Type} (a:Array α) (i j:Nat):(a.extract i j).toList=(a.toList.drop i).take (j - i):=by simp[List.extract]
theorem Mg.lN {a b out:Array Keyed} {ia ib:Nat} (h:Mg a b out ia ib):(out++a.extract ia++b.extract ib).toList.Perm (a.toList++b.toList):=by
 rw[Array.toList_append,Array.toList_append,cq,cq,List.take_of_length_le (by simp),List.take_of_length_le (by simp)]
 refine ((h.append_right _).append_right _).trans ?_
 conv=>rhs;rw[<-List.take_append_drop ia a.toList, <-List.take_append_drop ib b.toList]
 rw[List.append_assoc,List.append_assoc,List.append_assoc]
 refine List.Perm.append_left _ ?_
 rw[<-List.append_assoc, <-List.append_assoc]
 exact List.Perm.append_right _ List.perm_append_comm
theorem Mg.sI {a b out:Array Keyed} {ia ib:Nat} (h:Mg a b out ia ib):(out++b.extract ib++a.extract ia).toList.Perm (a.toList++b.toList):=by
 refine List.Perm.trans ?_ h.lN
 simp only[Array.toList_append,List.append_assoc]
 exact List.Perm.append_left _ List.perm_append_comm
theorem Mg.qW {a b out:Array Keyed} {ia ib:Nat} {p:Keyed} (h:Mg a b out ia ib) (hp:b[ib]? =some p):Mg a b (out.push p) ia (ib+1):=by
 unfold Mg
 rw[Array.toList_push,yN (l:=b.toList) (by simpa using hp), <-List.append_assoc]
 exact h.append_right _
theorem Mg.qX {a b out:Array Keyed} {ia ib:Nat} {p:Keyed} (h:Mg a b out ia ib) (hp:a[ia]? =some p):Mg a b (out.push p) (ia+1) ib:=by
 unfold Mg
 rw[Array.toList_push,yN (l:=a.toList) (by simpa using hp),List.append_assoc]
 refine (h.append_right _).trans ?_
 rw[List.append_assoc]
 exact List.Perm.append_left _ List.perm_append_comm
theorem Mg.Aq {a b out:Array Keyed} {ia ib k:Nat} (h:Mg a b out ia ib):Mg a b (out++b.extract ib (ib+k)) ia (ib+k):=by
 unfold Mg
 rw[Array.toList_append,cq,xg b.toList ib (ib+k) (by omega), <-List.append_assoc]
 exact h.append_right _
theorem Mg.Ar {a b out:Array Keyed} {ia ib k:Nat} (h:Mg a b out ia ib):Mg a b (out++a.extract ia (ia+k)) (ia+k) ib:=by
 unfold Mg
 rw[Array.toList_append,cq,xg a.toList ia (ia+k) (by omega),List.append_assoc]
 refine (h.append_right _).trans ?_
 rw[List.append_assoc]
 exact List.Perm.append_left _ List.perm_append_comm
noncomputable def Mh (a b out:Array Keyed) (na nb:Nat):Prop:=out.toList.Perm (a.toList.drop na++b.toList.drop nb)
theorem Mh.lN {a b out:Array Keyed} {na nb:Nat} (h:Mh a b out na nb):(a.extract 0 na++b.extract 0 nb++out.reverse).toList.Perm (a.toList++b.toList):=by
 rw[Array.toList_append,Array.toList_append,cq,cq,List.drop_zero,List.drop_zero,Nat.sub_zero,Nat.sub_zero,Array.toList_reverse]
 refine (List.Perm.append_left _ ((List.reverse_perm _).trans h)).trans ?_
 conv=>rhs;rw[<-List.take_append_drop na a.toList, <-List.take_append_drop nb b.toList]
 rw[List.append_assoc,List.append_assoc]
 refine List.Perm.append_left _ ?_
 rw[<-List.append_assoc, <-List.append_assoc]
 exact List.Perm.append_right _ List.perm_append_comm
theorem Mh.sI {a b out:Array Keyed} {na nb:Nat} (h:Mh a b out na nb):(b.extract 0 nb++a.extract 0 na++out.reverse).toList.Perm (a.toList++b.toList):=by
 refine List.Perm.trans ?_ h.lN
 simp only[Array.toList_append]
 exact List.Perm.append_right _ List.perm_append_comm
theorem Mh.qX {a b out:Array Keyed} {na nb:Nat} {p:Keyed} (h:Mh a b out na nb) (h1:1<=na) (hp:a[na - 1]? =some p):Mh a b (out.push p) (na - 1) nb:=by
 unfold Mh
 rw[Array.toList_push,m8 (l:=a.toList) (i:=na - 1) (by simpa using hp),show na - 1+1=na by omega,List.cons_append]
 exact (h.append_right _).trans (List.perm_append_singleton _ _)
theorem Mh.qW {a b out:Array Keyed} {na nb:Nat} {p:Keyed} (h:Mh a b out na nb) (h1:1<=nb) (hp:b[nb - 1]? =some p):Mh a b (out.push p) na (nb - 1):=by
 unfold Mh
 rw[Array.toList_push,m8 (l:=b.toList) (i:=nb - 1) (by simpa using hp),show nb - 1+1=nb by omega]
 exact ((h.append_right _).trans (List.perm_append_singleton _ _)).trans List.perm_middle.symm
theorem Mh.Ar {a b out:Array Keyed} {na nb k:Nat} (h:Mh a b out na nb) (hk:k<=na):Mh a b (out++(a.extract k na).reverse) k nb:=by
 unfold Mh
 have e:a.toList.drop k++b.toList.drop nb=(a.toList.drop k).take (na - k)++(a.toList.drop na++b.toList.drop nb):=by rw[<-List.append_assoc, <-xh a.toList k na hk]
 rw[Array.toList_append,Array.toList_reverse,cq,e]
 exact (h.append (List.reverse_perm _)).trans List.perm_append_comm
theorem Mh.Aq {a b out:Array Keyed} {na nb k:Nat} (h:Mh a b out na nb) (hk:k<=nb):Mh a b (out++(b.extract k nb).reverse) na k:=by
 unfold Mh
 have e:b.toList.drop k=(b.toList.drop k).take (nb - k)++b.toList.drop nb:=xh b.toList k nb hk
 rw[Array.toList_append,Array.toList_reverse,cq]
 refine (h.append (List.reverse_perm _)).trans ?_
 conv=>rhs;rw[e]
 rw[List.append_assoc]
 exact List.Perm.append_left _ List.perm_append_comm
theorem As {ia k n:Nat} (h:k<=n - ia) (h1:ia+1<n) (z1: ¬ia+k+1=n) (z2: ¬ia+k=n):ia+k+1<n:=by omega
theorem Au {ib k n:Nat} (h:k<=n - (ib+1)) (h1:ib<n) (z: ¬ib+1+k=n):ib+1+k<n:=by omega
theorem GB {i x y z:Nat} (h:i+2<=x+y) (g:y<=z):i+2<=x+1+z:=by omega
theorem GC {a b out:Array Keyed} {ia ib i g ac bc:Nat} {st aT:SortSt} (hg:mM st aT) (m:Mg a b out ia ib) (q:ia+1<a.size) (r:ib<b.size) (t:i+2<=ia+ib):mM st aT/\ ∃i9 pY pZ g' Jl Jm,((none,out,ia,ib,g,ac,bc):Option (Array Keyed)×Array Keyed×Nat×Nat×Nat×Nat×Nat)=(none,i9,pY,pZ,g',Jl,Jm)/\Mg a b i9 pY pZ/\pY+1<a.size/\pZ<b.size/\i+2<=pY+pZ:=
 ⟨hg,_,_,_,_,_,_,rfl,m,q,r,t⟩
theorem EK {a b out:Array Keyed} {ia ib i g ac bc:Nat} {st aT:SortSt} (hg:mM st aT) (m:Mg a b out ia ib) (q:ia+1<a.size) (r:ib<b.size) (t:i+2<=ia+ib):mM st aT/\((∃i9 z,((none,out,ia,ib,g,ac,bc):Option (Array Keyed)×Array Keyed×Nat×Nat×Nat×Nat×Nat)=(some i9,z)/\i9.toList.Perm (a.toList++b.toList))\/ ∃i9 pY pZ g' Jl Jm,((none,out,ia,ib,g,ac,bc):Option (Array Keyed)×Array Keyed×Nat×Nat×Nat×Nat×Nat)=(none,i9,pY,pZ,g',Jl,Jm)/\Mg a b i9 pY pZ/\pY+1<a.size/\pZ<b.size/\i+2<=pY+pZ):=
 ⟨hg, .inr (GC hg m q r t).2⟩
theorem yO {x n:Nat} (h1:1<=x) (h2:x<=n):x - 1<n:=by omega
theorem yP {x n:Nat} (h2:x<=n):x - 1<=n:=by omega
theorem Jn {x:Nat} (h: ¬x=0):1<=x:=by omega
theorem B9 {i x y z n:Nat} (h:x+y+i+2<=n) (g:z<=y):x - 1+z+i+2<=n:=by omega
theorem GD {a b out:Array Keyed} {ia ib i g ac bc:Nat} {st aT:SortSt} (hg:mM st aT) (m:Mh a b out ia ib) (q:1<=ia) (r:2<=ib) (l1:ia<=a.size) (l2:ib<=b.size) (t:ia+ib+i+2<=a.size+b.size):mM st aT/\ ∃pY pZ i9 g' Jl Jm,((none,ia,ib,out,g,ac,bc):Option (Array Keyed)×Nat×Nat×Array Keyed×Nat×Nat×Nat)=(none,pY,pZ,i9,g',Jl,Jm)/\Mh a b i9 pY pZ/\1<=pY/\2<=pZ/\pY<=a.size/\pZ<=b.size/\pY+pZ+i+2<=a.size+b.size:=
 ⟨hg,_,_,_,_,_,_,rfl,m,q,r,l1,l2,t⟩
theorem EL {a b out:Array Keyed} {ia ib i g ac bc:Nat} {st aT:SortSt} (hg:mM st aT) (m:Mh a b out ia ib) (q:1<=ia) (r:2<=ib) (l1:ia<=a.size) (l2:ib<=b.size) (t:ia+ib+i+2<=a.size+b.size):mM st aT/\((∃i9 z,((none,ia,ib,out,g,ac,bc):Option (Array Keyed)×Nat×Nat×Array Keyed×Nat×Nat×Nat)=(some i9,z)/\i9.toList.Perm (a.toList++b.toList))\/ ∃pY pZ i9 g' Jl Jm,((none,ia,ib,out,g,ac,bc):Option (Array Keyed)×Nat×Nat×Array Keyed×Nat×Nat×Nat)=(none,pY,pZ,i9,g',Jl,Jm)/\Mh a b i9 pY pZ/\1<=pY/\2<=pZ/\pY<=a.size/\pZ<=b.size/\pY+pZ+i+2<=a.size+b.size):=
 ⟨hg, .inr (GD hg m q r l1 l2 t).2⟩
section
variable {prog:Program} {w:World} {A:Around} {E:Value->Shared->Prop} {s:Shared} {κ:KeyKind} {a₀:Array Keyed}
theorem EM {st:SortSt} {a b:Array Keyed} {Q:Array Keyed->SortSt->Prop} (hO:κ.OneLt) (h0:KeysOf κ a₀) (EJ:kindOf st=oneType') (ha: ∀p∈a.toList,p∈a₀.toList) (hb: ∀p∈b.toList,p∈a₀.toList) (na:1<=a.size) (nb:1<=b.size)
  (h: ∀out aT,mM st aT->out.toList.Perm (a.toList++b.toList)->Q out aT):wpS (model prog w) A E s (YX a b) Q st:=by
 refine wpS_bind (wpS_lift (wpAny_rule ⟨rfl,?_⟩))
 refine wpS_bind (bR (by omega) fun p hp ep=>?_)
 have m0:Mg a b #[p] 0 1:=(show Mg a b #[] 0 0 from List.Perm.refl _).qW ep
 refine aK (fun g=>?_) (fun g=>?_)
 ·exact wpS_pure (h _ _ (.refl _) m0.lN)
 refine aK (fun g2=>?_) (fun g2=>?_)
 ·exact wpS_pure (h _ _ (.refl _) m0.sI)
 have g': ¬1=b.size:=fun z=>g (by simpa using z)
 have GF: ¬0+1=a.size:=fun z=>g2 (by simpa using z)
 refine wpS_bind (wpS_get ?_)
 refine wpS_bind (wpS_mono (wpS_forRange (I:=fun i c aT=>mM st aT/\ ∃out ia ib g,c=(none,out,ia,ib,g)/\Mg a b out ia ib/\ia+1<a.size/\ib<b.size/\i+1<=ia+ib)
  (Q:=fun c aT=>mM st aT/\ ∃out z,c=(some out,z)/\out.toList.Perm (a.toList++b.toList)) ?_ ?_ ?_) ?_)
 ·rintro i c jG _ hi ⟨hg,out,ia,ib,g,rfl,m1,h1,h2,h3⟩
  have ub:=hg.kind EJ
  refine wpS_bind (wpS_mono (wpS_forRange (I:=fun x c aT=>aT=jG/\ ∃out ia ib ac bc,c=(none,out,ia,ib,ac,bc)/\Mg a b out ia ib/\ia+1<a.size/\ib<b.size/\i+1+x<=ia+ib)
   (Q:=fun c aT=>aT=jG/\((∃out z,c=(some out,z)/\out.toList.Perm (a.toList++b.toList))\/ ∃out ia ib ac bc,c=(none,out,ia,ib,ac,bc)/\Mg a b out ia ib/\ia+1<a.size/\ib<b.size/\i+2<=ia+ib)) ?_ ?_ ⟨rfl,out,ia,ib,0,0,rfl,m1,h1,h2,by omega⟩) ?_)
  ·rintro x c lb _ hx ⟨rfl,out,ia,ib,ac,bc,rfl,m1,h1,h2,h3⟩
   refine wpS_bind (bR h2 fun pb EN eb=>wpS_bind (bR (show ia<a.size by omega) fun pa MM ea=>wpS_bind (kz hO h0 ub (hb _ EN) (ha _ MM) fun Qx=>?_)))
   cases Qx with
   | true=>
    refine wpS_bind (bR h2 fun q hq eq=>?_)
    have m2:=m1.qW eq
    refine aK (fun z=>wpS_pure ⟨rfl, .inl ⟨_,_,rfl,m2.lN⟩⟩) (fun z=>?_)
    have z': ¬ib+1=b.size:=fun y=>z (by simpa using y)
    exact aK (fun _=>wpS_pure ⟨rfl, .inr ⟨_,ia,ib+1,_,_,rfl,m2,h1,by omega,by omega⟩⟩) (fun _=>wpS_pure ⟨rfl,_,ia,ib+1,_,_,rfl,m2,h1,by omega,by omega⟩)
   | false=>
    refine wpS_bind (bR (show ia<a.size by omega) fun q hq eq=>?_)
    have m2:=m1.qX eq
    refine aK (fun z=>wpS_pure ⟨rfl, .inl ⟨_,_,rfl,m2.sI⟩⟩) (fun z=>?_)
    have z': ¬ia+1+1=a.size:=fun y=>z (by simpa using y)
    exact aK (fun _=>wpS_pure ⟨rfl, .inr ⟨_,ia+1,ib,_,_,rfl,m2,by omega,h2,by omega⟩⟩) (fun _=>wpS_pure ⟨rfl,_,ia+1,ib,_,_,rfl,m2,by omega,h2,by omega⟩)
  ·rintro c lb ⟨e2,out,ia,ib,ac,bc,rfl,m1,h1,h2,h3⟩
   exact ⟨e2, .inr ⟨_,_,_,_,_,rfl,m1,h1,h2,by omega⟩⟩
  ·rintro c lb ⟨rfl,⟨out,z,rfl,pf⟩ | ⟨out,ia,ib,ac,bc,rfl,m1,h1,h2,h3⟩⟩
   ·exact wpS_pure ⟨hg,out,_,rfl,pf⟩
   refine wpS_bind (wpS_lift (wpAny_rule ⟨rfl,?_⟩))
   refine wpS_bind (wpS_mono (wpS_forRange (I:=fun x c aT=>mM st aT/\ ∃out ia ib g ac bc,c=(none,out,ia,ib,g,ac,bc)/\Mg a b out ia ib/\ia+1<a.size/\ib<b.size/\i+2<=ia+ib)
    (Q:=fun c aT=>mM st aT/\((∃out z,c=(some out,z)/\out.toList.Perm (a.toList++b.toList))\/ ∃out ia ib g ac bc,c=(none,out,ia,ib,g,ac,bc)/\Mg a b out ia ib/\ia+1<a.size/\ib<b.size/\i+2<=ia+ib)) ?_ ?_ ⟨hg,out,ia,ib,_,ac,bc,rfl,m1,h1,h2,h3⟩) ?_)
   ·rintro x c ui _ hx ⟨kA,out,ia,ib,gg,ac,bc,rfl,m1,h1,h2,h3⟩
    refine aK (fun _=>?_) (fun _=>?_)
    all_goals
     refine wpS_bind (wpS_modify ?_)
     refine wpS_bind (bR h2 fun pb EN eb=>wpS_bind (jr (a₀:=a₀) hO h0 (kA.kind EJ) (hb _ EN) ha (show ia+(a.size - ia)<=a.size by omega) (show 0<a.size - ia by omega) fun k hk=>?_))
     refine aK (fun ub=>aK (fun z=>wpS_pure ⟨kA.set _, .inl ⟨_,_,rfl,m1.Ar.sI⟩⟩) (fun z1=>aK (fun z=>wpS_pure ⟨kA.set _, .inl ⟨_,_,rfl,m1.Ar.lN⟩⟩) (fun z2=>?_))) (fun ub=>?_)
     all_goals first
      |(have m2:=m1.Ar (k:=k)
        have q1:ia+k+1<a.size:=As hk h1 (fun e=>z1 (by simpa using e)) (fun e=>z2 (by simpa using e))
        have q2:i+2<=ia+k+ib:=by omega)
      |(have m2:=m1
        have q1:=h1
        have q2:=h3)
     all_goals
      refine wpS_bind (bR h2 fun pc Qy ec=>?_)
      have m3:=m2.qW ec
      refine aK (fun z=>wpS_pure ⟨kA.set _, .inl ⟨_,_,rfl,m3.lN⟩⟩) (fun z3=>?_)
      have YZ: ¬ib+1=b.size:=fun e=>z3 (by simpa using e)
      refine wpS_bind (bR (Nat.lt_of_succ_lt q1) fun pd Qz ed=>wpS_bind (jr (a₀:=a₀) hO h0 (kA.kind EJ) (ha _ Qz) hb (show ib+1+(b.size - (ib+1))<=b.size by omega) (show 0<b.size - (ib+1) by omega) fun k2 me=>?_))
      refine aK (fun EO=>aK (fun z=>wpS_pure ⟨kA.set _, .inl ⟨_,_,rfl,m3.Aq.lN⟩⟩) (fun z4=>?_)) (fun EO=>?_)
      all_goals first
       |(have m4:=m3.Aq (k:=k2)
         have r1:ib+1+k2<b.size:=Au me h2 (fun e=>z4 (by simpa using e))
         have r2:ib<=ib+1+k2:=by omega)
       |(have m4:=m3
         have r1:ib+1<b.size:=by omega
         have r2:ib<=ib+1:=by omega)
      all_goals
       refine wpS_bind (bR (Nat.lt_of_succ_lt q1) fun pe Y0 ee=>?_)
       have m5:=m4.qX ee
       refine aK (fun z=>wpS_pure ⟨kA.set _, .inl ⟨_,_,rfl,m5.sI⟩⟩) (fun z5=>?_)
       have q5:=Nat.lt_of_le_of_ne q1 (fun e=>z5 (by simpa using e))
       exact aK (fun _=>wpS_pure (EK (kA.set _) m5 q5 r1 (GB q2 r2))) (fun _=>wpS_pure (GC (kA.set _) m5 q5 r1 (GB q2 r2)))
   ·rintro c ui ⟨kA,out,ia,ib,gg,ac,bc,rfl,m1,h1,h2,h3⟩
    exact ⟨kA, .inr ⟨_,_,_,_,_,_,rfl,m1,h1,h2,h3⟩⟩
   ·rintro c ui ⟨kA,⟨out,z,rfl,pf⟩ | ⟨out,ia,ib,g,ac,bc,rfl,m1,h1,h2,h3⟩⟩
    ·exact wpS_pure ⟨kA,out,_,rfl,pf⟩
    ·exact wpS_bind (wpS_modify (wpS_pure ⟨kA.set _,_,_,_,_,rfl,m1,h1,h2,by omega⟩))
 ·rintro c jG ⟨hg,out,ia,ib,g,rfl,m1,h1,h2,h3⟩
  exfalso
  omega
 ·exact ⟨.refl _,_,_,_,_,rfl,m0,by omega,by omega,by omega⟩
 ·rintro c aT ⟨hg,out,z,rfl,hp⟩
  exact wpS_pure (h _ _ hg hp)
theorem ER {st:SortSt} {a b:Array Keyed} {Q:Array Keyed->SortSt->Prop} (hO:κ.OneLt) (h0:KeysOf κ a₀) (EJ:kindOf st=oneType') (ha: ∀p∈a.toList,p∈a₀.toList) (hb: ∀p∈b.toList,p∈a₀.toList) (na:1<=a.size) (nb:1<=b.size)
  (h: ∀out aT,mM st aT->out.toList.Perm (a.toList++b.toList)->Q out aT):wpS (model prog w) A E s (YY a b) Q st:=by
 refine wpS_bind (wpS_lift (wpAny_rule ⟨rfl,?_⟩))
 refine wpS_bind (bR (show a.size - 1<a.size by omega) fun p hp ep=>?_)
 have m0:Mh a b #[p] (a.size - 1) b.size:=(show Mh a b #[] a.size b.size by unfold Mh;simp).qX na ep
 refine aK (fun g=>?_) (fun g=>?_)
 ·exact wpS_pure (h _ _ (.refl _) m0.lN)
 refine aK (fun g2=>?_) (fun g2=>?_)
 ·exact wpS_pure (h _ _ (.refl _) m0.sI)
 have g': ¬a.size - 1=0:=fun z=>g (by simpa using z)
 have GF: ¬b.size=1:=fun z=>g2 (by simpa using z)
 refine wpS_bind (wpS_get ?_)
 refine wpS_bind (wpS_mono (wpS_forRange (I:=fun i c aT=>mM st aT/\ ∃ia ib out g,c=(none,ia,ib,out,g)/\Mh a b out ia ib/\1<=ia/\2<=ib/\ia<=a.size/\ib<=b.size/\ia+ib+i+1<=a.size+b.size)
  (Q:=fun c aT=>mM st aT/\ ∃out z,c=(some out,z)/\out.toList.Perm (a.toList++b.toList)) ?_ ?_ ?_) ?_)
 ·rintro i c jG _ hi ⟨hg,ia,ib,out,g,rfl,m1,h1,h2,l1,l2,h3⟩
  have ub:=hg.kind EJ
  refine wpS_bind (wpS_mono (wpS_forRange (I:=fun x c aT=>aT=jG/\ ∃ia ib out ac bc,c=(none,ia,ib,out,ac,bc)/\Mh a b out ia ib/\1<=ia/\2<=ib/\ia<=a.size/\ib<=b.size/\ia+ib+i+1+x<=a.size+b.size)
   (Q:=fun c aT=>aT=jG/\((∃out z,c=(some out,z)/\out.toList.Perm (a.toList++b.toList))\/ ∃ia ib out ac bc,c=(none,ia,ib,out,ac,bc)/\Mh a b out ia ib/\1<=ia/\2<=ib/\ia<=a.size/\ib<=b.size/\ia+ib+i+2<=a.size+b.size)) ?_ ?_ ⟨rfl,ia,ib,out,0,0,rfl,m1,h1,h2,l1,l2,by omega⟩) ?_)
  ·rintro x c lb _ hx ⟨rfl,ia,ib,out,ac,bc,rfl,m1,h1,h2,l1,l2,h3⟩
   refine wpS_bind (bR (show ib - 1<b.size by omega) fun pb EN eb=>wpS_bind (bR (show ia - 1<a.size by omega) fun pa MM ea=>wpS_bind (kz hO h0 ub (hb _ EN) (ha _ MM) fun Qx=>?_)))
   cases Qx with
   | true=>
    refine wpS_bind (bR (show ia - 1<a.size by omega) fun q hq eq=>?_)
    have m2:=m1.qX h1 eq
    refine aK (fun z=>wpS_pure ⟨rfl, .inl ⟨_,_,rfl,m2.lN⟩⟩) (fun z=>?_)
    have z': ¬ia - 1=0:=fun y=>z (by simpa using y)
    exact aK (fun _=>wpS_pure ⟨rfl, .inr ⟨ia - 1,ib,_,_,_,rfl,m2,by omega,h2,by omega,l2,by omega⟩⟩) (fun _=>wpS_pure ⟨rfl,ia - 1,ib,_,_,_,rfl,m2,by omega,h2,by omega,l2,by omega⟩)
   | false=>
    refine wpS_bind (bR (show ib - 1<b.size by omega) fun q hq eq=>?_)
    have m2:=m1.qW (by omega) eq
    refine aK (fun z=>wpS_pure ⟨rfl, .inl ⟨_,_,rfl,m2.sI⟩⟩) (fun z=>?_)
    have z': ¬ib - 1=1:=fun y=>z (by simpa using y)
    exact aK (fun _=>wpS_pure ⟨rfl, .inr ⟨ia,ib - 1,_,_,_,rfl,m2,h1,by omega,l1,by omega,by omega⟩⟩) (fun _=>wpS_pure ⟨rfl,ia,ib - 1,_,_,_,rfl,m2,h1,by omega,l1,by omega,by omega⟩)
  ·rintro c lb ⟨e2,ia,ib,out,ac,bc,rfl,m1,h1,h2,l1,l2,h3⟩
   exact ⟨e2, .inr ⟨_,_,_,_,_,rfl,m1,h1,h2,l1,l2,by omega⟩⟩
  ·rintro c lb ⟨rfl,⟨out,z,rfl,pf⟩ | ⟨ia,ib,out,ac,bc,rfl,m1,h1,h2,l1,l2,h3⟩⟩
   ·exact wpS_pure ⟨hg,out,_,rfl,pf⟩
   refine wpS_bind (wpS_lift (wpAny_rule ⟨rfl,?_⟩))
   refine wpS_bind (wpS_mono (wpS_forRange (I:=fun x c aT=>mM st aT/\ ∃ia ib out g ac bc,c=(none,ia,ib,out,g,ac,bc)/\Mh a b out ia ib/\1<=ia/\2<=ib/\ia<=a.size/\ib<=b.size/\ia+ib+i+2<=a.size+b.size)
    (Q:=fun c aT=>mM st aT/\((∃out z,c=(some out,z)/\out.toList.Perm (a.toList++b.toList))\/ ∃ia ib out g ac bc,c=(none,ia,ib,out,g,ac,bc)/\Mh a b out ia ib/\1<=ia/\2<=ib/\ia<=a.size/\ib<=b.size/\ia+ib+i+2<=a.size+b.size)) ?_ ?_ ⟨hg,ia,ib,out,_,ac,bc,rfl,m1,h1,h2,l1,l2,h3⟩) ?_)
   ·rintro x c ui _ hx ⟨kA,ia,ib,out,gg,ac,bc,rfl,m1,h1,h2,l1,l2,h3⟩
    refine aK (fun _=>?_) (fun _=>?_)
    all_goals
     refine wpS_bind (wpS_modify ?_)
     refine wpS_bind (bR (show ib - 1<b.size by omega) fun pb EN eb=>wpS_bind (jr (a₀:=a₀) hO h0 (kA.kind EJ) (hb _ EN) ha (show 0+ia<=a.size by omega) (show ia - 1<ia by omega) fun k Ki=>?_))
     have hk:k<=ia:=Ki
     refine aK (fun ub=>aK (fun z=>wpS_pure ⟨kA.set _, .inl ⟨_,_,rfl,(m1.Ar hk).lN⟩⟩) (fun z1=>?_)) (fun ub=>?_)
     all_goals first
      |(have m2:=m1.Ar hk
        have z1': ¬k=0:=fun e=>z1 (by simpa using e)
        have q1:1<=k:=by omega
        have q2:k<=a.size:=by omega
        have q3:k+ib+i+2<=a.size+b.size:=by omega)
      |(have m2:=m1
        have q1:=h1
        have q2:=l1
        have q3:=h3)
     all_goals
      refine wpS_bind (bR (show ib - 1<b.size by omega) fun pc Qy ec=>?_)
      have m3:=m2.qW (by omega) ec
      refine aK (fun z=>wpS_pure ⟨kA.set _, .inl ⟨_,_,rfl,m3.sI⟩⟩) (fun z3=>?_)
      have YZ: ¬ib - 1=1:=fun e=>z3 (by simpa using e)
      refine wpS_bind (bR (yO q1 q2) fun pd Qz ed=>wpS_bind (jr (a₀:=a₀) hO h0 (kA.kind EJ) (ha _ Qz) hb (show 0+(ib - 1)<=b.size by omega) (show ib - 1 - 1<ib - 1 by omega) fun k2 QA=>?_))
      have me:k2<=ib - 1:=QA
      refine aK (fun EO=>aK (fun z=>wpS_pure ⟨kA.set _, .inl ⟨_,_,rfl,(m3.Aq me).sI⟩⟩) (fun z4=>aK (fun z=>wpS_pure ⟨kA.set _, .inl ⟨_,_,rfl,(m3.Aq me).lN⟩⟩) (fun z5=>?_))) (fun EO=>?_)
      all_goals first
       |(have m4:=m3.Aq me
         have z4': ¬k2=1:=fun e=>z4 (by simpa using e)
         have z5': ¬k2=0:=fun e=>z5 (by simpa using e)
         have r1:2<=k2:=by omega
         have r2:k2<=b.size:=by omega
         have r3:k2<=ib:=by omega)
       |(have m4:=m3
         have r1:2<=ib - 1:=by omega
         have r2:ib - 1<=b.size:=by omega
         have r3:ib - 1<=ib:=by omega)
      all_goals
       refine wpS_bind (bR (yO q1 q2) fun pe Y0 ee=>?_)
       have m5:=m4.qX q1 ee
       refine aK (fun z=>wpS_pure ⟨kA.set _, .inl ⟨_,_,rfl,m5.lN⟩⟩) (fun z6=>?_)
       have q5:=Jn (fun e=>z6 (by simpa using e))
       exact aK (fun _=>wpS_pure (EL (kA.set _) m5 q5 r1 (yP q2) r2 (B9 q3 r3))) (fun _=>wpS_pure (GD (kA.set _) m5 q5 r1 (yP q2) r2 (B9 q3 r3)))
   ·rintro c ui ⟨kA,ia,ib,out,gg,ac,bc,rfl,m1,h1,h2,l1,l2,h3⟩
    exact ⟨kA, .inr ⟨_,_,_,_,_,_,rfl,m1,h1,h2,l1,l2,h3⟩⟩
   ·rintro c ui ⟨kA,⟨out,z,rfl,pf⟩ | ⟨ia,ib,out,g,ac,bc,rfl,m1,h1,h2,l1,l2,h3⟩⟩
    ·exact wpS_pure ⟨kA,out,_,rfl,pf⟩
    ·exact wpS_bind (wpS_modify (wpS_pure ⟨kA.set _,ia,ib,_,_,rfl,m1,h1,h2,l1,l2,by omega⟩))
 ·rintro c jG ⟨hg,ia,ib,out,g,rfl,m1,h1,h2,l1,l2,h3⟩
  exfalso
  omega
 ·exact ⟨.refl _,a.size - 1,b.size,_,_,rfl,m0,by omega,by omega,by omega,by omega,by omega⟩
 ·rintro c aT ⟨hg,out,z,rfl,hp⟩
  exact wpS_pure (h _ _ hg hp)
end
end L2
set_option maxHeartbeats 1000000
namespace L2
open PySem PySem.Spec PyProof.Rows
theorem uX {α:Type} (sa:Nat): ∀(l:List α) (n:Nat) (arr:Array α),sa+n+l.length<=arr.size->
  ((l.zipIdx n).foldl (fun a x=>match x with | (p,j)=>a.setIfInBounds (sa+j) p) arr).toList=arr.toList.take (sa+n)++l++arr.toList.drop (sa+n+l.length)
 | [],n,arr,h=>by simp
 | p::l,n,arr,h=>by
  rw[List.zipIdx_cons,List.foldl_cons]
  have h':sa+n+(l.length+1)<=arr.size:=h
  have ih:=uX sa l (n+1) (arr.setIfInBounds (sa+n) p) (by rw[Array.size_setIfInBounds];omega)
  have e0:sa+(n+1)=sa+n+1:=by omega
  rw[e0]at ih
  refine Eq.trans ih ?_
  have cG:sa+n<arr.toList.length:=by rw[Array.length_toList];omega
  rw[Array.toList_setIfInBounds,List.take_set,List.drop_set_of_lt (by omega),List.length_cons,show sa+n+1+l.length=sa+n+(l.length+1) by omega]
  have e1:(arr.toList.take (sa+n+1)).set (sa+n) p=arr.toList.take (sa+n)++[p]:=by
   rw[List.take_succ_eq_append_getElem cG,List.set_append_right _ _ (by rw[List.length_take];omega),List.length_take,Nat.min_eq_left (by omega),Nat.sub_self]
   rfl
  rw[e1]
  simp
section
variable {prog:Program} {w:World} {A:Around} {E:Value->Shared->Prop} {s:Shared} {κ:KeyKind} {a₀:Array Keyed}
theorem ES {M:Model} {σ:Type} {Q:PUnit->σ->Prop} {st aT:σ} (h:Q ⟨⟩ aT):wpS M A E s (set aT:StateT σ Sem PUnit) Q st:=by
 unfold wpS;rw[StateT.run_set];exact wpAny_pure ⟨rfl,h⟩
theorem qY {arr:Array Keyed} {merged:Array Keyed} {x y z:Nat} (h1:x<=y) (h2:y<=z) (h3:z<=arr.size) (hp:merged.toList.Perm ((arr.extract x y).toList++(arr.extract y z).toList)):
  (merged.toList.zipIdx.foldl (fun a q=>match q with | (p,j)=>a.setIfInBounds (x+j) p) arr).Perm arr:=by
 rw[cq,cq]at hp
 have e:(arr.toList.drop x).take (y - x)++(arr.toList.drop y).take (z - y)=(arr.toList.drop x).take (z - x):=by
  have:=xg (arr.toList.drop x) (y - x) (z - x) (by omega)
  rw[List.drop_drop,show x+(y - x)=y by omega,show z - x - (y - x)=z - y by omega]at this
  exact this.symm
 rw[e]at hp
 have hl:merged.toList.length=z - x:=by rw[hp.length_eq,List.length_take,List.length_drop,Array.length_toList];omega
 rw[Array.perm_iff_toList_perm]
 have:=uX x merged.toList 0 arr (by omega)
 rw[Nat.add_zero,hl,show x+(z - x)=z by omega]at this
 refine List.Perm.trans (List.Perm.of_eq this) ?_
 refine ((List.Perm.append_left _ hp).append_right _).trans ?_
 rw[List.append_assoc, <-xh arr.toList x z (by omega),List.take_append_drop]
theorem uY {st:SortSt} {i sa na pw nb QB:Nat} {Q:Bool->SortSt->Prop} (hO:κ.OneLt) (h0:KeysOf κ a₀) (hB:PB a₀ st) (hi:(pendingOf st)[i]? =some (sa,na,pw)) (hj:(pendingOf st)[i+1]? =some (sa+na,nb,QB)) (h1:1<=na) (h2:1<=nb) (h3:sa+na+nb<=a₀.size)
  (h: ∀aT,PB a₀ aT->pendingOf aT=((pendingOf st).setIfInBounds i (sa,na+nb,pw)).eraseIdxIfInBounds (i+1)->Q true aT):wpS (model prog w) A E s (mergeAt' i) Q st:=by
 have hm: ∀p∈(arrOf st).toList,p∈a₀.toList:=fun p hp=>hB.mem hp
 have hz:=hB.size
 refine wpS_bind (wpS_get ?_)
 simp only[hi,hj]
 refine wpS_bind (ES ?_)
 refine wpS_bind (bR (show sa+na<(arrOf st).size by omega) fun pb EN eb=>wpS_bind (jr (a₀:=a₀) hO h0 hB.kind (hm _ EN) hm (show sa+na<=(arrOf st).size by omega) (show 0<na by omega) fun k hk=>?_))
 have Ki:k<=na:=hk
 refine aK (fun z=>wpS_pure (h _ ⟨hB.perm,hB.kind,hB.failed⟩ rfl)) (fun z=>?_)
 have z': ¬na - k=0:=fun e=>z (by simpa using e)
 refine wpS_bind (bR (show sa+k+(na - k) - 1<(arrOf st).size by omega) fun pa MM ea=>wpS_bind (jr (a₀:=a₀) hO h0 hB.kind (hm _ MM) hm (show sa+na+nb<=(arrOf st).size by omega) (show nb - 1<nb by omega) fun ET Y1=>?_))
 have Y2:ET<=nb:=Y1
 refine aK (fun z=>wpS_pure (h _ ⟨hB.perm,hB.kind,hB.failed⟩ rfl)) (fun y=>?_)
 have y': ¬ET=0:=fun e=>y (by simpa using e)
 have sx:((arrOf st).extract (sa+k) (sa+na)).size=na - k:=by rw[Array.size_extract];omega
 have sy:((arrOf st).extract (sa+na) (sa+na+ET)).size=ET:=by rw[Array.size_extract];omega
 have mx: ∀p∈((arrOf st).extract (sa+k) (sa+na)).toList,p∈a₀.toList:=fun p hp=>hm p (by rw[cq]at hp;exact List.mem_of_mem_drop (List.mem_of_mem_take hp))
 have my: ∀p∈((arrOf st).extract (sa+na) (sa+na+ET)).toList,p∈a₀.toList:=fun p hp=>hm p (by rw[cq]at hp;exact List.mem_of_mem_drop (List.mem_of_mem_take hp))
 have e:(failedOf st).isNone=true:=by rw[hB.failed];rfl
 refine aK (fun _=>?_) (fun _=>?_)
 ·refine wpS_bind (EM (a₀:=a₀) hO h0 hB.kind mx my (show 1<=((arrOf st).extract (sa+k) (sa+na)).size by omega) (show 1<=((arrOf st).extract (sa+na) (sa+na+ET)).size by omega) fun out aT hg hp=>?_)
  obtain ⟨g,rfl⟩:=hg
  refine wpS_bind (wpS_modify (wpS_bind (wpS_get (wpS_pure ?_))))
  have Jo:=h (SortSt.mk' (kindOf st) (out.toList.zipIdx.foldl (fun a q=>match q with | (p,j)=>a.setIfInBounds (sa+k+j) p) (arrOf st)) (((pendingOf st).setIfInBounds i (sa,na+nb,pw)).eraseIdxIfInBounds (i+1)) g (failedOf st)) ⟨(qY (arr:=arrOf st) (x:=sa+k) (y:=sa+na) (z:=sa+na+ET) (by omega) (by omega) (by omega) hp).trans hB.perm,hB.kind,hB.failed⟩ rfl
  show Q ((failedOf st).isNone) _
  rw[e]
  exact Jo
 ·refine wpS_bind (ER (a₀:=a₀) hO h0 hB.kind mx my (show 1<=((arrOf st).extract (sa+k) (sa+na)).size by omega) (show 1<=((arrOf st).extract (sa+na) (sa+na+ET)).size by omega) fun out aT hg hp=>?_)
  obtain ⟨g,rfl⟩:=hg
  refine wpS_bind (wpS_modify (wpS_bind (wpS_get (wpS_pure ?_))))
  have Jo:=h (SortSt.mk' (kindOf st) (out.toList.zipIdx.foldl (fun a q=>match q with | (p,j)=>a.setIfInBounds (sa+k+j) p) (arrOf st)) (((pendingOf st).setIfInBounds i (sa,na+nb,pw)).eraseIdxIfInBounds (i+1)) g (failedOf st)) ⟨(qY (arr:=arrOf st) (x:=sa+k) (y:=sa+na) (z:=sa+na+ET) (by omega) (by omega) (by omega) hp).trans hB.perm,hB.kind,hB.failed⟩ rfl
  show Q ((failedOf st).isNone) _
  rw[e]
  exact Jo
theorem jt {st:SortSt} {i j:Nat} {Q:Option Bool->SortSt->Prop} (hO:κ.OneLt) (h0:KeysOf κ a₀) (hB:PB a₀ st) (hi:i<a₀.size) (hj:j<a₀.size) (h: ∀b,Q (some b) st):wpS (model prog w) A E s (ltAt' i j) Q st:=by
 rw[ltAt'_eq]
 refine wpS_bind (wpS_get ?_)
 exact wpS_bind (bR (show i<(arrOf st).size by rw[hB.size];exact hi) fun p hp _=>wpS_bind (bR (show j<(arrOf st).size by rw[hB.size];exact hj) fun q hq _=>kz hO h0 hB.kind (hB.mem hp) (hB.mem hq) h))
theorem PB.rev {st:SortSt} (hB:PB a₀ st) {xs:Array Keyed} (hp:xs.Perm (arrOf st)):PB a₀ (setArr st xs):=⟨hp.trans hB.perm,hB.kind,hB.failed⟩
theorem sJ {st:SortSt} {i j:Nat} {Q:Unit->SortSt->Prop} (hB:PB a₀ st) (h: ∀aT,PB a₀ aT->pendingOf aT=pendingOf st->Q () aT):wpS (model prog w) A E s (reverseSlice' i j) Q st:=
 wpS_reverse (h _ (hB.rev (mirror_perm _ _ _ _)) rfl)
theorem EU {st:SortSt} {lo n ok:Nat} {Q:Bool->SortSt->Prop} (hO:κ.OneLt) (h0:KeysOf κ a₀) (hn:lo+n<=a₀.size) (hB:PB a₀ st)
  (h: ∀aT,PB a₀ aT->pendingOf aT=pendingOf st->Q true aT):wpS (model prog w) A E s (binarySort' lo n ok) Q st:=by
 refine wpS_bind (wpS_mono (wpS_forRange (I:=fun k c aT=>c=(none,())/\PB a₀ aT/\pendingOf aT=pendingOf st) (Q:=fun c aT=>c=(none,())/\PB a₀ aT/\pendingOf aT=pendingOf st) ?_ (fun _ _ z=>z) ⟨rfl,hB,rfl⟩) ?_)
 ·rintro k c jG hak v9 ⟨rfl,EV,e1⟩
  refine wpS_bind (wpS_mono (wpS_forRange (I:=fun x c aT=>aT=jG/\ ∃l r,c=(none,l,r)/\r<=k) (Q:=fun c aT=>aT=jG/\ ∃l r,c=(none,l,r)) ?_ ?_ ⟨rfl,0,k,rfl,Nat.le_refl _⟩) ?_)
  ·rintro x c lb _ hx ⟨rfl,l,r,rfl,hr⟩
   refine aK (fun _=>wpS_pure ⟨rfl,l,r,rfl⟩) (fun g=>?_)
   have g': ¬l ≥ r:=g
   refine wpS_bind (jt hO h0 EV (show lo+k<a₀.size by omega) (show lo+(l+r) / 2<a₀.size by omega) fun b=>?_)
   cases b with
   | true=>exact wpS_pure ⟨rfl,l,(l+r) / 2,rfl,by omega⟩
   | false=>exact wpS_pure ⟨rfl,(l+r) / 2+1,r,rfl,hr⟩
  ·rintro c lb ⟨e2,l,r,e3,_⟩
   exact ⟨e2,l,r,e3⟩
  ·rintro c lb ⟨rfl,l,r,rfl⟩
   exact wpS_bind (wpS_modify (wpS_pure ⟨rfl,EV.rev (bubble_perm _ _ _),e1⟩))
 ·rintro c jG ⟨rfl,EV,e1⟩
  exact wpS_pure (h jG EV e1)
theorem EW {st:SortSt} {lo mO:Nat} {Q:Option Nat->SortSt->Prop} (hO:κ.OneLt) (h0:KeysOf κ a₀) (hn:lo+mO<=a₀.size) (h1:1<=mO) (hB:PB a₀ st)
  (h: ∀m aT,PB a₀ aT->pendingOf aT=pendingOf st->1<=m->m<=mO->Q (some m) aT):wpS (model prog w) A E s (countRun' lo mO) Q st:=by
 refine wpS_bind (wpS_mono (wpS_forRange (I:=fun x c aT=>aT=st/\c=(none,x)) (Q:=fun c aT=>aT=st/\ ∃n,c=(none,n)/\1<=n/\n<=mO) ?_ ?_ ⟨rfl,rfl⟩) ?_)
 ·rintro x c jG QC hx ⟨rfl,rfl⟩
  refine wpS_bind (jt hO h0 hB (show lo+x<a₀.size by omega) (show lo+x - 1<a₀.size by omega) fun b=>?_)
  cases b with
  | true=>exact wpS_pure ⟨rfl,x,rfl,QC,by omega⟩
  | false=>exact wpS_pure ⟨rfl,rfl⟩
 ·rintro c jG ⟨e,rfl⟩
  exact ⟨e,_,rfl,by omega,by omega⟩
 ·rintro c jG ⟨rfl,n,rfl,MN,Lr⟩
  refine aK (fun g=>wpS_pure (h n jG hB rfl MN Lr)) (fun g=>?_)
  have g': ¬n=mO:=fun e=>g (by simpa using e)
  have Wd:n+1<=mO:=by omega
  refine aK (fun g2=>wpS_bind (jt hO h0 hB (show lo<a₀.size by omega) (show lo+n - 1<a₀.size by omega) fun b=>aK (fun _=>wpS_pure (h n jG hB rfl MN Lr)) (fun _=>wpS_bind (sJ hB fun lb OC e2=>?_)))) (fun g2=>?_)
  all_goals first
   |(have OD:=OC;have e3:=e2)
   |(have OD:=hB;have e3:pendingOf jG=pendingOf jG:=rfl)
  all_goals
   refine wpS_bind (wpS_lift (wpAny_rule ⟨rfl,?_⟩))
   refine wpS_bind (wpS_mono (wpS_forRange (I:=fun x c aT=>PB a₀ aT/\pendingOf aT=pendingOf jG/\ ∃q,c=(none,x,q)) (Q:=fun c aT=>PB a₀ aT/\pendingOf aT=pendingOf jG/\ ∃m q,c=(none,m,q)/\n+1<=m/\m<=mO) ?_ ?_ ⟨OD,e3,0,rfl⟩) ?_)
   ·rintro x c Kn Y3 hx ⟨uZ,e4,q,rfl⟩
    refine wpS_bind (jt hO h0 uZ (show lo+x<a₀.size by omega) (show lo+x - 1<a₀.size by omega) fun b=>aK (fun _=>?_) (fun _=>?_))
    ·exact aK (fun _=>wpS_bind (sJ uZ fun mY u_ e5=>wpS_pure ⟨u_,e5.trans e4,0,rfl⟩)) (fun _=>wpS_pure ⟨uZ,e4,0,rfl⟩)
    ·exact wpS_bind (jt hO h0 uZ (show lo+x - 1<a₀.size by omega) (show lo+x<a₀.size by omega) fun b2=>aK (fun _=>wpS_pure ⟨uZ,e4,x,q,rfl,Y3,Nat.le_of_lt hx⟩) (fun _=>wpS_pure ⟨uZ,e4,q+1,rfl⟩))
   ·rintro c Kn ⟨uZ,e4,q,rfl⟩
    exact ⟨uZ,e4,_,q,rfl,by omega,by omega⟩
   ·rintro c Kn ⟨uZ,e4,m,q,rfl,We,Jp⟩
    refine aK (fun _=>wpS_bind (sJ uZ fun mY u_ e5=>?_)) (fun _=>?_)
    all_goals first
     |(have Kq:=u_;have e6:=e5.trans e4)
     |(have Kq:=uZ;have e6:=e4)
    all_goals
     refine wpS_bind (sJ Kq fun Wf Wg e7=>?_)
     refine wpS_bind (wpS_mono (wpS_forRange (I:=fun x c aT=>aT=Wf/\c=(none,x)) (Q:=fun c aT=>aT=Wf/\ ∃k,c=(none,k)/\1<=k/\k<=mO) ?_ ?_ ⟨rfl,rfl⟩) ?_)
     ·rintro x c QD QC hx ⟨rfl,rfl⟩
      have Y4:m<=x:=QC
      exact wpS_bind (jt hO h0 Wg (show lo+x<a₀.size by omega) (show lo+x - 1<a₀.size by omega) fun b=>aK (fun _=>wpS_pure ⟨rfl,x,rfl,by omega,by omega⟩) (fun _=>wpS_pure ⟨rfl,rfl⟩))
     ·rintro c QD ⟨e,rfl⟩
      exact ⟨e,_,rfl,show 1<=max m mO by omega,show max m mO<=mO by omega⟩
     ·rintro c QD ⟨rfl,k,rfl,ub,me⟩
      exact wpS_pure (h k QD Wg (e7.trans e6) ub me)
end
theorem B_ (c:Prop) [Decidable c] {n:Nat} (h: ¬n<=1):(if c then n - 2 - 1 else n - 2)+1<n:=by split<;>omega
noncomputable def cp (P:Array (Nat×Nat×Nat)):List (Nat×Nat):=P.toList.map fun x=>(x.1,x.2.1)
noncomputable def mP:List (Nat×Nat)->Nat->Nat->Prop
 | [],a,b=>a=b
 |(s,n)::r,a,b=>s=a/\1<=n/\mP r (a+n) b
theorem mP.le: ∀{l:List (Nat×Nat)} {a b:Nat},mP l a b->a<=b
 | [],a,b,h=>Nat.le_of_eq h
 |(s,n)::r,a,b,h=>Nat.le_trans (Nat.le_add_right a n) h.2.2.le
theorem mP.mid {s n t m b:Nat} {l2:List (Nat×Nat)}: ∀{l1:List (Nat×Nat)} {a:Nat},mP (l1++(s,n)::(t,m)::l2) a b->t=s+n/\1<=n/\1<=m/\s+n+m<=b/\mP (l1++(s,n+m)::l2) a b
 | [],a,h=>by
  obtain ⟨h1,h2,h3,h4,h5⟩:=h
  have:=h5.le
  exact ⟨by omega,h2,h4,by omega,h1,by omega,by rw[<-Nat.add_assoc];exact h5⟩
 |(x,y)::l1,a,h=>by
  obtain ⟨h1,h2,h3⟩:=h
  obtain ⟨g1,g2,g3,g4,g5⟩:=mP.mid h3
  exact ⟨g1,g2,g3,g4,h1,h2,g5⟩
theorem mP.snoc {b n:Nat} (hn:1<=n): ∀{l:List (Nat×Nat)} {a:Nat},mP l a b->mP (l++[(b,n)]) a (b+n)
 | [],a,h=>by
  have e:a=b:=h
  exact ⟨e.symm,hn,by show a+n=b+n;omega⟩
 |(s,m)::r,a,h=>⟨h.1,h.2.1,mP.snoc hn h.2.2⟩
theorem Jq {α:Type} {l:List α} {i:Nat} {x y:α} (h1:l[i]? =some x) (h2:l[i+1]? =some y):l=l.take i++x::y::l.drop (i+2):=by
 conv=>lhs;rw[<-List.take_append_drop i l,m8 h1,m8 h2]
theorem EX {α:Type} {l:List α} {i:Nat} {x y v:α} (h1:l[i]? =some x) (h2:l[i+1]? =some y):(l.set i v).eraseIdx (i+1)=l.take i++v::l.drop (i+2):=by
 have hi:=(List.getElem?_eq_some_iff.mp h1).1
 rw[List.eraseIdx_eq_take_drop_succ,List.drop_set_of_lt (by omega),List.take_set,List.take_succ_eq_append_getElem hi,List.set_append_right _ _ (by rw[List.length_take];omega),List.length_take,Nat.min_eq_left (by omega),Nat.sub_self]
 simp
theorem yQ {P:Array (Nat×Nat×Nat)} {lo n p:Nat} (h:mP (cp P) 0 lo) (hn:1<=n):mP (cp (P.push (lo,n,p))) 0 (lo+n):=by
 unfold cp
 rw[Array.toList_push,List.map_append]
 exact h.snoc hn
theorem Jr {P:Array (Nat×Nat×Nat)} {lo i:Nat} (pw:Nat) (h:mP (cp P) 0 lo):mP (cp (P.modify i fun x=>match x with | (st,len,_)=>(st,len,pw))) 0 lo:=by
 have e:cp (P.modify i fun x=>match x with | (st,len,_)=>(st,len,pw))=cp P:=by
  unfold cp
  refine List.ext_getElem? fun j=>?_
  rw[List.getElem?_map,List.getElem?_map,Array.getElem?_toList,Array.getElem?_toList,Array.getElem?_modify]
  by_cases z:i=j
  ·rw[if_pos z]
   cases P[j]?<;> rfl
  ·rw[if_neg z]
 rw[e]
 exact h
section
variable {prog:Program} {w:World} {A:Around} {E:Value->Shared->Prop} {s:Shared} {κ:KeyKind} {a₀:Array Keyed}
theorem yR {st:SortSt} {i lo:Nat} {Q:Bool->SortSt->Prop} (hO:κ.OneLt) (h0:KeysOf κ a₀) (hB:PB a₀ st) (hc:mP (cp (pendingOf st)) 0 lo) (HW:lo<=a₀.size) (hi:i+1<(pendingOf st).size)
  (h: ∀aT,PB a₀ aT->mP (cp (pendingOf aT)) 0 lo->Q true aT):wpS (model prog w) A E s (mergeAt' i) Q st:=by
 obtain ⟨⟨sa,na,pw⟩,e1⟩: ∃x,(pendingOf st)[i]? =some x:=⟨_,getElem?_pos (pendingOf st) i (by omega)⟩
 obtain ⟨⟨sb,nb,QB⟩,e2⟩: ∃x,(pendingOf st)[i+1]? =some x:=⟨_,getElem?_pos (pendingOf st) (i+1) hi⟩
 have l1:(pendingOf st).toList[i]? =some (sa,na,pw):=by simpa using e1
 have l2:(pendingOf st).toList[i+1]? =some (sb,nb,QB):=by simpa using e2
 have qv:=hc
 unfold cp at qv
 rw[Jq l1 l2,List.map_append,List.map_cons,List.map_cons]at qv
 obtain ⟨g1,g2,g3,g4,g5⟩:=mP.mid qv
 subst g1
 refine uY hO h0 hB e1 e2 g2 g3 (show sa+na+nb<=a₀.size from Nat.le_trans g4 HW) fun aT Y5 ep=>h aT Y5 ?_
 unfold cp
 rw[ep,Array.toList_eraseIdxIfInBounds,Array.toList_setIfInBounds,EX l1 l2,List.map_append,List.map_cons]
 exact g5
theorem Ca {st:SortSt} {Q:Unit->SortSt->Prop} (hO:κ.OneLt) (h0:KeysOf κ a₀) (hB:PB a₀ st) (hp:pendingOf st= #[])
  (h: ∀aT,(arrOf aT).Perm a₀->failedOf aT=none->Q () aT):wpS (model prog w) A E s sortRuns' Q st:=by
 have hz:=hB.size
 rw[sortRuns'_eq]
 refine wpS_bind (wpS_get ?_)
 refine wpS_bind (wpS_mono (wpS_forRange (I:=fun x c aT=>PB a₀ aT/\ ∃lo,c=(none,lo)/\lo<=a₀.size/\mP (cp (pendingOf aT)) 0 lo) (Q:=fun c aT=>PB a₀ aT/\ ∃lo,c=(none,lo)/\lo<=a₀.size/\mP (cp (pendingOf aT)) 0 lo) ?_ (fun _ _ z=>z) ⟨hB,0,rfl,Nat.zero_le _,by rw[hp];rfl⟩) ?_)
 ·rintro x c jG _ hx ⟨EV,lo,rfl,HW,MO⟩
  refine aK (fun g=>wpS_pure ⟨EV,lo,rfl,HW,MO⟩) (fun g=>?_)
  have g': ¬lo ≥ (arrOf st).size:=g
  refine wpS_bind (EW hO h0 (show lo+((arrOf st).size - lo)<=a₀.size by omega) (show 1<=(arrOf st).size - lo by omega) EV fun m lb OC e2 m1 m2=>?_)
  have m2':m<=(arrOf st).size - lo:=m2
  refine aK (fun g2=>wpS_bind (wpS_lift (wpAny_rule ⟨rfl,wpS_bind (EU hO h0 (show lo+min ((arrOf st).size - lo) (minRun' (arrOf st).size (arrOf st).size 0)<=a₀.size by omega) OC fun ui OD e3=>aK (fun z=>by cases z) (fun z=>wpS_bind (wpS_get ?_)))⟩))) (fun g2=>wpS_bind (wpS_get ?_))
  all_goals first
   |(have uZ:=OD
     have MJ:mP (cp (pendingOf ui)) 0 lo:=by rw[e3,e2];exact MO
     have GF:m<minRun' (arrOf st).size (arrOf st).size 0:=g2
     have n1:1<=min ((arrOf st).size - lo) (minRun' (arrOf st).size (arrOf st).size 0):=by omega
     have n2:lo+min ((arrOf st).size - lo) (minRun' (arrOf st).size (arrOf st).size 0)<=a₀.size:=by omega
     generalize hb:(pendingOf ui).back? =o)
   |(have uZ:=OC
     have MJ:mP (cp (pendingOf lb)) 0 lo:=by rw[e2];exact MO
     have n1:=m1
     have n2:lo+m<=a₀.size:=by omega
     generalize hb:(pendingOf lb).back? =o)
  all_goals
   cases o with
   | none=>exact wpS_bind (wpS_modify (wpS_pure ⟨⟨uZ.perm,uZ.kind,uZ.failed⟩,_,rfl,n2,yQ MJ n1⟩))
   | some x=>
    obtain ⟨s1,l1,p1⟩:=x
    refine wpS_bind (wpS_mono (wpS_forRange (I:=fun _ c aT=>c=(none,())/\PB a₀ aT/\mP (cp (pendingOf aT)) 0 lo) (Q:=fun c aT=>c=(none,())/\PB a₀ aT/\mP (cp (pendingOf aT)) 0 lo) ?_ (fun _ _ z=>z) ⟨rfl,uZ,MJ⟩) ?_)
    ·rintro y c mY _ _ ⟨rfl,u_,Js⟩
     refine wpS_bind (wpS_get ?_)
     by_cases hs:(pendingOf mY).size>1
     ·obtain ⟨⟨u,v,Wh⟩,eo⟩: ∃x,(pendingOf mY)[(pendingOf mY).size - 2]? =some x:=⟨_,getElem?_pos (pendingOf mY) ((pendingOf mY).size - 2) (by omega)⟩
      simp only[if_pos hs,eo]
      exact aK (fun _=>wpS_pure ⟨rfl,u_,Js⟩) (fun _=>wpS_bind (yR hO h0 u_ Js HW (by omega) fun Y6 Kq QE=>aK (fun z=>by cases z) (fun z=>wpS_pure ⟨rfl,Kq,QE⟩)))
     ·simp only[if_neg hs]
      exact wpS_pure ⟨rfl,u_,Js⟩
    ·rintro c mY ⟨rfl,u_,Js⟩
     exact wpS_bind (wpS_modify (wpS_bind (wpS_modify (wpS_pure ⟨⟨u_.perm,u_.kind,u_.failed⟩,_,rfl,n2,yQ (Jr _ Js) n1⟩))))
 ·rintro c jG ⟨EV,lo,rfl,HW,MO⟩
  refine wpS_bind (wpS_mono (wpS_forRange (I:=fun _ c aT=>c=(none,())/\PB a₀ aT/\mP (cp (pendingOf aT)) 0 lo) (Q:=fun c aT=>c=(none,())/\PB a₀ aT) ?_ (fun _ _ z=>⟨z.1,z.2.1⟩) ⟨rfl,EV,MO⟩) ?_)
  ·rintro y c mY _ _ ⟨rfl,u_,Js⟩
   refine wpS_bind (wpS_get ?_)
   refine aK (fun _=>wpS_pure ⟨rfl,u_⟩) (fun g=>?_)
   have g': ¬(pendingOf mY).size<=1:=g
   refine wpS_bind (yR hO h0 u_ Js HW ?_ fun Y6 Kq QE=>aK (fun z=>by cases z) (fun z=>wpS_pure ⟨rfl,Kq,QE⟩))
   exact B_ _ g'
  ·rintro c mY ⟨rfl,u_⟩
   exact wpS_pure (h _ u_.perm u_.failed)
end
end L2
set_option maxHeartbeats 1000000
namespace L2
open PySem PySem.Spec PyProof.Rows
section
variable {prog:Program} {w:World} {A:Around} {E:Value->Shared->Prop} {s:Shared}
theorem ow {κ:KeyKind} (hO:κ.OneLt) {ad:Addr} {xs:List Value} {ep:Nat} {P:Fin->Shared->Prop} (Cb:s.heap.get? ad=some (seqObj "list" xs.toArray ep))
  (GG:KeysOf κ (pairsOf xs)) (De: ∀u v r,xs=u::v::r->keyKind' (u::v::r).toArray=pure oneType') (hlen:xs.length<=10000)
  (hP: ∀GH:SortSt,(arrOf GH).Perm (pairsOf xs)->P (.done (.ret .none)) { s with heap:=sortedHeap s.heap ad xs ((arrOf GH).map (·.2)) }):
  wpAny (model prog w) A (Builtin.«list.sort» ⟨[.ref ad],[]⟩) P E s:=by
 have lim:(10000:Nat)<sizeLine:=by decide
 have Y7:ad<s.heap.objs.size:=Heap.lt_size Cb
 rw[list_sort_plain]
 refine wpAny_bind (listItems_at Cb rfl (wpAny_bind (listUpdate_at Cb rfl ?_)))
 obtain ⟨Y8,MP⟩: ∃q,(s.heap.update ad (Obj.mapSeq fun _=> #[])).get? ad=some (seqObj "list" #[] q):=⟨_,get?_update_seq Cb (fun _=> #[])⟩
 refine wpAny_bind (seqEpoch_at MP rfl (wpAny_bind (wpAny_newTuple (wpAny_bind (wpAny_newList (wpAny_holding ?_))))))
 have EY:(((s.heap.update ad (Obj.mapSeq fun _=> #[])).push (seqObj "tuple" xs.toArray 0)).push (seqObj "list" #[] 0)).get? ad=some (seqObj "list" #[] Y8):=by
  have n1:ad<(s.heap.update ad (Obj.mapSeq fun _=> #[])).objs.size:=by rw[Heap.size_update];exact Y7
  exact Heap.get?_push_of_some _ (Heap.get?_push_of_some _ MP)
 show wpAny (model prog w) A _ P E { s with heap:=((s.heap.update ad (Obj.mapSeq fun _=> #[])).push (seqObj "tuple" xs.toArray 0)).push (seqObj "list" #[] 0) }
 dsimp only
 by_cases Eg:xs.toArray.size<2
 ·rw[if_pos Eg,if_pos Eg]
  refine wpAny_bind (wpAny_pure ?_)
  rw[StateT.run_pure]
  refine wpAny_bind (wpAny_pure ?_)
  dsimp only
  refine wpAny_bind (seqEpoch_at EY rfl (wpAny_bind (listUpdate_at EY rfl ?_ (hsz2:=by rw[Array.size_map];show (pairsOf xs).size<=_;rw[pairsOf_size];omega))))
  simp only[bne_self_eq_false,Bool.false_eq_true,if_false]
  exact wpAny_pure (hP (SortSt.mk' general' (xs.toArray.zip xs.toArray) #[] 7 none) (Array.Perm.refl _))
 ·rw[if_neg Eg,if_neg Eg]
  obtain ⟨u,v,r,rfl⟩: ∃u v r,xs=u::v::r:=by
   rcases xs with _ | ⟨u,_ | ⟨v,r⟩⟩
   ·exact absurd (by simp) Eg
   ·exact absurd (by simp) Eg
   ·exact ⟨u,v,r,rfl⟩
  rw[De _ _ _ rfl]
  refine wpAny_bind (wpAny_pure (wpAny_bind (wpAny_mono (Ca (κ:=κ) (a₀:=pairsOf (u::v::r)) (st:=SortSt.mk' oneType' ((u::v::r).toArray.zip (u::v::r).toArray) #[] 7 none)
   (Q:=fun _ GH=>(arrOf GH).Perm (pairsOf (u::v::r))/\failedOf GH=none) hO GG ⟨Array.Perm.refl _,rfl,rfl⟩ rfl fun GH a1 a2=>⟨a1,a2⟩) ?_ fun _ _ e=>e)))
  rintro ⟨⟨⟩,GH⟩ s2 ⟨rfl,hp,hf⟩
  dsimp only
  refine wpAny_bind (seqEpoch_at EY rfl (wpAny_bind (listUpdate_at EY rfl ?_ (hsz2:=by refine Nat.le_trans (Nat.le_of_eq ((Array.size_map ..).trans (hp.size_eq.trans (pairsOf_size _)))) ?_;omega))))
  rw[hf]
  simp only[bne_self_eq_false,Bool.false_eq_true,if_false]
  exact wpAny_pure (hP GH hp)
theorem va {vs:List Value} {ss:List Str} (hS:StrsAre vs ss) {xs:Array Keyed} (hp:xs.Perm (pairsOf vs)): ∃EZ,StrsAre (xs.map (·.2)).toList EZ/\EZ.Perm ss:=by
 have q1:xs.toList.Perm (vs.zip vs):=by rw[<-pairsOf_toList];exact Array.perm_iff_toList_perm.mp hp
 have q2: ∀p,p∈xs.toList->p.1=p.2/\p.1∈vs:=fun p h=>mem_zip_self (q1.mem_iff.mp h)
 refine ⟨xs.toList.map (fun p=>strOf p.1),?_,?_⟩
 ·rw[show (xs.map (·.2)).toList=xs.toList.map (·.1) by rw[Array.toList_map];exact List.map_congr_left fun p h=>(q2 p h).1.symm]
  have q3:=strsAre_map (xs.toList.map (·.1)) fun v hv=>by
   obtain ⟨p,h,rfl⟩:=List.mem_map.mp hv
   exact hS.all _ (q2 p h).2
  rwa [List.map_map]at q3
 ·have q3:=q1.map (fun p=>strOf p.1)
  rwa [show (vs.zip vs).map (fun p=>strOf p.1)=ss by rw[show (fun p:Value×Value=>strOf p.1)=strOf ∘ Prod.fst from rfl, <-List.map_map,List.map_fst_zip (Nat.le_refl _),hS.strs]]at q3
theorem vb {Q:Value->Shared->Prop} (hh:A.handled=none) (l:List Nat) (t:Tok) (hl:l.length<=10000)
  (h: ∀(h1 h':Heap) (tk:Nat) (a:Addr) (out:Array Value) (EZ:List Str) (e:Nat),(∀b o,s.heap.get? b=some o->h1.get? b=some o)->(∀b o,h1.get? b=some o->h'.get? b=some o)->a=h1.objs.size->h'.get? a=some (seqObj "list" out e)->StrsAre out.toList EZ->EZ.Perm ((l.map fun c=>[c]).map S)->Q (.ref a) { s with heap:=h',toks:=tk }):
  wpAny (model prog w) A (call (.builtin "sorted") [.str (S l) t]) Q E s:=by
 refine Calls.call_function_entry kind_sorted plain_sorted entry_sorted (args_sorted1 _) ?_
 unfold Builtin.«sorted»
 refine wpAny_bind (m:=checkCount "sorted" 1 1 _) (wpAny_pure ?_)
 have ma:(10000:Nat)<sizeLine:=by decide
 refine wpAny_bind (wpAny_collect_str (A:=A.in1) (show A.in1.handled=none from hh) (S l) t (fun s' acc hk hg hd ho nK=>?_) (by rw[lD];omega))
 obtain ⟨h1,h2⟩:=nK
 rw[lD]at h1
 have rv:Vals (cI l) acc.toList:=nO (by simpa using h1) (fun j v e=>h2 j v (by simpa using e))
 rw[yn]at rv
 have hS:=D6 rv
 have hn:acc.toList.length=l.length:=by rw[<-rv.length,List.length_map,List.length_map]
 refine wpAny_bind (wpAny_newList ?_)
 have J_:(s'.heap.push (seqObj "list" acc.toList.toArray 0)).get? s'.heap.objs.size=some (seqObj "list" acc.toList.toArray 0):=Heap.get?_push_size _ rfl
 show wpAny _ _ _ _ _ { s' with heap:=s'.heap.push (seqObj "list" acc.toList.toArray 0) }
 refine wpAny_bind (wpAny_holding (wpAny_call_entry slot_list_sort ⟨_,J_,rfl⟩ entry_list_sort (ow (κ:=strKind) strKind_oneLt J_ hS.keysOf (fun v₁ v₂ rest e=>keyKind_strs (by rw[<-e];exact hS)) (by omega) fun aT hp=>⟨_,rfl,?_⟩) (args_list_sort _)))
 obtain ⟨EZ,k1,k2⟩:=va hS hp
 obtain ⟨e,he⟩:=sortedHeap_at (out:=(arrOf aT).map (·.2)) J_
 refine wpAny_pure ⟨_,rfl,?_⟩
 have es: ∀hh:Heap,({ s' with heap:=hh }:Shared)={ s with heap:=hh,toks:=s'.toks }:=fun hh=>by
  cases s;cases s'
  simp only at hg hd ho
  subst hg hd ho
  rfl
 show Q (.ref s'.heap.objs.size) { s' with heap:=sortedHeap (s'.heap.push (seqObj "list" acc.toList.toArray 0)) s'.heap.objs.size acc.toList ((arrOf aT).map (·.2)) }
 rw[es]
 refine h s'.heap _ _ _ _ EZ e hk (fun b o hb=>?_) rfl he k1 k2
 have cG:=Heap.lt_size hb
 rw[sortedHeap_old (Nat.ne_of_lt cG) (by rw[size_push'];exact Nat.lt_succ_of_lt cG)]
 exact Heap.get?_push_of_some _ hb
end
section
variable {X:Cx}
noncomputable def E1:List V->Hp->VK->Prop:=fun xs H Q=> ∃(l:List Nat),xs=[.str (S l)]/\l.length<=10000/\ ∀(q:Addr) (l':List Nat),H q=none->l'.Perm l->Q (.ref q) (upd H q (.lst (cI l')))
theorem p9 (hc:X.calm=true):cL X (.builtin "sorted") E1:=by
 intro pins s σ H xs us Q I r h
 obtain ⟨l,rfl,hn,q⟩:=h
 obtain ⟨u,rfl,t,rfl⟩:=vals1 r
 have lim:(10000:Nat)<sizeLine:=by decide
 refine vb (I.ok.hd hc) l t hn fun h1 h' tk a out EZ e k1 k2 ea he g1 g2=>?_
 have yS:(EZ.map fun x=>x.cps.toList).Perm (l.map fun c=>[c]):=by
  have:=g2.map fun x:Str=>x.cps.toList
  rw[List.map_map]at this
  have e2:(l.map fun c=>[c]).map ((fun x:Str=>x.cps.toList) ∘ S)=l.map fun c=>[c]:=by
   have: ∀l'∈l.map (fun c=>[c]),((fun x:Str=>x.cps.toList) ∘ S) l'=l':=fun l' _=>dP l'
   calc (l.map fun c=>[c]).map _=(l.map fun c=>[c]).map id:=List.map_congr_left this
    _=_:=List.map_id _
  rwa [e2]at this
 obtain ⟨l',el,pl⟩:=D7 yS
 have hv:=ym g1
 rw[el]at hv
 rw[<-yn]at hv
 have I1:Inv X pins σ H { s with heap:=h1,toks:=tk }:=I.kept k1
 have I2:Inv X pins σ (upd H a (.lst (cI l'))) { s with heap:=h',toks:=tk }:=I1.laid (t':=tk) (a:=a) (o:= .lst (cI l')) k2 (by rw[ea];exact Nat.le_refl _) ⟨by unfold cI;rw[List.length_map,pl.length_eq];omega,out.toList,e,hv,by simpa [seqObj]using he⟩
 exact ⟨.ref a,_,I2,rfl,q _ _ (I1.a_.fresh (by rw[ea];exact Nat.le_refl _)) pl⟩
end
end L2
set_option maxHeartbeats 1000000
namespace L2
open PySem PySem.Spec PyProof.Rows
section
variable {X:Cx}
noncomputable def E3:V->List V->Hp->VK->Prop:=fun x vs H Q=> ∃l:List Nat,x= .str (S l)/\vs=[]/\(∀c∈l,c<128)/\l.length<=10000/\Q (.str (S (l.map PyProof.Rows.lo1))) H
theorem oA {l:List Nat} (h: ∀c∈l,c<128):Txt.lower (S l)=S (l.map PyProof.Rows.lo1):=by
 rw[lower_ascii (by intro d hd;rw[dP]at hd;exact h d hd)]
 simp[S]
theorem Av:rR X "str.lower" E3:=by
 intro pins s σ H x xs v us Q I rx rv h
 obtain ⟨l,rfl,rfl,hc,hz,q⟩:=h
 obtain ⟨t,rfl⟩:=rx
 have e:us=[]:=by cases rv;rfl
 subst e
 refine SC.lower (by rw[oA hc,aY,List.length_map];unfold Builtin.Str.tooLong;have:(10000:Nat)<=sizeLine:=(by decide);exact decide_eq_false (by omega)) ⟨.str (S (l.map PyProof.Rows.lo1)),H,I.tok _,⟨_,congrArg (fun z=>Value.str z _) (oA hc)⟩,q⟩
noncomputable def E5:List V->Hp->VK->Prop:=fun xs H Q=> ∃x,xs=[x, .ty "tuple"]/\((∃p ys,x= .ref p/\H p=some (.lst ys)/\Q (.bl false) H)\/ ∃p ys,x= .ref p/\H p=some (.tup ys)/\Q (.bl true) H)
theorem vc (K:PySem.W.Frag) (h:X.K=K):cL X (.builtin "isinstance") E5:=by
 subst h
 intro pins s σ H xs us Q I r h
 obtain ⟨x,rfl,h⟩:=h
 obtain ⟨u,w',rfl,r1,r2⟩:=vals2 r
 cases (show w'=Value.type "tuple" from r2)
 rcases h with ⟨p,ys,rfl,hq,q⟩ | ⟨p,ys,rfl,hq,q⟩
 ·exact g7 I r1 (.lst hq) (b:=false) (by unfold PySem.W.kitOne;rw[if_neg (by decide)];rfl) fun tk=>⟨.bl false,H,I.tok _,rfl,q⟩
 ·exact g7 I r1 (.tup hq) (by unfold PySem.W.kitOne;rw[if_pos (by decide)]) fun tk=>⟨.bl true,H,I.tok _,rfl,q⟩
end
end L2
set_option maxHeartbeats 4000000
namespace My
open PySem PySem.Spec PyProof.Rows L2 XL
noncomputable def aj:List Nat:=[97,98,99,100,101,102,103,104,105,106,107,108,109,110,111,112,113,114,115,116,117,118,119,120,121,122]
noncomputable def Cc:List Nat:=[65,66,67,68,69,70,71,72,73,74,75,76,77,78,79,80,81,82,83,84,85,86,87,88,89,90]
noncomputable def Lt (c:Nat):Prop:=c∈aj\/c∈Cc
noncomputable instance (c:Nat):Decidable (Lt c):=by unfold Lt;infer_instance
noncomputable def dw (c:Nat):Nat:=if yh c=true then PyProof.Rows.up1 c else PyProof.Rows.lo1 c
theorem sL: ∀c∈aj++Cc,c<128/\dw c∈aj++Cc/\dw (dw c)=c/\dw c≠c:=by decide+kernel
theorem Lt.mem {c:Nat} (h:Lt c):c∈aj++Cc:=List.mem_append.mpr h
theorem Lt.lt {c:Nat} (h:Lt c):c<128:=(sL c h.mem).1
theorem Lt.dw {c:Nat} (h:Lt c):Lt (dw c):=List.mem_append.mp (sL c h.mem).2.1
theorem gu {c:Nat} (h:Lt c):dw (dw c)=c:=(sL c h.mem).2.2.1
theorem Jt {c:Nat} (h:Lt c):dw c≠c:=(sL c h.mem).2.2.2
noncomputable def cR (l:List Nat):List Nat:=(l.map dw).reverse
noncomputable def aD (b:Addr) (H H':Hp):Prop:= ∀c o,H c=some o->c≠b->H' c=some o
theorem aD.refl (b:Addr) (H:Hp):aD b H H:=fun _ _ h _=>h
theorem aD.trans {b:Addr} {H H1 H2:Hp} (x:aD b H H1) (y:aD b H1 H2):aD b H H2:=fun c o h n=>y c o (x c o h n) n
theorem aD.of {b:Addr} {H H':Hp} (x:ar H H'):aD b H H':=fun c o h _=>x c o h
theorem aD.upd (b:Addr) (H:Hp) (o:HO):aD b H (upd H b o):=fun c o h n=>by rw[aA n];exact h
theorem ar.upd {H:Hp} {p:Addr} {o:HO} (h:H p=none):ar H (L2.upd H p o):=fun c u e=>by rw[aA (aC e h)];exact e
noncomputable def bw (H:Hp) (b:Addr):Prop:= ∃x y:Int,H b=some (.lst [.int x, .int y])
theorem bw.same {H H':Hp} {b:Addr} (h:bw H b) (s:ar H H'):bw H' b:=let ⟨x,y,e⟩:=h;⟨x,y,s _ _ e⟩
structure Yd (y:List Nat):Prop where
 nd:y.Nodup
 lt: ∀c∈y,Lt c
 cl: ∀c∈y,dw c∈y
noncomputable def mj (_:PySem.W.Frag):Sp:=fun vs H Q _=> ∃c,vs=[.str (S [c])]/\c<128/\Q (.str (S [dw c])) H
theorem sM {K:PySem.W.Frag} {vs:List V} {H:Hp} {Q:VK} {E:XK} (h:mj K vs H Q E):vs.length=1:=by obtain ⟨c,rfl,_⟩:=h;rfl
noncomputable def qZ (_:PySem.W.Frag):Sp:=fun vs H Q _=> ∃l:List Nat,vs=[.str (S l)]/\(∀c∈l,c<128)/\l.length<=1000/\ ∀H',ar H H'->Q (.str (S (cR l))) H'
theorem xj {K:PySem.W.Frag} {vs:List V} {H:Hp} {Q:VK} {E:XK} (h:qZ K vs H Q E):vs.length=1:=by obtain ⟨c,rfl,_⟩:=h;rfl
noncomputable def yT (K:PySem.W.Frag):Sp:=fun vs H Q _=> ∃(a:Addr) (ns:List Int) (k:Nat),vs=[.ref a, .int k]/\bt K H a (ns.map V.int)/\k<=1000/\ ∀b H',H b=none->bw H' b->ar H H'->Q (.ref b) H'
theorem Cd {K:PySem.W.Frag} {vs:List V} {H:Hp} {Q:VK} {E:XK} (h:yT K vs H Q E):vs.length=2:=by obtain ⟨a,ns,k,rfl,_⟩:=h;rfl
noncomputable def vd (_:PySem.W.Frag):Sp:=fun vs H Q _=> ∃(b:Addr) (m:Int),vs=[.ref b, .int m]/\bw H b/\1<=m/\m<1000000/\ ∀(r:Nat) H',(r:Int)<m->bw H' b->aD b H H'->Q (.int r) H'
theorem Aw {K:PySem.W.Frag} {vs:List V} {H:Hp} {Q:VK} {E:XK} (h:vd K vs H Q E):vs.length=2:=by obtain ⟨b,m,rfl,_⟩:=h;rfl
noncomputable def lB (K:PySem.W.Frag):Sp:=fun vs H Q _=> ∃(a:Addr) (ns:List Int),vs=[.ref a]/\bt K H a (ns.map V.int)/\ns.length<=63/\ ∀H',Q (.bl true) H'
theorem E6 {K:PySem.W.Frag} {vs:List V} {H:Hp} {Q:VK} {E:XK} (h:lB K vs H Q E):vs.length=1:=by obtain ⟨b,m,rfl,_⟩:=h;rfl
theorem ml: ∀l:List Nat,(l.map fun c=>[c]).flatten=l
 | []=>rfl
 | c::l=>by rw[List.map_cons,List.flatten_cons,ml l];rfl
theorem ve: ∀l:List Nat,((l.map fun c=>[c]).map List.length).sum=l.length
 | []=>rfl
 | c::l=>by
  rw[List.map_cons,List.map_cons,List.sum_cons,ve l]
  show 1+l.length=l.length+1
  omega
theorem dR (l:List Nat):cI l=(l.map fun c=>[c]).map fun l=>V.str (S l):=by unfold cI;rw[List.map_map];rfl
theorem E7 (l:List Nat):(cI l).reverse=cI l.reverse:=by unfold cI;rw[List.map_reverse]
theorem cS (l:List Nat) (c:Nat):cI l++[V.str (S [c])]=cI (l++[c]):=by unfold cI;rw[List.map_append];rfl
theorem take_snoc {α:Type} {l:List α} {i:Nat} {x:α} (h:l[i]? =some x):l.take i++[x]=l.take (i+1):=by rw[List.take_add_one,h];rfl
theorem yU {ns:List Int} {i:Nat} (h:i<ns.length): ∃z,(ns.map V.int)[i]? =some (V.int z):=⟨ns[i],by rw[List.getElem?_map,List.getElem?_eq_getElem h];rfl⟩
theorem bY {σ:L2.St} {H:Hp} {A B:Hp->Prop} (h:A H):Lu σ H fun b H3=>if b=true then A H3 else B H3:=by
 show (if true=true then A H else B H)
 rw[if_pos rfl]
 exact h
theorem xk (b:Bool) (z:Int): ∃y,rP [V.int 0,V.int z] (if b=true then 1 else 0)=some (V.int y):=by
 cases b
 ·exact ⟨0,rfl⟩
 ·exact ⟨z,rfl⟩
theorem Ju {l:List Nat} {i:Nat} (h:i<l.length):(cI l)[i]? =some (V.str (S [l[i]])):=by unfold cI;rw[List.getElem?_map,List.getElem?_eq_getElem h];rfl
structure YdW (i:Nat) (L E:List Nat):Prop where
 yd:Yd E
 nd:L.Nodup
 sm: ∀c∈L,c∈aj
 ap: ∀c∈L,c∉E
 ll:L.length=26 - i
 el:E.length=2*i
theorem aD.xl {b p:Addr} {H H':Hp} {o:HO} (h:aD b H H') (n:H p=none):aD b H (L2.upd H' p o):=fun c u e z=>by rw[aA (aC e n)];exact h c u e z
theorem bw.xl {b p:Addr} {H:Hp} {o:HO} (h:bw H b) (n:p≠b):bw (L2.upd H p o) b:=let ⟨x,y,e⟩:=h;⟨x,y,by rw[aA (Ne.symm n)];exact e⟩
theorem aD.none {b p:Addr} {H H':Hp} (h:aD b H H') (n:H' p=none) (z:p≠b):H p=none:=by
 cases q:H p with
 | none=>rfl
 | some o=>rw[h p o q z]at n;cases n
theorem bw.ne {b p:Addr} {H:Hp} (h:bw H b) (n:H p=none):p≠b:=fun z=>by obtain ⟨x,y,e⟩:=h;rw[<-z,n]at e;cases e
theorem bo {c:Bool} {A B:Prop} (h:c=false) (hB:B):if c=true then A else B:=by rw[h];exact wK hB
theorem eP {c:Bool} {A B:Prop} (h:c=true) (hA:A):if c=true then A else B:=by rw[h];exact wL hA
theorem sN (a b:List Nat):cR (a++b)=cR b++cR a:=by unfold cR;rw[List.map_append,List.reverse_append]
theorem sO {l:List Nat} (h: ∀c∈l,Lt c):cR (cR l)=l:=by
 unfold cR
 rw[List.map_reverse,List.reverse_reverse,List.map_map]
 have: ∀c∈l,(dw ∘ dw) c=c:=fun c hc=>gu (h c hc)
 calc l.map (dw ∘ dw)=l.map id:=List.map_congr_left this
  _=l:=List.map_id l
theorem Ce (a:List Nat):a.take (cI a).length=a:=by rw[bV];exact List.take_of_length_le (Nat.le_refl _)
theorem aD.same {b:Addr} {H H2 H3:Hp} (n:H b=Option.none) (s:ar H H2) (t:aD b H2 H3):ar H H3:=fun c o e=>t c o (s c o e) (aC e n)
noncomputable def bz (ws:List (List Nat)):List V:=ws.map fun l=>V.str (S l)
theorem bO (ws:List (List Nat)):(bz ws).length=ws.length:=by unfold bz;rw[List.length_map]
theorem eE (ws:List (List Nat)) (l:List Nat):bz ws++[V.str (S l)]=bz (ws++[l]):=by unfold bz;rw[List.map_append];rfl
theorem Cf {ws:List (List Nat)} {i:Nat} (h:i<ws.length):(bz ws)[i]? =some (V.str (S ws[i])):=by unfold bz;rw[List.getElem?_map,List.getElem?_eq_getElem h];rfl
noncomputable def bS (st:List Nat) (c:Nat):List Nat:=if st.getLast? =some (dw c) then st.dropLast else st++[c]
noncomputable def red (l:List Nat):List Nat:=l.foldl bS []
noncomputable def m9:List Nat->Prop
 | []=>True
 | [_]=>True
 | a::b::r=>a≠dw b/\m9 (b::r)
theorem m9.snoc: ∀{l:List Nat} {c:Nat},m9 l->l.getLast?≠ some (dw c)->m9 (l++[c])
 | [],_,_,_=>trivial
 | [a],c,_,h=>⟨fun z=>h (by rw[z];rfl),trivial⟩
 | a::b::r,c,h,k=>⟨h.1,m9.snoc (l:=b::r) h.2 (by simpa using k)⟩
theorem m9.init: ∀{l:List Nat} {c:Nat},m9 (l++[c])->m9 l/\l.getLast?≠ some (dw c)
 | [],_,_=>⟨trivial,by simp⟩
 | [a],c,h=>⟨trivial,fun z=>h.1 (by simpa using z)⟩
 | a::b::r,c,h=>by
  have ih:=m9.init (l:=b::r) (c:=c) h.2
  exact ⟨⟨h.1,ih.1⟩,by simpa using ih.2⟩
theorem snoc_cases (l:List Nat):l=[]\/ ∃m a,l=m++[a]:=by
 by_cases h:l=[]
 ·exact .inl h
 ·exact .inr ⟨l.dropLast,l.getLast h,(List.dropLast_concat_getLast h).symm⟩
theorem m9.left: ∀{m l:List Nat},m9 (m++l)->m9 m
 | [],_,_=>trivial
 | [_],_,_=>trivial
 | a::b::r,l,h=>⟨h.1,m9.left (m:=b::r) (l:=l) h.2⟩
theorem g_ {l:List Nat} {c:Nat} (h:l.getLast? =some c): ∃m,l=m++[c]:=by
 rcases snoc_cases l with rfl | ⟨m,a,rfl⟩
 ·simp at h
 ·refine ⟨m,?_⟩
  have:a=c:=by simpa using h
  rw[this]
theorem Ax {st:List Nat} {c:Nat} (h:m9 st):m9 (bS st c):=by
 unfold bS
 by_cases e:st.getLast? =some (dw c)
 ·rw[if_pos e]
  obtain ⟨m,rfl⟩:=g_ e
  rw[List.dropLast_concat]
  exact h.init.1
 ·rw[if_neg e]
  exact h.snoc e
theorem Ay {st:List Nat} {c d:Nat} (h:d∈bS st c):d∈st\/d=c:=by
 unfold bS at h
 by_cases e:st.getLast? =some (dw c)
 ·rw[if_pos e]at h
  exact .inl (List.dropLast_subset _ h)
 ·rw[if_neg e]at h
  rcases List.mem_append.mp h with z | z
  ·exact .inl z
  ·exact .inr (List.mem_singleton.mp z)
theorem xm {st:List Nat} {x y:Nat} (h:m9 st) (hy:Lt y) (e:x=dw y):bS (bS st x) y=st:=by
 subst e
 unfold bS
 by_cases z:st.getLast? =some (dw (dw y))
 ·rw[if_pos z]
  obtain ⟨m,rfl⟩:=g_ z
  rw[List.dropLast_concat,gu hy]
  have:=h.init.2
  rw[gu hy]at this
  rw[if_neg this]
 ·rw[if_neg z,if_pos (by simp),List.dropLast_concat]
theorem oB: ∀(l st:List Nat),m9 st->m9 (l.foldl bS st)
 | [],_,h=>h
 | _::l,_,h=>oB l _ (Ax h)
theorem E8 (l:List Nat):m9 (red l):=oB l [] trivial
theorem oE {a b:List Nat} {x y:Nat} (hy:Lt y) (e:x=dw y):red (a++x::y::b)=red (a++b):=by
 unfold red
 rw[List.foldl_append,List.foldl_cons,List.foldl_cons,xm (oB a [] trivial) hy e, <-List.foldl_append]
theorem fold_same: ∀(l st:List Nat),m9 (st++l)->l.foldl bS st=st++l
 | [],st,_=>by simp
 | c::l,st,h=>by
  have h':m9 ((st++[c])++l):=by rw[List.append_assoc];exact h
  have h2:=(m9.left h').init.2
  rw[List.foldl_cons]
  have:bS st c=st++[c]:=by unfold bS;rw[if_neg h2]
  rw[this,fold_same l (st++[c]) h',List.append_assoc]
  rfl
theorem Cg {l:List Nat} (h:m9 l):red l=l:=by
 exact fold_same l [] h
theorem fold_lt: ∀(l st:List Nat),(∀c∈l,Lt c)->(∀c∈st,Lt c)-> ∀c∈l.foldl bS st,Lt c
 | [],_,_,h=>h
 | a::l,st,h1,h2=>fold_lt l _ (fun c hc=>h1 c (List.mem_cons_of_mem _ hc)) fun c hc=>(Ay hc).elim (h2 c) fun z=>z▸h1 a List.mem_cons_self
theorem Ci {l:List Nat} (h: ∀c∈l,Lt c): ∀c∈red l,Lt c:=fold_lt l [] h fun _ h=>absurd h List.not_mem_nil
theorem Az (st:List Nat) (c:Nat):(bS st c).length<=st.length+1:=by
 unfold bS
 by_cases e:st.getLast? =some (dw c)
 ·rw[if_pos e,List.length_dropLast];omega
 ·rw[if_neg e,List.length_append];exact Nat.le_refl _
theorem vf: ∀(l st:List Nat),(l.foldl bS st).length<=st.length+l.length
 | [],_=>Nat.le_refl _
 | c::l,st=>by
  have:=vf l (bS st c)
  have h2:=Az st c
  rw[List.foldl_cons,List.length_cons]
  omega
theorem sR (l:List Nat):(red l).length<=l.length:=by
 have:=vf l []
 rw[List.length_nil,Nat.zero_add]at this
 exact this
theorem Cj {l:List Nat} {i c:Nat} (h:l[i]? =some c):red (l.take (i+1))=bS (red (l.take i)) c:=by
 unfold red
 rw[<-take_snoc h,List.foldl_append]
 rfl
noncomputable def strip:Nat->List Nat->List Nat
 | 0,l=>l
 | n+1,l=>match l with
  | []=>[]
  | [a]=>[a]
  | a::b::r=>if a=dw ((b::r).getLast (by simp)) then strip n (b::r).dropLast else a::b::r
noncomputable def core (l:List Nat):List Nat:=strip l.length l
theorem sS {α:Type} (l:List α) (k:Nat):cut l none (some (k:Int))=l.take k:=by
 unfold cut
 rw[HT.uq,HT.j9,List.drop_zero,Nat.sub_zero]
 by_cases h:k<=l.length
 ·rw[Nat.min_eq_left h]
 ·rw[Nat.min_eq_right (by omega),List.take_of_length_le (Nat.le_refl _),List.take_of_length_le (by omega)]
theorem i_ {α:Type} (l:List α) (k:Nat):cut l (some (k:Int)) none=l.drop k:=by
 unfold cut
 rw[HT.uq,HT.j9]
 by_cases h:k<=l.length
 ·rw[Nat.min_eq_left h,List.take_of_length_le (by rw[List.length_drop];exact Nat.le_refl _)]
 ·rw[Nat.min_eq_right (by omega),List.drop_of_length_le (Nat.le_refl _),List.drop_of_length_le (by omega)]
  simp
noncomputable def pM (ws:List (List Nat)):List PyData:=ws.map fun l=>PyData.str (S l)
theorem hJ {K:PySem.W.Frag} {H:Hp}: ∀ws:List (List Nat),i4 K H (bz ws) (pM ws)
 | []=> .nil
 | w::ws=> .cons (.str _) (hJ ws)
theorem fo {l:List Nat} (h: ∀c∈l,c<128):PyData.strOk (S l)=true:=by
 unfold PyData.strOk
 rw[Array.all_eq_true_iff_forall_mem]
 intro c hc
 have:c∈l:=by simpa [S]using hc
 have:=h c this
 simp;omega
theorem ju: ∀{ws:List (List Nat)},(∀l∈ws, ∀c∈l,c<128)->PyData.canLayAll0 (pM ws)=true
 | [],_=>rfl
 | w::ws,h=>by
  show (PyData.strOk (S w)&&PyData.canLayAll0 (pM ws))=true
  rw[fo (h w List.mem_cons_self),ju fun l hl=>h l (List.mem_cons_of_mem _ hl)]
  rfl
theorem jv: ∀ws:List (List Nat),PyData.depthAll (pM ws)=0
 | []=>rfl
 | k::ks=>by show max (PyData.depth (.str _)) (PyData.depthAll (pM ks))=0;rw[jv ks];rfl
mutual
theorem eqv_refl: ∀d:PyData,d.hasDict=false->PyData.eqv d d=true
 | .none,_=>rfl
 | .bool b,_=>by simp[PyData.eqv]
 | .int i,_=>by simp[PyData.eqv]
 | .str x,_=>by simp[PyData.eqv]
 | .list xs,h=>by show PyData.eqvAll xs xs=true;exact eqvAll_refl xs (by simpa [PyData.hasDict]using h)
 | .tuple xs,h=>by show PyData.eqvAll xs xs=true;exact eqvAll_refl xs (by simpa [PyData.hasDict]using h)
 | .dict kvs,h=>by simp[PyData.hasDict]at h
theorem eqvAll_refl: ∀ds:List PyData,PyData.hasDictAll ds=false->PyData.eqvAll ds ds=true
 | [],_=>rfl
 | d::ds,h=>by
  simp[PyData.hasDictAll]at h
  show (PyData.eqv d d&&PyData.eqvAll ds ds)=true
  rw[eqv_refl d h.1,eqvAll_refl ds h.2]
  rfl
end
noncomputable def Y9 (c:List Nat) (k:Nat):List Nat:=c.drop k++c.take k
noncomputable def QF (c:List Nat) (n:Nat):List (List Nat):=(List.range n).map fun k=>Y9 c (k+1)
noncomputable def MQ (c:List Nat):List Nat:=yk c (QF c (c.length - 1))
@[irreducible] noncomputable def Wi (w:List Nat):List Nat:=MQ (core (red w))
noncomputable def AllLt (l:List Nat):Prop:= ∀c∈l,Lt c
theorem AllLt.app {a b:List Nat} (h:AllLt a) (g:AllLt b):AllLt (a++b):=fun c hc=>(List.mem_append.mp hc).elim (h c) (g c)
theorem oF: ∀(t st x y:List Nat),AllLt t->red (x++(st++t)++y)=red (x++t.foldl bS st++y)
 | [],st,x,y,_=>by rw[List.append_nil];rfl
 | c::t,st,x,y,h=>by
  have hc:Lt c:=h c List.mem_cons_self
  have ht:AllLt t:=fun d hd=>h d (List.mem_cons_of_mem _ hd)
  rw[List.foldl_cons, <-oF t (bS st c) x y ht]
  unfold bS
  by_cases e:st.getLast? =some (dw c)
  ·rw[if_pos e]
   obtain ⟨m,rfl⟩:=g_ e
   rw[List.dropLast_concat]
   have:=oE (a:=x++m) (b:=t++y) hc rfl
   simpa [List.append_assoc]using this
  ·rw[if_neg e]
   simp[List.append_assoc]
theorem sU {t:List Nat} (x y:List Nat) (h:AllLt t):red (x++t++y)=red (x++red t++y):=by
 have:red (x++([]++t)++y)=red (x++red t++y):=oF t [] x y h
 simpa using this
theorem vg {t:List Nat} (y:List Nat) (h:AllLt t):red (t++y)=red (red t++y):=by simpa using sU [] y h
theorem lO {t:List Nat} (x:List Nat) (h:AllLt t):red (x++t)=red (x++red t):=by simpa using sU x [] h
theorem vh (c:Nat) (l:List Nat):cR (c::l)=cR l++[dw c]:=by unfold cR;rw[List.map_cons,List.reverse_cons]
theorem jU: ∀(t st x y:List Nat),AllLt t->red (x++cR (st++t)++y)=red (x++cR (t.foldl bS st)++y)
 | [],st,x,y,_=>by rw[List.append_nil];rfl
 | c::t,st,x,y,h=>by
  have hc:Lt c:=h c List.mem_cons_self
  have ht:AllLt t:=fun d hd=>h d (List.mem_cons_of_mem _ hd)
  rw[List.foldl_cons, <-jU t (bS st c) x y ht]
  unfold bS
  by_cases e:st.getLast? =some (dw c)
  ·rw[if_pos e]
   obtain ⟨m,rfl⟩:=g_ e
   rw[List.dropLast_concat]
   have:=oE (a:=x++cR t) (b:=cR m++y) hc.dw.dw (x:=dw c) (by rw[gu hc])
   simpa [sN,vh,List.append_assoc,cR]using this
  ·rw[if_neg e]
   simp[sN,List.append_assoc]
theorem E9 {t:List Nat} (h:AllLt t):red (cR t)=red (cR (red t)):=by
 have:red ([]++cR ([]++t)++[])=red ([]++cR (red t)++[]):=jU t [] [] [] h
 simpa using this
theorem oG: ∀(v x y:List Nat),AllLt v->red (x++(cR v++v)++y)=red (x++y)
 | [],x,y,_=>by simp[cR]
 | c::v,x,y,h=>by
  have hc:Lt c:=h c List.mem_cons_self
  have hv:AllLt v:=fun d hd=>h d (List.mem_cons_of_mem _ hd)
  rw[vh]
  have:=oE (a:=x++cR v) (b:=v++y) hc (x:=dw c) rfl
  have e:x++(cR v++[dw c]++c::v)++y=(x++cR v)++dw c::c::(v++y):=by simp[List.append_assoc]
  rw[e,this]
  have:=oG v x y hv
  rw[<-this]
  simp[List.append_assoc]
noncomputable def iC:List Nat:=[97,98,99,100,101,102,103,104,105,106,107,108,109,110,111,112,113,114,115,116,117,118,119,120,121,122,65,66,67,68,69,70,71,72,73,74,75,76,77,78,79,80,81,82,83,84,85,86,87,88,89,90]
theorem Lt.iC {c:Nat} (h:Lt c):c∈iC:=h.mem
noncomputable def kept (sm:List Nat) (c:Nat):Bool:=decide (PyProof.Rows.lo1 c∈sm)
noncomputable def Wj (i j k:Nat):Prop:=(i<j/\j<k)\/(j<k/\k<i)\/(k<i/\i<j)
noncomputable instance (i j k:Nat):Decidable (Wj i j k):=by unfold Wj;infer_instance
noncomputable def kB (_:PySem.W.Frag):Sp:=fun vs H Q _=> ∃c,vs=[.str (S [c])]/\Q (.bl (decide (c∈iC))) H
theorem p_ {K:PySem.W.Frag} {vs:List V} {H:Hp} {Q:VK} {E:XK} (h:kB K vs H Q E):vs.length=1:=by obtain ⟨c,rfl,_⟩:=h;rfl
noncomputable def ones (l:List Nat):List (List Nat):=l.map fun c=>[c]
inductive Tm where
 | walk (w:List Nat) | name (s:List Nat) | back (t:Tm) | again (k:Nat) (t:Tm) | aS (a b:Tm) | fr (c:Nat) (a b:Tm)
noncomputable def dA:List Nat:=[119,97,108,107]
noncomputable def dN:List Nat:=[110,97,109,101]
noncomputable def bT:List Nat:=[98,97,99,107]
noncomputable def bH:List Nat:=[97,103,97,105,110]
noncomputable def bU:List Nat:=[116,104,101,110]
noncomputable def kFor:List Nat:=[102,111,114]
noncomputable def bA (H:Hp):Addr->Tm->Prop
 | a, .walk w=>H a=some (.tup [.str (S dA), .str (S w)])
 | a, .name s=>H a=some (.tup [.str (S dN), .str (S s)])
 | a, .back t=> ∃b,H a=some (.tup [.str (S bT), .ref b])/\bA H b t
 | a, .again k t=> ∃b,H a=some (.tup [.str (S bH), .int k, .ref b])/\bA H b t
 | a, .aS x y=> ∃b c,H a=some (.tup [.str (S bU), .ref b, .ref c])/\bA H b x/\bA H c y
 | a, .fr l x y=> ∃b c,H a=some (.tup [.str (S kFor), .str (S [l]), .ref b, .ref c])/\bA H b x/\bA H c y
theorem bA.ts {H H':Hp} (s:bq H H'): ∀{t:Tm} {a:Addr},bA H a t->bA H' a t
 | .walk w,a,h=>s _ _ h
 | .name w,a,h=>s _ _ h
 | .back t,a,⟨b,h,g⟩=>⟨b,s _ _ h,bA.ts s g⟩
 | .again k t,a,⟨b,h,g⟩=>⟨b,s _ _ h,bA.ts s g⟩
 | .aS x y,a,⟨b,c,h,g1,g2⟩=>⟨b,c,s _ _ h,bA.ts s g1,bA.ts s g2⟩
 | .fr l x y,a,⟨b,c,h,g1,g2⟩=>⟨b,c,s _ _ h,bA.ts s g1,bA.ts s g2⟩
theorem bq.of {H H':Hp} (s:ar H H'):bq H H':=fun c xs e=>s _ _ e
theorem bA.same {H H':Hp} (s:ar H H') {t:Tm} {a:Addr} (h:bA H a t):bA H' a t:=h.ts (bq.of s)
noncomputable def dep:Tm->Nat
 | .walk _=>1
 | .name _=>1
 | .back t=>dep t+1
 | .again _ t=>dep t+1
 | .aS x y=>max (dep x) (dep y)+1
 | .fr _ x y=>max (dep x) (dep y)+1
theorem m_: ∀t:Tm,1<=dep t
 | .walk _=>Nat.le_refl _
 | .name _=>Nat.le_refl _
 | .back t=>by show 1<=dep t+1;omega
 | .again _ t=>by show 1<=dep t+1;omega
 | .aS x y=>by show 1<=max (dep x) (dep y)+1;omega
 | .fr _ x y=>by show 1<=max (dep x) (dep y)+1;omega
noncomputable def subs:Tm->List Tm
 | .walk _=>[]
 | .name _=>[]
 | .back t=>[t]
 | .again _ t=>[t]
 | .aS x y=>[x,y]
 | .fr _ x y=>[x,y]
noncomputable def gE:Tm->List (List Nat)
 | .walk _=>[]
 | .name s=>[s]
 | .back t=>gE t
 | .again _ t=>gE t
 | .aS x y=>gE x++gE y
 | .fr _ x y=>gE x++gE y
theorem hV {t u:Tm} {n:Nat} (h:dep t<=n+1) (hu:u∈subs t):dep u<=n:=by
 cases t with
 | walk w=>cases hu
 | name w=>cases hu
 | back t=>rw[List.mem_singleton.mp hu];have:dep t+1<=n+1:=h;omega
 | again k t=>rw[List.mem_singleton.mp hu];have:dep t+1<=n+1:=h;omega
 | aS x y=>
  have:max (dep x) (dep y)+1<=n+1:=h
  rcases List.mem_cons.mp hu with g | g
  ·rw[g];omega
  ·rw[List.mem_singleton.mp g];omega
 | fr l x y=>
  have:max (dep x) (dep y)+1<=n+1:=h
  rcases List.mem_cons.mp hu with g | g
  ·rw[g];omega
  ·rw[List.mem_singleton.mp g];omega
theorem gv: ∀(t:Tm) (n:Nat),dep t<=n->(gE t).length<=2 ^ n
 | .walk _,n,_=>Nat.zero_le _
 | .name _,n,_=>Nat.one_le_two_pow
 | .back t,n,h=>by
  have h':dep t+1<=n:=h
  exact gv t n (by omega)
 | .again k t,n,h=>by
  have h':dep t+1<=n:=h
  exact gv t n (by omega)
 | .aS x y,n,h=>by
  have h':max (dep x) (dep y)+1<=n:=h
  obtain ⟨m,rfl⟩: ∃m,n=m+1:=⟨n - 1,by omega⟩
  have a:=gv x m (by omega)
  have b:=gv y m (by omega)
  show (gE x++gE y).length<=2 ^ (m+1)
  rw[List.length_append,Nat.pow_succ]
  omega
 | .fr l x y,n,h=>by
  have h':max (dep x) (dep y)+1<=n:=h
  obtain ⟨m,rfl⟩: ∃m,n=m+1:=⟨n - 1,by omega⟩
  have a:=gv x m (by omega)
  have b:=gv y m (by omega)
  show (gE x++gE y).length<=2 ^ (m+1)
  rw[List.length_append,Nat.pow_succ]
  omega
noncomputable def dB (H:Hp):List Addr->List Tm->Prop
 | [],[]=>True
 | a::as,t::ts=>bA H a t/\dB H as ts
 | _,_=>False
theorem dB.ts {H H':Hp} (s:bq H H'): ∀{as:List Addr} {ts:List Tm},dB H as ts->dB H' as ts
 | [],[],_=>trivial
 | a::as,t::ts,h=>⟨h.1.ts s,dB.ts s h.2⟩
theorem dB.len {H:Hp}: ∀{as:List Addr} {ts:List Tm},dB H as ts->as.length=ts.length
 | [],[],_=>rfl
 | _::_,_::_,h=>congrArg (· +1) (dB.len h.2)
theorem dB.get {H:Hp}: ∀{as:List Addr} {ts:List Tm} {i:Nat} {a:Addr},dB H as ts->as[i]? =some a-> ∃t,ts[i]? =some t/\bA H a t
 | [],[],i,a,_,h=>by simp at h
 | b::as,t::ts,0,a,g,h=>by
  have e:b=a:=by simpa using h
  subst e
  exact ⟨t,rfl,g.1⟩
 | b::as,t::ts,i+1,a,g,h=>by
  obtain ⟨u,e1,e2⟩:=dB.get (i:=i) g.2 (by simpa using h)
  exact ⟨u,by simpa using e1,e2⟩
noncomputable def j5 (as:List Addr):List V:=as.map V.ref
theorem eg (as:List Addr):(j5 as).length=as.length:=by unfold j5;rw[List.length_map]
theorem sV {as:List Addr} {i:Nat} {x:V} (h:(j5 as)[i]? =some x): ∃a,as[i]? =some a/\x=V.ref a:=by
 unfold j5 at h
 rw[List.getElem?_map]at h
 cases e:as[i]? with
 | none=>rw[e]at h;cases h
 | some a=>rw[e]at h;cases h;exact ⟨a,rfl,rfl⟩
noncomputable def ja (ts:List Tm):List (List Nat):=ts.flatMap gE
theorem mn {ts:List Tm} {i:Nat} {t:Tm} (h:ts[i]? =some t):ja (ts.take (i+1))=ja (ts.take i)++gE t:=by
 rw[<-take_snoc h];unfold ja;rw[List.flatMap_append];simp
theorem vi {t:Tm} (h: ∀s,t≠ .name s):gE t=ja (subs t):=by
 cases t with
 | walk w=>rfl
 | name s=>exact absurd rfl (h s)
 | back t=>show gE t=[t].flatMap gE;simp
 | again k t=>show gE t=[t].flatMap gE;simp
 | aS x y=>show gE x++gE y=[x,y].flatMap gE;simp
 | fr l x y=>show gE x++gE y=[x,y].flatMap gE;simp
noncomputable def mq (_:PySem.W.Frag):Sp:=fun vs H Q _=> ∃(a:Addr) (t:Tm),vs=[.ref a]/\bA H a t/\ ∀(q:Addr) (as:List Addr) H',H q=none->H' q=some (.lst (j5 as))->dB H' as (subs t)->ar H H'->Q (.ref q) H'
theorem sW {K:PySem.W.Frag} {vs:List V} {H:Hp} {Q:VK} {E:XK} (h:mq K vs H Q E):vs.length=1:=by obtain ⟨a,t,rfl,_⟩:=h;rfl
noncomputable def OE:Tm->List Nat
 | .walk _=>dA
 | .name _=>dN
 | .back _=>bT
 | .again _ _=>bH
 | .aS _ _=>bU
 | .fr _ _ _=>kFor
theorem bA.head {H:Hp} {a:Addr} {t:Tm} (h:bA H a t): ∃xs,H a=some (.tup (.str (S (OE t))::xs)):=by
 cases t with
 | walk w=>exact ⟨_,h⟩
 | name w=>exact ⟨_,h⟩
 | back t=>obtain ⟨b,h,_⟩:=h;exact ⟨_,h⟩
 | again k t=>obtain ⟨b,h,_⟩:=h;exact ⟨_,h⟩
 | aS x y=>obtain ⟨b,c,h,_⟩:=h;exact ⟨_,h⟩
 | fr l x y=>obtain ⟨b,c,h,_⟩:=h;exact ⟨_,h⟩
inductive Itm (H:Hp):List V->List Tm->Prop
 | nil:Itm H [] []
 | str {z:Str} {xs:List V} {ts:List Tm}:Itm H xs ts->Itm H (.str z::xs) ts
 | int {i:Int} {xs:List V} {ts:List Tm}:Itm H xs ts->Itm H (.int i::xs) ts
 | tm {b:Addr} {t:Tm} {xs:List V} {ts:List Tm}:bA H b t->Itm H xs ts->Itm H (.ref b::xs) (t::ts)
theorem kC {ls:List (List Nat)} {i:Nat} {x:V} (h:(bz ls)[i]? =some x): ∃l,ls[i]? =some l/\x=V.str (S l):=by
 unfold bz at h
 rw[List.getElem?_map]at h
 cases e:ls[i]? with
 | none=>rw[e]at h;cases h
 | some l=>rw[e]at h;cases h;exact ⟨l,rfl,rfl⟩
noncomputable def eG (_:PySem.W.Frag) (n:Nat):Sp:=fun vs H Q _=> ∃(a:Addr) (t:Tm),vs=[.ref a]/\bA H a t/\dep t<=n/\n<=10/\ ∀(q:Addr) H',H q=none->H' q=some (.lst (bz (gE t)))->ar H H'->Q (.ref q) H'
theorem sX {K:PySem.W.Frag} {n:Nat} {vs:List V} {H:Hp} {Q:VK} {E:XK} (h:eG K n vs H Q E):vs.length=1:=by obtain ⟨a,t,rfl,_⟩:=h;rfl
theorem sY {K:PySem.W.Frag} {vs:List V} {H:Hp} {Q:VK} {E:XK} (h:eG K 0 vs H Q E):False:=by obtain ⟨a,t,_,_,h,_⟩:=h;have:=m_ t;omega
structure Rw where
 r:Addr
 a:Addr
 nm:List Nat
 t:Tm
structure AA (H:Hp) (k:Rw):Prop where
 tp:H k.r=some (.tup [.str (S k.nm), .ref k.a])
 tm:bA H k.a k.t
 dp:dep k.t<=7
 nl: ∀c∈k.nm,c<128
 al: ∀s∈gE k.t, ∀c∈s,c<128
theorem AA.ts {H H':Hp} {k:Rw} (h:AA H k) (s:bq H H'):AA H' k:=⟨s _ _ h.tp,h.tm.ts s,h.dp,h.nl,h.al⟩
noncomputable def jN (ks:List Rw):List V:=ks.map fun k=>V.ref k.r
theorem dD (ks:List Rw):(jN ks).length=ks.length:=by unfold jN;rw[List.length_map]
theorem vj (ks:List Rw) (k:Rw):jN ks++[V.ref k.r]=jN (ks++[k]):=by unfold jN;rw[List.map_append];rfl
theorem ng {ks:List Rw} {i:Nat} {x:V} (h:(jN ks)[i]? =some x): ∃k,ks[i]? =some k/\x= .ref k.r:=by
 unfold jN at h
 rw[List.getElem?_map]at h
 cases e:ks[i]? with
 | none=>rw[e]at h;cases h
 | some k=>rw[e]at h;cases h;exact ⟨k,rfl,rfl⟩
structure oH (H:Hp) (p:Addr) (ks:List Rw):Prop where
 tp:H p=some (.tup (jN ks))
 rw: ∀k∈ks,AA H k
 fw:ks.length<=8
theorem oH.ts {H H':Hp} {p:Addr} {ks:List Rw} (h:oH H p ks) (s:bq H H'):oH H' p ks:=⟨s _ _ h.tp,fun k hk=>(h.rw k hk).ts s,h.fw⟩
noncomputable def jb (known:List (List Nat)) (nm:List Nat) (asked:List (List Nat)):Option (Bool×List Nat):=if nm∈known then some (true,nm) else (asked.find? fun s=>decide (s∉known)).map fun s=>(false,s)
noncomputable def mr:List (List Nat)->List (List Nat×List (List Nat))->Option (Bool×List Nat)
 | _,[]=>none
 | known,(nm,asked)::r=>match jb known nm asked with
  | some x=>some x
  | none=>mr (known++[nm]) r
noncomputable def Jw (ks:List Rw):List (List Nat×List (List Nat)):=ks.map fun k=>(k.nm,gE k.t)
noncomputable def cA (ks:List Rw):List (List Nat):=ks.map Rw.nm
theorem oI (ks:List Rw): ∀(i:Nat) (k:Rw) (known:List (List Nat)),ks[i]? =some k->mr known (Jw (ks.drop i))=match jb known k.nm (gE k.t) with | some x=>some x | none=>mr (known++[k.nm]) (Jw (ks.drop (i+1))):=fun i k known h=>by
 have hi:=(List.getElem?_eq_some_iff.mp h)
 rw[List.drop_eq_getElem_cons hi.1,hi.2]
 rfl
structure E_ (s:List Nat):Prop where
 ne:s≠[]
 lt: ∀c∈s,c∈aj
 sz:s.length<=12
theorem E_.kD {s:List Nat} (h:E_ s): ∀c∈s,c<128:=fun c hc=>(show Lt c from .inl (h.lt c hc)).lt
noncomputable def oJ (_:PySem.W.Frag):Sp:=fun vs H Q _=> ∃(b:Addr) (l:List Nat),vs=[.ref b, .str (S l)]/\bw H b/\l≠[]/\l.length<=6/\(∀c∈l,Lt c)/\ ∀(w:List Nat) H',w.length<=12->(∀c∈w,Lt c)->bw H' b->aD b H H'->Q (.str (S w)) H'
theorem AB {K:PySem.W.Frag} {vs:List V} {H:Hp} {Q:VK} {E:XK} (h:oJ K vs H Q E):vs.length=2:=by obtain ⟨a,_,rfl,_⟩:=h;rfl
theorem dE (a:List Nat): ∀ls:List (List Nat),Kf (.str (S a)) (bz ls)=decide (a∈ls)
 | []=>by simp[Kf,bz]
 | l::ls=>by
  have ih:=dE a ls
  have e:Kf (.str (S a)) (bz (l::ls))=(C9 (.str (S l)) (.str (S a))||Kf (.str (S a)) (bz ls)):=rfl
  rw[e,ih]
  have e2:C9 (.str (S l)) (.str (S a))=decide (a=l):=by
   show (S l==S a)=_
   by_cases z:a=l
   ·subst z;simp
   ·rw[decide_eq_false z]
    exact beq_eq_false_iff_ne.mpr fun q=>z (by rw[<-dP l,q,dP])
  rw[e2]
  by_cases z:a=l
  ·subst z;simp
  ·simp[z]
theorem ft (ls:List (List Nat)):(bz ls).all kc=true:=by unfold bz;rw[List.all_map,List.all_eq_true];intro x _;rfl
noncomputable def kS (l:List Nat):Key:=Sum.inr (S l)
theorem lP {a b:List Nat} (h:kS a=kS b):a=b:=by rw[<-dP a,Sum.inr.inj h,dP]
noncomputable def GI (ls:List (List Nat)):List (Key×V):=ls.map fun l=>(kS l,V.bl true)
theorem jw (a:List Nat): ∀ls:List (List Nat),(cQ (GI ls) (kS a)).isSome=decide (a∈ls)
 | []=>by simp[GI,cQ]
 | l::ls=>by
  have ih:=jw a ls
  show (cQ ((kS l,V.bl true)::GI ls) (kS a)).isSome=_
  by_cases z:l=a
  ·rw[bF (by rw[z])];simp[z]
  ·rw[bf (fun q=>z (lP q)),ih]
   simp[Ne.symm z]
theorem mv {known asked:List (List Nat)} {nm:List Nat} (h1:nm∉known) (h2: ∀s∈asked,s∈known):jb known nm asked=none:=by
 unfold jb
 rw[if_neg h1,List.find?_eq_none.mpr fun s hs=>by simp[h2 s hs]]
 rfl
theorem xn {known asked:List (List Nat)} {nm:List Nat} (h1:nm∈known):jb known nm asked=some (true,nm):=by unfold jb;rw[if_pos h1]
theorem AD {known asked:List (List Nat)} {nm s:List Nat} {j:Nat} (h1:nm∉known) (hj:asked[j]? =some s) (h2: ∀u∈asked.take j,u∈known) (h3:s∉known):jb known nm asked=some (false,s):=by
 unfold jb
 rw[if_neg h1]
 have hi:=List.getElem?_eq_some_iff.mp hj
 have e:asked=asked.take j++s::asked.drop (j+1):=by
  conv=>lhs;rw[<-List.take_append_drop j asked,List.drop_eq_getElem_cons hi.1,hi.2]
 rw[e,List.find?_append,List.find?_eq_none.mpr fun u hu=>by simp[h2 u hu]]
 simp[h3]
theorem Jx: ∀c∈aj,Lt (up1 c):=by decide+kernel
noncomputable def kE:List Nat:=aj++Cc
theorem Fb: ∀c∈kE,Lt c:=by decide+kernel
theorem aD.Ck {b:Addr} {H H':Hp} (h:aD b H H') (hb:bw H b):bq H H':=fun c xs e=>h c _ e fun z=>by
 obtain ⟨x,y,g⟩:=hb
 rw[<-z,e]at g
 cases g
theorem share {c A B G:Prop} (hA:c->A) (hB: ¬c->B) (hG:(c->A)->(¬c->B)->G):G:=hG hA hB
theorem Fc (ls:List (List Nat)):PyData.eqv (.list (pM ls)) (.list [])=decide (ls=[]):=by
 cases ls with
 | nil=>rfl
 | cons l ls=>rfl
theorem Y_ {a b c:Nat} (g1: ¬decide ((a:Int)<2)=true) (g2: ¬decide ((b:Int)<1)=true) (g3: ¬decide ((c:Int)<2)=true): ¬(a<2\/b<1\/c<2):=by
 have h1: ¬((a:Int)<2):=fun z=>g1 (decide_eq_true z)
 have h2: ¬((b:Int)<1):=fun z=>g2 (decide_eq_true z)
 have h3: ¬((c:Int)<2):=fun z=>g3 (decide_eq_true z)
 omega
theorem s_ (ns:List (List Nat)) (i:Nat):ka (bz ns) none (some (i:Int))=bz (ns.take i):=by
 have e:ka (bz ns) none (some (i:Int))=cut (bz ns) none (some (i:Int)):=rfl
 rw[e,sS];unfold bz;rw[List.map_take]
structure Pg where
 p:Addr
 ks:List Rw
theorem jV: ∀ws:List (List Nat),PyData.hasDictAll (pM ws)=false
 | []=>rfl
 | w::ws=>by show (PyData.hasDict (.str _)||PyData.hasDictAll (pM ws))=false;rw[jV ws];rfl
noncomputable def lQ (c:Nat):Nat:=aj.getD ((aj.idxOf c+1)%26) 0
noncomputable def tq:Nat->Nat->Nat
 | 0,c=>c
 | m+1,c=>tq m (lQ c)
theorem cJ: ∀c∈aj,lQ c∈aj/\aj[(aj.idxOf c+1)%26]? =some (lQ c):=by decide+kernel
theorem Fe: ∀c∈aj, ∀d∈aj, ∃m,m<26/\tq m c=d:=by decide+kernel
noncomputable def bX:List (List Nat):=[bU,bT,bH,kFor]
theorem tw {ns:List (List Nat)} (h:ns.length<=12) (w:List Nat) {c:Nat} (hc:c∈aj): ∃m,tq m c::w∉ns++bX:=by
 by_cases z: ∃d,d∈aj/\d::w∉ns++bX
 ·obtain ⟨d,hd,hn⟩:=z
  obtain ⟨m,_,e⟩:=Fe c hc d hd
  exact ⟨m,by rw[e];exact hn⟩
 ·exfalso
  have iY: ∀x∈aj.map (fun d=>d::w),x∈ns++bX:=fun x hx=>by
   obtain ⟨d,hd,rfl⟩:=List.mem_map.mp hx
   by_cases y:d::w∈ns++bX
   ·exact y
   ·exact absurd ⟨d,hd,y⟩ z
  have nd:(aj.map (fun d=>d::w)).Nodup:=by
   rw[List.nodup_iff_pairwise_ne,List.pairwise_map]
   have:aj.Nodup:=by decide
   exact (List.nodup_iff_pairwise_ne.mp this).imp fun z9 e=>z9 (List.cons.inj e).1
  have:=nd.length_le_of_subset iY
  rw[List.length_map,List.length_append]at this
  have e1:aj.length=26:=rfl
  have e2:bX.length=4:=rfl
  omega
noncomputable def kF (_:PySem.W.Frag):Sp:=fun vs H Q _=> ∃l:List Nat,vs=[.str (S l)]/\(∀c∈l,Lt c)/\l.length<=10000/\ ∀H',ar H H'->Q (.str (S (red l))) H'
theorem qa {K:PySem.W.Frag} {vs:List V} {H:Hp} {Q:VK} {E:XK} (h:kF K vs H Q E):vs.length=1:=by obtain ⟨a,rfl,_⟩:=h;rfl
noncomputable def mQ (l:List Nat):Option (List Nat):=if 60<l.length then none else some l
noncomputable def fu (c:Nat) (y:List Nat) (d:Nat):List Nat:=if d=c then y else if d=dw c then cR y else [d]
noncomputable def bM (c:Nat) (y x:List Nat):List Nat:=(x.map (fu c y)).flatten
noncomputable def kn (kvs:List (List Nat×List Nat)) (s:List Nat):List Nat:=(kvs.lookup s).getD []
noncomputable def jc (kvs:List (List Nat×List Nat)):Tm->List (List Nat)->List Nat
 | .walk w,_=>w
 | .name s,_=>kn kvs s
 | .back _,[x]=>cR x
 | .again k _,[x]=>ck k x
 | .aS _ _,[x,y]=>x++y
 | .fr c _ _,[x,y]=>bM c y x
 | _,_=>[]
noncomputable def val (kvs:List (List Nat×List Nat)):Tm->Option (List Nat)
 | .walk w=>mQ (red w)
 | .name s=>mQ (red (kn kvs s))
 | .back t=>(val kvs t).bind fun x=>mQ (red (cR x))
 | .again k t=>(val kvs t).bind fun x=>mQ (red (ck k x))
 | .aS a b=>(val kvs a).bind fun x=>(val kvs b).bind fun y=>mQ (red (x++y))
 | .fr c a b=>(val kvs a).bind fun x=>(val kvs b).bind fun y=>mQ (red (bM c y x))
noncomputable def vals (kvs:List (List Nat×List Nat)):List Tm->Option (List (List Nat))
 | []=>some []
 | t::ts=>(val kvs t).bind fun x=>(vals kvs ts).map fun xs=>x::xs
theorem val_eq (kvs:List (List Nat×List Nat)) (t:Tm):val kvs t=(vals kvs (subs t)).bind fun ws=>mQ (red (jc kvs t ws)):=by
 cases t with
 | walk w=>rfl
 | name s=>rfl
 | back t=>show (val kvs t).bind _=((val kvs t).bind _).bind _;cases val kvs t<;>rfl
 | again k t=>show (val kvs t).bind _=((val kvs t).bind _).bind _;cases val kvs t<;>rfl
 | aS a b=>
  show (val kvs a).bind _=((val kvs a).bind fun x=>((val kvs b).bind _).map _).bind _
  cases val kvs a with
  | none=>rfl
  | some x=>show (val kvs b).bind _=(((val kvs b).bind _).map _).bind _;cases val kvs b<;>rfl
 | fr c a b=>
  show (val kvs a).bind _=((val kvs a).bind fun x=>((val kvs b).bind _).map _).bind _
  cases val kvs a with
  | none=>rfl
  | some x=>show (val kvs b).bind _=(((val kvs b).bind _).map _).bind _;cases val kvs b<;>rfl
noncomputable def eI:Tm->Prop
 | .walk w=>(∀c∈w,Lt c)/\w.length<=12
 | .name _=>True
 | .back t=>eI t
 | .again k t=>k<=6/\eI t
 | .aS a b=>eI a/\eI b
 | .fr c a b=>c∈aj/\eI a/\eI b
noncomputable def q8 (x:List Nat):Prop:=(∀c∈x,Lt c)/\x.length<=60
structure vk (kvs:List (List Nat×List Nat)) (t:Tm):Prop where
 all: ∀p∈kvs,q8 p.2
 has: ∀s∈gE t,(kvs.lookup s).isSome=true
noncomputable def yV (kvs:List (List Nat×List Nat)):List (Key×V):=kvs.map fun p=>(kS p.1,V.str (S p.2))
theorem yW {t u:Tm} (h:eI t) (hu:u∈subs t):eI u:=by
 cases t with
 | walk w=>cases hu
 | name s=>cases hu
 | back t=>rw[List.mem_singleton.mp hu];exact h
 | again k t=>rw[List.mem_singleton.mp hu];exact h.2
 | aS a b=>
  rcases List.mem_cons.mp hu with g | g
  ·rw[g];exact h.1
  ·rw[List.mem_singleton.mp g];exact h.2
 | fr c a b=>
  rcases List.mem_cons.mp hu with g | g
  ·rw[g];exact h.2.1
  ·rw[List.mem_singleton.mp g];exact h.2.2
theorem Cm {t u:Tm} (hu:u∈subs t) {s:List Nat} (h:s∈gE u):s∈gE t:=by
 cases t with
 | walk w=>cases hu
 | name s=>cases hu
 | back t=>rw[List.mem_singleton.mp hu]at h;exact h
 | again k t=>rw[List.mem_singleton.mp hu]at h;exact h
 | aS a b=>
  rcases List.mem_cons.mp hu with g | g
  ·rw[g]at h;exact List.mem_append.mpr (.inl h)
  ·rw[List.mem_singleton.mp g]at h;exact List.mem_append.mpr (.inr h)
 | fr c a b=>
  rcases List.mem_cons.mp hu with g | g
  ·rw[g]at h;exact List.mem_append.mpr (.inl h)
  ·rw[List.mem_singleton.mp g]at h;exact List.mem_append.mpr (.inr h)
theorem vk.sub {kvs:List (List Nat×List Nat)} {t u:Tm} (h:vk kvs t) (hu:u∈subs t):vk kvs u:=⟨h.all,fun s hs=>h.has s (Cm hu hs)⟩
theorem fz {l x:List Nat} (h:mQ l=some x):x=l/\l.length<=60:=by
 unfold mQ at h
 split at h
 ·cases h
 ·exact ⟨(Option.some.inj h).symm,by omega⟩
theorem lookup_mem {kvs:List (List Nat×List Nat)} {s w:List Nat} (h:kvs.lookup s=some w):(s,w)∈kvs:=by
 induction kvs with
 | nil=>cases h
 | cons p r ih=>
  obtain ⟨a,b⟩:=p
  rw[List.lookup_cons]at h
  cases e:s==a with
  | true=>rw[e]at h;have:s=a:=(by simpa using e);subst this;cases h;exact List.mem_cons_self
  | false=>rw[e]at h;exact List.mem_cons_of_mem _ (ih h)
theorem yX {kvs:List (List Nat×List Nat)} (h: ∀p∈kvs,q8 p.2) (s:List Nat):q8 (kn kvs s):=by
 unfold kn
 cases e:kvs.lookup s with
 | none=>exact ⟨by simp,by simp⟩
 | some w=>exact h _ (lookup_mem e)
theorem AE: ∀c∈aj,Lt (dw c)/\up1 c=dw c/\dw c≠c/\c<128:=by decide+kernel
theorem tD {x:List Nat} (h:q8 x):q8 (cR x):=⟨fun c hc=>by
  unfold cR at hc
  rw[List.mem_reverse]at hc
  obtain ⟨d,hd,rfl⟩:=List.mem_map.mp hc
  exact (h.1 d hd).dw,by unfold cR;rw[List.length_reverse,List.length_map];exact h.2⟩
theorem Ff {c:Nat} {y:List Nat} (hy:q8 y) {d:Nat} (hd:Lt d):q8 (fu c y d):=by
 unfold fu
 split
 ·exact hy
 ·split
  ·exact tD hy
  ·exact ⟨fun e he=>by rw[List.mem_singleton.mp he];exact hd,by simp⟩
theorem kG {c:Nat} {y:List Nat} (hy:q8 y): ∀{x:List Nat},(∀d∈x,Lt d)->(∀d∈bM c y x,Lt d)/\(bM c y x).length<=60*x.length
 | [],_=>⟨by simp[bM],by simp[bM]⟩
 | d::x,h=>by
  have ih:=kG (c:=c) hy (x:=x) fun e he=>h e (List.mem_cons_of_mem _ he)
  have h1:=Ff (c:=c) hy (h d List.mem_cons_self)
  have e:bM c y (d::x)=fu c y d++bM c y x:=rfl
  rw[e]
  refine ⟨fun a ha=>?_,?_⟩
  ·rcases List.mem_append.mp ha with z | z
   ·exact h1.1 a z
   ·exact ih.1 a z
  ·have:=h1.2
   rw[List.length_append,List.length_cons]
   omega
noncomputable def fA (_:PySem.W.Frag) (c:Addr) (n:Nat):Sp:=fun vs H Q E=> ∃(nm:List Nat) (a d:Addr) (t:Tm) (kvs:List (List Nat×List Nat)),vs=[.str (S nm), .ref a, .ref d]/\bA H a t/\eI t/\dep t<=n/\n<=10/\H d=some (.dK (yV kvs))/\vk kvs t/\
 (∀x,val kvs t=some x-> ∀H',ar H H'->Q (.str (S x)) H')/\(val kvs t=none-> ∀e H',H' e=some (wZ e [("name", .str (S nm))])->ar H H'->E (.ref c) (some e) H')
theorem vm {K:PySem.W.Frag} {c:Addr} {n:Nat} {vs:List V} {H:Hp} {Q:VK} {E:XK} (h:fA K c n vs H Q E):vs.length=3:=by obtain ⟨_,_,_,_,_,rfl,_⟩:=h;rfl
theorem vn {K:PySem.W.Frag} {c:Addr} {vs:List V} {H:Hp} {Q:VK} {E:XK} (h:fA K c 0 vs H Q E):False:=by obtain ⟨_,_,_,t,_,_,_,_,h,_⟩:=h;have:=m_ t;omega
noncomputable def oK (_:PySem.W.Frag):Sp:=fun vs H Q _=> ∃(a wp d:Addr) (t:Tm) (ws:List (List Nat)) (kvs:List (List Nat×List Nat)),vs=[.ref a, .ref wp, .ref d]/\bA H a t/\eI t/\H wp=some (.lst (bz ws))/\ws.length=(subs t).length/\(∀x∈ws,q8 x)/\H d=some (.dK (yV kvs))/\vk kvs t/\
 ∀H',ar H H'->Q (.str (S (jc kvs t ws))) H'
theorem vo {K:PySem.W.Frag} {vs:List V} {H:Hp} {Q:VK} {E:XK} (h:oK K vs H Q E):vs.length=3:=by obtain ⟨_,_,_,_,_,_,rfl,_⟩:=h;rfl
noncomputable def oM (_:PySem.W.Frag):Sp:=fun vs H Q _=> ∃(c:Nat) (x y:List Nat),vs=[.str (S [c]), .str (S x), .str (S y)]/\c∈aj/\q8 x/\q8 y/\ ∀H',ar H H'->Q (.str (S (bM c y x))) H'
theorem vq {K:PySem.W.Frag} {vs:List V} {H:Hp} {Q:VK} {E:XK} (h:oM K vs H Q E):vs.length=3:=by obtain ⟨_,_,_,rfl,_⟩:=h;rfl
theorem q9 {kvs:List (List Nat×List Nat)} {t:Tm} {x:List Nat} (hx:val kvs t=some x): ∀{ts:List Tm} {ws:List (List Nat)},vals kvs ts=some ws->vals kvs (ts++[t])=some (ws++[x])
 | [],ws,h=>by
  cases h
  show (val kvs t).bind _=_
  rw[hx];rfl
 | u::ts,ws,h=>by
  have h':((val kvs u).bind fun x=>(vals kvs ts).map fun xs=>x::xs)=some ws:=h
  show ((val kvs u).bind fun x=>(vals kvs (ts++[t])).map fun xs=>x::xs)=_
  cases e:val kvs u with
  | none=>rw[e]at h';cases h'
  | some y=>
   rw[e]at h'
   cases e2:vals kvs ts with
   | none=>rw[e2]at h';cases h'
   | some ys=>
    rw[e2]at h'
    cases h'
    rw[q9 hx e2]
    rfl
theorem q_ {kvs:List (List Nat×List Nat)} {u:Tm} (hx:val kvs u=none): ∀{ts:List Tm},u∈ts->vals kvs ts=none
 | t::ts,h=>by
  show ((val kvs t).bind fun x=>(vals kvs ts).map fun xs=>x::xs)=_
  rcases List.mem_cons.mp h with e | h
  ·rw[<-e,hx];rfl
  ·rw[q_ hx h];cases val kvs t<;>rfl
theorem vt {kvs:List (List Nat×List Nat)}: ∀{ts:List Tm} {ws:List (List Nat)},vals kvs ts=some ws->ws.length=ts.length/\ ∀x∈ws, ∃t∈ts,val kvs t=some x
 | [],ws,h=>by cases h;exact ⟨rfl,by simp⟩
 | u::ts,ws,h=>by
  have h':((val kvs u).bind fun x=>(vals kvs ts).map fun xs=>x::xs)=some ws:=h
  cases e:val kvs u with
  | none=>rw[e]at h';cases h'
  | some y=>
   rw[e]at h'
   cases e2:vals kvs ts with
   | none=>rw[e2]at h';cases h'
   | some ys=>
    rw[e2]at h'
    cases h'
    obtain ⟨i1,i2⟩:=vt e2
    refine ⟨by simp[i1],fun x hx=>?_⟩
    rcases List.mem_cons.mp hx with z | z
    ·exact ⟨u,List.mem_cons_self,by rw[z];exact e⟩
    ·obtain ⟨t,h1,h2⟩:=i2 x z
     exact ⟨t,List.mem_cons_of_mem _ h1,h2⟩
theorem nh {x:List Nat} (hx:q8 x): ∀k:Nat,(∀c∈ck k x,Lt c)/\(ck k x).length=k*x.length
 | 0=>⟨by simp[ck],by simp[ck]⟩
 | k+1=>by
  have ih:=nh hx k
  have e:ck (k+1) x=x++ck k x:=by unfold ck;rw[List.replicate_succ];rfl
  rw[e]
  refine ⟨fun c hc=>?_,by rw[List.length_append,ih.2,Nat.succ_mul];omega⟩
  rcases List.mem_append.mp hc with z | z
  ·exact hx.1 c z
  ·exact ih.1 c z
theorem ni {α:Type}: ∀{l:List α},l.length=2-> ∃x y,l=[x,y]
 | [x,y],_=>⟨x,y,rfl⟩
theorem Fg {kvs:List (List Nat×List Nat)} {t:Tm} {ws:List (List Nat)} (ho:eI t) (hk:vk kvs t) (hl:ws.length=(subs t).length) (hw: ∀x∈ws,q8 x):(∀c∈jc kvs t ws,Lt c)/\(jc kvs t ws).length<=10000:=by
 cases t with
 | walk w=>exact ⟨ho.1,Nat.le_trans ho.2 (by decide)⟩
 | name s=>have:=yX hk.all s;exact ⟨this.1,Nat.le_trans this.2 (by decide)⟩
 | back t=>
  obtain ⟨x,rfl⟩: ∃x,ws=[x]:=List.length_eq_one_iff.mp hl
  have:=tD (hw x List.mem_cons_self)
  exact ⟨this.1,Nat.le_trans this.2 (by decide)⟩
 | again k t=>
  obtain ⟨x,rfl⟩: ∃x,ws=[x]:=List.length_eq_one_iff.mp hl
  have hx:=hw x List.mem_cons_self
  have:=nh hx k
  refine ⟨this.1,?_⟩
  show (ck k x).length<=10000
  rw[this.2]
  have:=Nat.mul_le_mul ho.1 hx.2
  omega
 | aS a b=>
  obtain ⟨x,y,rfl⟩: ∃x y,ws=[x,y]:=ni hl
  have hx:=hw x List.mem_cons_self
  have hy:=hw y (List.mem_cons_of_mem _ List.mem_cons_self)
  refine ⟨fun c hc=>?_,?_⟩
  ·rcases List.mem_append.mp (show c∈x++y from hc) with z | z
   ·exact hx.1 c z
   ·exact hy.1 c z
  ·show (x++y).length<=10000
   have:=hx.2
   have:=hy.2
   rw[List.length_append]
   omega
 | fr c a b=>
  obtain ⟨x,y,rfl⟩: ∃x y,ws=[x,y]:=ni hl
  have hx:=hw x List.mem_cons_self
  have hy:=hw y (List.mem_cons_of_mem _ List.mem_cons_self)
  have:=kG (c:=c) hy hx.1
  refine ⟨this.1,?_⟩
  show (bM c y x).length<=10000
  have h1:=this.2
  have h2:=hx.2
  omega
theorem eM {l x:List Nat} (hl: ∀c∈l,Lt c) (h:mQ (red l)=some x):q8 x:=by
 obtain ⟨rfl,hz⟩:=fz h
 exact ⟨Ci hl,hz⟩
theorem jd {kvs:List (List Nat×List Nat)}: ∀(t:Tm) {x:List Nat},eI t->vk kvs t->val kvs t=some x->q8 x
 | .walk w,x,ho,hk,h=>eM ho.1 h
 | .name s,x,ho,hk,h=>eM (yX hk.all s).1 h
 | .back t,x,ho,hk,h=>by
  have h':((val kvs t).bind fun x=>mQ (red (cR x)))=some x:=h
  cases e:val kvs t with
  | none=>rw[e]at h';cases h'
  | some y=>rw[e]at h';exact eM (tD (jd t ho (hk.sub (List.mem_singleton.mpr rfl)) e)).1 h'
 | .again k t,x,ho,hk,h=>by
  have h':((val kvs t).bind fun x=>mQ (red (ck k x)))=some x:=h
  cases e:val kvs t with
  | none=>rw[e]at h';cases h'
  | some y=>rw[e]at h';exact eM (nh (jd t ho.2 (hk.sub (List.mem_singleton.mpr rfl)) e) k).1 h'
 | .aS a b,x,ho,hk,h=>by
  have h':((val kvs a).bind fun x=>(val kvs b).bind fun y=>mQ (red (x++y)))=some x:=h
  cases e:val kvs a with
  | none=>rw[e]at h';cases h'
  | some y=>
   rw[e]at h'
   cases e2:val kvs b with
   | none=>rw[e2]at h';cases h'
   | some z=>
    rw[e2]at h'
    have h1:=jd a ho.1 (hk.sub List.mem_cons_self) e
    have h2:=jd b ho.2 (hk.sub (List.mem_cons_of_mem _ List.mem_cons_self)) e2
    exact eM (fun c hc=>(List.mem_append.mp hc).elim (h1.1 c) (h2.1 c)) h'
 | .fr c a b,x,ho,hk,h=>by
  have h':((val kvs a).bind fun x=>(val kvs b).bind fun y=>mQ (red (bM c y x)))=some x:=h
  cases e:val kvs a with
  | none=>rw[e]at h';cases h'
  | some y=>
   rw[e]at h'
   cases e2:val kvs b with
   | none=>rw[e2]at h';cases h'
   | some z=>
    rw[e2]at h'
    have h1:=jd a ho.2.1 (hk.sub List.mem_cons_self) e
    have h2:=jd b ho.2.2 (hk.sub (List.mem_cons_of_mem _ List.mem_cons_self)) e2
    exact eM (kG h2 h1.1).1 h'
theorem MR {s:List Nat}: ∀{kvs:List (List Nat×List Nat)},(kvs.lookup s).isSome=true->cQ (yV kvs) (kS s)=some (.str (S (kn kvs s)))
 | [],h=>by cases h
 |(a,b)::r,h=>by
  show cQ ((kS a,V.str (S b))::yV r) (kS s)=_
  unfold kn
  rw[List.lookup_cons]at h ⊢
  cases e:s==a with
  | true=>
   have:s=a:=by simpa using e
   subst this
   rw[bF rfl]
   rfl
  | false=>
   rw[e]at h
   have:s≠a:=by simpa using e
   rw[bf fun q=>this (lP q).symm]
   exact MR h
noncomputable def dI:List (List Nat×List Nat)->List (List Nat×Tm)->Sum (List Nat) (List (List Nat×List Nat))
 | kvs,[]=> .inr kvs
 | kvs,(nm,t)::r=>match val kvs t with
  | none=> .inl nm
  | some x=>dI (kvs++[(nm,x)]) r
noncomputable def lR (ks:List Rw):List (List Nat×Tm):=ks.map fun k=>(k.nm,k.t)
structure kH (H:Hp) (p:Addr) (ks:List Rw):Prop where
 at_:oH H p ks
 ok: ∀k∈ks,eI k.t
 nd:(cA ks).Nodup
 AF: ∀(i:Nat) (k:Rw),ks[i]? =some k-> ∀s∈gE k.t,s∈cA (ks.take i)
theorem kH.ts {H H':Hp} {p:Addr} {ks:List Rw} (h:kH H p ks) (s:bq H H'):kH H' p ks:=⟨h.at_.ts s,h.ok,h.nd,h.AF⟩
theorem AG (ks:List Rw) (i:Nat) (k:Rw) (kvs:List (List Nat×List Nat)) (h:ks[i]? =some k):dI kvs (lR (ks.drop i))=match val kvs k.t with | none=> .inl k.nm | some x=>dI (kvs++[(k.nm,x)]) (lR (ks.drop (i+1))):=by
 have hi:=(List.getElem?_eq_some_iff.mp h)
 rw[List.drop_eq_getElem_cons hi.1,hi.2]
 rfl
noncomputable def rf (_:PySem.W.Frag) (c:Addr):Sp:=fun vs H Q E=> ∃(p:Addr) (ks:List Rw),vs=[.ref p]/\kH H p ks/\
 (∀kvs,dI [] (lR ks)= .inr kvs-> ∀q H',H q=none->H' q=some (.lst (bz (kvs.map (·.2))))->ar H H'->Q (.ref q) H')/\
 (∀nm,dI [] (lR ks)= .inl nm-> ∀e H',H' e=some (wZ e [("name", .str (S nm))])->ar H H'->E (.ref c) (some e) H')
theorem xo {K:PySem.W.Frag} {c:Addr} {vs:List V} {H:Hp} {Q:VK} {E:XK} (h:rf K c vs H Q E):vs.length=1:=by obtain ⟨_,_,rfl,_⟩:=h;rfl
theorem Cn {s:List Nat}: ∀{kvs:List (List Nat×List Nat)},s∈kvs.map (·.1)->(kvs.lookup s).isSome=true
 |(a,b)::r,h=>by
  rw[List.lookup_cons]
  cases e:s==a with
  | true=>rfl
  | false=>
   have:s≠a:=by simpa using e
   rcases List.mem_cons.mp h with z | z
   ·exact absurd z this
   ·exact Cn z
theorem rg {s:List Nat}: ∀{kvs:List (List Nat×List Nat)},s∉kvs.map (·.1)->cQ (yV kvs) (kS s)=none
 | [],_=>rfl
 |(a,b)::r,h=>by
  show cQ ((kS a,V.str (S b))::yV r) (kS s)=_
  rw[bf fun q=>h (by rw[lP q];exact List.mem_cons_self)]
  exact rg fun z=>h (List.mem_cons_of_mem _ z)
theorem Co (kvs:List (List Nat×List Nat)):(yV kvs).map (·.2)=bz (kvs.map (·.2)):=by unfold yV bz;rw[List.map_map,List.map_map];rfl
theorem Cp (kvs:List (List Nat×List Nat)) (s x:List Nat):yV kvs++[(kS s,V.str (S x))]=yV (kvs++[(s,x)]):=by unfold yV;rw[List.map_append];rfl
theorem Cq {ks:List Rw} {i:Nat} {k:Rw} (h:ks[i]? =some k) (nd:(cA ks).Nodup):k.nm∉cA (ks.take i):=fun z=>by
 have hi:=List.getElem?_eq_some_iff.mp h
 have e:cA ks=cA (ks.take i)++k.nm::cA (ks.drop (i+1)):=by
  conv=>lhs;rw[<-List.take_append_drop i ks,List.drop_eq_getElem_cons hi.1,hi.2]
  unfold cA
  rw[List.map_append]
  rfl
 rw[e]at nd
 exact (List.nodup_append.mp nd).2.2 _ z _ List.mem_cons_self rfl
noncomputable def vv (_:PySem.W.Frag):Sp:=fun vs H Q _=> ∃b:Addr,vs=[.ref b]/\bw H b/\ ∀(l:List Nat) H',l≠[]->l.length<=6->(∀c∈l,Lt c)->(∀c,l[0]? =some c->c∈aj)->bw H' b->aD b H H'->Q (.str (S l)) H'
theorem AH {K:PySem.W.Frag} {vs:List V} {H:Hp} {Q:VK} {E:XK} (h:vv K vs H Q E):vs.length=1:=by obtain ⟨a,rfl,_⟩:=h;rfl
noncomputable def je (_:PySem.W.Frag) (n:Nat):Sp:=fun vs H Q _=> ∃(b kp:Addr) (known:List (List Nat)) (l:List Nat) (room deep:Nat),vs=[.ref b, .ref kp, .str (S l), .int room, .int deep]/\bw H b/\kp≠b/\H kp=some (.lst (bz known))/\known.length<=12/\(∀s∈known,E_ s)/\l≠[]/\l.length<=6/\(∀c∈l,Lt c)/\(∀c,l[0]? =some c->c∈aj)/\room<=12/\deep+1<=n/\
 ∀(a:Addr) (t:Tm) H',bA H' a t->dep t<=deep+1->eI t->(∀s∈gE t,s∈known)->bw H' b->aD b H H'->Q (.ref a) H'
theorem AI {K:PySem.W.Frag} {n:Nat} {vs:List V} {H:Hp} {Q:VK} {E:XK} (h:je K n vs H Q E):vs.length=5:=by obtain ⟨_,_,_,_,_,_,rfl,_⟩:=h;rfl
theorem AJ {K:PySem.W.Frag} {vs:List V} {H:Hp} {Q:VK} {E:XK} (h:je K 0 vs H Q E):False:=by obtain ⟨_,_,_,_,_,deep,_,_,_,_,_,_,_,_,_,_,_,h,_⟩:=h;omega
theorem Cr {x y:Nat} (hx:x∈aj) (hy:y∈aj): ∀r:Nat,(r:Int)<2-> ∃c,([V.str (S [x]),V.str (S [y])]:List V)[r]? =some (.str (S [c]))/\c∈aj
 | 0,_=>⟨x,rfl,hx⟩
 | 1,_=>⟨y,rfl,hy⟩
 | r+2,h=>by omega
noncomputable def kI:List Nat:=[108,111,110,103]
noncomputable def vw (_:PySem.W.Frag):Sp:=fun vs H Q _=> ∃(p:Addr) (ks:List Rw),vs=[.ref p]/\kH H p ks/\
 (∀kvs,dI [] (lR ks)= .inr kvs-> ∀q H',H q=none->H' q=some (.lst (bz (kvs.map (·.2))))->ar H H'->Q (.ref q) H')/\
 (∀nm,dI [] (lR ks)= .inl nm-> ∀q H',H' q=some (.tup [.str (S kI), .str (S nm)])->ar H H'->Q (.ref q) H')
theorem AK {K:PySem.W.Frag} {vs:List V} {H:Hp} {Q:VK} {E:XK} (h:vw K vs H Q E):vs.length=1:=by obtain ⟨_,_,rfl,_⟩:=h;rfl
noncomputable def Za (H:Hp) (bs:List Addr) (ws:List (List Nat)):Prop:= ∀(j:Nat) (b:Addr) (x:List Nat),bs[j]? =some b->ws[j]? =some x->H b=some (.lst (bz (ones (cR x))))
theorem Cs (as:List Addr) (b:Addr):j5 as++[V.ref b]=j5 (as++[b]):=by unfold j5;rw[List.map_append];rfl
theorem iD {kvs:List (List Nat×List Nat)} (hk: ∀p∈kvs,q8 p.2): ∀(t:Tm) {x:List Nat},eI t->val kvs t=some x->q8 x
 | .walk w,x,ho,h=>eM ho.1 h
 | .name s,x,ho,h=>eM (yX hk s).1 h
 | .back t,x,ho,h=>by
  have h':((val kvs t).bind fun x=>mQ (red (cR x)))=some x:=h
  cases e:val kvs t with
  | none=>rw[e]at h';cases h'
  | some y=>rw[e]at h';exact eM (tD (iD hk t ho e)).1 h'
 | .again k t,x,ho,h=>by
  have h':((val kvs t).bind fun x=>mQ (red (ck k x)))=some x:=h
  cases e:val kvs t with
  | none=>rw[e]at h';cases h'
  | some y=>rw[e]at h';exact eM (nh (iD hk t ho.2 e) k).1 h'
 | .aS a b,x,ho,h=>by
  have h':((val kvs a).bind fun x=>(val kvs b).bind fun y=>mQ (red (x++y)))=some x:=h
  cases e:val kvs a with
  | none=>rw[e]at h';cases h'
  | some y=>
   rw[e]at h'
   cases e2:val kvs b with
   | none=>rw[e2]at h';cases h'
   | some z=>
    rw[e2]at h'
    have h1:=iD hk a ho.1 e
    have h2:=iD hk b ho.2 e2
    exact eM (fun c hc=>(List.mem_append.mp hc).elim (h1.1 c) (h2.1 c)) h'
 | .fr c a b,x,ho,h=>by
  have h':((val kvs a).bind fun x=>(val kvs b).bind fun y=>mQ (red (bM c y x)))=some x:=h
  cases e:val kvs a with
  | none=>rw[e]at h';cases h'
  | some y=>
   rw[e]at h'
   cases e2:val kvs b with
   | none=>rw[e2]at h';cases h'
   | some z=>
    rw[e2]at h'
    have h1:=iD hk a ho.2.1 e
    have h2:=iD hk b ho.2.2 e2
    exact eM (kG h2 h1.1).1 h'
theorem yY: ∀(r:List (List Nat×Tm)) (kvs:List (List Nat×List Nat)) (n:List Nat),dI kvs r= .inl n->n∈r.map (·.1)
 | [],kvs,n,e=>by cases e
 |(nm,t)::r,kvs,n,e=>by
  have e':(match val kvs t with | none=>Sum.inl nm | some x=>dI (kvs++[(nm,x)]) r)=Sum.inl n:=e
  cases hv:val kvs t with
  | none=>rw[hv]at e';cases e';exact List.mem_cons_self
  | some x=>rw[hv]at e';exact List.mem_cons_of_mem _ (yY r _ n e')
theorem kH.MS {H:Hp} {p:Addr} {ks:List Rw} (h:kH H p ks) {nm:List Nat} (e:dI [] (lR ks)= .inl nm): ∀c∈nm,c<128:=by
 have:=yY _ _ _ e
 unfold lR at this
 rw[List.map_map]at this
 obtain ⟨k,hk,rfl⟩:=List.mem_map.mp this
 exact (h.at_.rw k hk).nl
theorem AL: ∀c∈kI,c<128:=by decide
noncomputable def kinds:List (List Nat):=[bU,bT,bH,kFor]
structure pN (s:List Nat):Prop where
 ne:s≠[]
 lt: ∀c∈s,c∈aj
 sz:s.length<=6
 nk:s∉kinds
theorem pN.kD {s:List Nat} (h:pN s): ∀c∈s,c<128:=fun c hc=>(show Lt c from .inl (h.lt c hc)).lt
noncomputable def lg:Tm->Prop
 | .walk w=>(∀c∈w,Lt c)/\w.length<=500
 | .name s=>pN s
 | .back t=>lg t
 | .again k t=>k<=6/\lg t
 | .aS a b=>lg a/\lg b
 | .fr c a b=>c∈aj/\lg a/\lg b
noncomputable def cX:Tm->List Nat
 | .walk _=>dA
 | .name _=>dN
 | .back _=>bT
 | .again _ _=>bH
 | .aS _ _=>bU
 | .fr _ _ _=>kFor
noncomputable def bN:Tm->List Nat
 | .walk w=>39::(w++[39])
 | .name s=>s
 | .back t=>(40::bT)++(32::bN t)++[41]
 | .again k t=>(40::bH)++[32,48+k]++(32::bN t)++[41]
 | .aS a b=>(40::bU)++((32::bN a)++(32::bN b))++[41]
 | .fr c a b=>(40::kFor)++[32,c]++((32::bN a)++(32::bN b))++[41]
theorem Ct: ∀k,k<=6->dg k=[48+k]:=by decide+kernel
noncomputable def v_:Tm->List Nat
 | .again k _=>[32,48+k]
 | .fr c _ _=>[32,c]
 | _=>[]
noncomputable def eQ (ts:List Tm):List Nat:=ts.flatMap fun t=>32::bN t
noncomputable def made:Tm->Prop
 | .walk _=>False
 | .name _=>False
 | _=>True
theorem Cu: ∀{t:Tm},made t->bN t=(40::cX t)++v_ t++eQ (subs t)++[41]
 | .back t,_=>by simp[bN,cX,v_,eQ,subs]
 | .again k t,_=>by simp[bN,cX,v_,eQ,subs]
 | .aS a b,_=>by simp[bN,cX,v_,eQ,subs]
 | .fr c a b,_=>by simp[bN,cX,v_,eQ,subs]
theorem vx: ∀{t:Tm},made t->cX t∈kinds
 | .back t,_=>by show bT∈kinds;decide
 | .again k t,_=>by show bH∈kinds;decide
 | .aS a b,_=>by show bU∈kinds;decide
 | .fr c a b,_=>by show kFor∈kinds;decide
theorem xq {t u:Tm} (h:lg t) (hu:u∈subs t):lg u:=by
 cases t with
 | walk w=>cases hu
 | name s=>cases hu
 | back t=>rw[List.mem_singleton.mp hu];exact h
 | again k t=>rw[List.mem_singleton.mp hu];exact h.2
 | aS a b=>
  rcases List.mem_cons.mp hu with g | g
  ·rw[g];exact h.1
  ·rw[List.mem_singleton.mp g];exact h.2
 | fr c a b=>
  rcases List.mem_cons.mp hu with g | g
  ·rw[g];exact h.2.1
  ·rw[List.mem_singleton.mp g];exact h.2.2
theorem vy: ∀t:Tm,(subs t).length<=2
 | .walk _=>Nat.zero_le _
 | .name _=>Nat.zero_le _
 | .back _=>by show 1<=2;decide
 | .again _ _=>by show 1<=2;decide
 | .aS _ _=>Nat.le_refl _
 | .fr _ _ _=>Nat.le_refl _
theorem gw: ∀{t:Tm} {n:Nat},lg t->dep t<=n->(bN t).length+20<=600*2 ^ n
 | .walk w,n,h,_=>by
  have:1<=2 ^ n:=Nat.one_le_two_pow
  have h2:=h.2
  show (39::(w++[39])).length+20<=_
  simp only[List.length_cons,List.length_append,List.length_nil]
  omega
 | .name s,n,h,_=>by
  have:1<=2 ^ n:=Nat.one_le_two_pow
  have h2:=h.sz
  show s.length+20<=_
  omega
 | .back t,n,h,hd=>by
  have zx:dep t+1<=n:=hd
  obtain ⟨m,rfl⟩: ∃m,n=m+1:=⟨n - 1,by omega⟩
  have a:=gw (t:=t) (n:=m) h (by omega)
  have:1<=2 ^ m:=Nat.one_le_two_pow
  show ((40::bT)++(32::bN t)++[41]).length+20<=_
  simp only[List.length_cons,List.length_append,List.length_nil,bT,Nat.pow_succ]
  omega
 | .again k t,n,h,hd=>by
  have zx:dep t+1<=n:=hd
  obtain ⟨m,rfl⟩: ∃m,n=m+1:=⟨n - 1,by omega⟩
  have a:=gw (t:=t) (n:=m) h.2 (by omega)
  have:1<=2 ^ m:=Nat.one_le_two_pow
  show ((40::bH)++[32,48+k]++(32::bN t)++[41]).length+20<=_
  simp only[List.length_cons,List.length_append,List.length_nil,bH,Nat.pow_succ]
  omega
 | .aS x y,n,h,hd=>by
  have zx:max (dep x) (dep y)+1<=n:=hd
  obtain ⟨m,rfl⟩: ∃m,n=m+1:=⟨n - 1,by omega⟩
  have a:=gw (t:=x) (n:=m) h.1 (by omega)
  have b:=gw (t:=y) (n:=m) h.2 (by omega)
  show ((40::bU)++((32::bN x)++(32::bN y))++[41]).length+20<=_
  simp only[List.length_cons,List.length_append,List.length_nil,bU,Nat.pow_succ]
  omega
 | .fr c x y,n,h,hd=>by
  have zx:max (dep x) (dep y)+1<=n:=hd
  obtain ⟨m,rfl⟩: ∃m,n=m+1:=⟨n - 1,by omega⟩
  have a:=gw (t:=x) (n:=m) h.2.1 (by omega)
  have b:=gw (t:=y) (n:=m) h.2.2 (by omega)
  show ((40::kFor)++[32,c]++((32::bN x)++(32::bN y))++[41]).length+20<=_
  simp only[List.length_cons,List.length_append,List.length_nil,kFor,Nat.pow_succ]
  omega
theorem tE {t:Tm} {n:Nat} (h:lg t) (hd:dep t<=n) (hn:n<=10):(bN t).length<=614400:=by
 have:=gw h hd
 have h2:2 ^ n<=2 ^ 10:=Nat.pow_le_pow_right (by decide) hn
 omega
noncomputable def Sep (post:List Nat):Prop:= ∀c,post[0]? =some c->c∉aj
noncomputable def isNm (s:List Nat):Bool:=decide (1<=s.length)&&decide (s.length<=6)&&s.all fun c=>decide (c∈aj)
noncomputable def Fh (s:List Nat):Bool:=isNm s&&decide (s∉kinds)
theorem pN.is {s:List Nat} (h:pN s):Fh s=true:=by
 unfold Fh isNm
 have h1:1<=s.length:=List.length_pos_iff.mpr h.ne
 rw[decide_eq_true h1,decide_eq_true h.sz,decide_eq_true h.nk,List.all_eq_true.mpr fun c hc=>decide_eq_true (h.lt c hc)]
 rfl
noncomputable def fB (r:List Nat×Tm):List Nat:=r.1++[32,61,32]++bN r.2
structure GJ (H:Hp) (k:Rw):Prop where
 tp:H k.r=some (.tup [.str (S k.nm), .ref k.a])
 tm:bA H k.a k.t
 dp:dep k.t<=7
 nf:pN k.nm
 tf:lg k.t
theorem GJ.ts {H H':Hp} {k:Rw} (h:GJ H k) (s:bq H H'):GJ H' k:=⟨s _ _ h.tp,h.tm.ts s,h.dp,h.nf,h.tf⟩
noncomputable def jW (ks:List Rw):List (List Nat×Tm):=ks.map fun k=>(k.nm,k.t)
noncomputable def Fi (rs:List (List Nat×Tm)):List Nat:=eB 10 (rs.map fB)
structure Cv (H:Hp) (p:Addr) (ks:List Rw):Prop where
 tp:H p=some (.tup (jN ks))
 rw: ∀k∈ks,GJ H k
 ne:ks≠[]
 fw:ks.length<=40
theorem Cv.ts {H H':Hp} {p:Addr} {ks:List Rw} (h:Cv H p ks) (s:bq H H'):Cv H' p ks:=⟨s _ _ h.tp,fun k hk=>(h.rw k hk).ts s,h.ne,h.fw⟩
theorem Cv.same {H H':Hp} {p:Addr} {ks:List Rw} (h:Cv H p ks) (s:ar H H'):Cv H' p ks:=h.ts (bq.of s)
noncomputable def oN (_:PySem.W.Frag):Sp:=fun vs H Q _=> ∃s:List Nat,vs=[.str (S s)]/\s.length<=900000/\ ∀H',ar H H'->Q (.bl (isNm s)) H'
theorem vz {K:PySem.W.Frag} {vs:List V} {H:Hp} {Q:VK} {E:XK} (h:oN K vs H Q E):vs.length=1:=by obtain ⟨_,rfl,_⟩:=h;rfl
noncomputable def fD (_:PySem.W.Frag):Sp:=fun vs H Q _=> ∃s:List Nat,vs=[.str (S s)]/\s.length<=900000/\ ∀H',ar H H'->Q (.bl (Fh s)) H'
theorem mR {K:PySem.W.Frag} {vs:List V} {H:Hp} {Q:VK} {E:XK} (h:fD K vs H Q E):vs.length=1:=by obtain ⟨_,rfl,_⟩:=h;rfl
noncomputable def dF (_:PySem.W.Frag) (n:Nat):Sp:=fun vs H Q _=> ∃(a:Addr) (t:Tm),vs=[.ref a]/\bA H a t/\lg t/\dep t<=n/\n<=10/\ ∀H',ar H H'->Q (.str (S (bN t))) H'
theorem qb {K:PySem.W.Frag} {n:Nat} {vs:List V} {H:Hp} {Q:VK} {E:XK} (h:dF K n vs H Q E):vs.length=1:=by obtain ⟨_,_,rfl,_⟩:=h;rfl
theorem qc {K:PySem.W.Frag} {vs:List V} {H:Hp} {Q:VK} {E:XK} (h:dF K 0 vs H Q E):False:=by obtain ⟨_,t,_,_,_,h,_⟩:=h;have:=m_ t;omega
noncomputable def iN (_:PySem.W.Frag):Sp:=fun vs H Q _=> ∃(p:Addr) (ks:List Rw),vs=[.ref p]/\Cv H p ks/\ ∀H',ar H H'->Q (.str (S (Fi (jW ks)))) H'
theorem lS {K:PySem.W.Frag} {vs:List V} {H:Hp} {Q:VK} {E:XK} (h:iN K vs H Q E):vs.length=1:=by obtain ⟨_,_,rfl,_⟩:=h;rfl
noncomputable def Reads (H:Hp) (Q:VK) (t:Tm) (e:Nat):Prop:= ∀(T a:Addr) (H':Hp),H' T=some (.tup [.ref a, .int (e:Nat)])->bA H' a t->ar H H'->Q (.ref T) H'
noncomputable def kJ (_:PySem.W.Frag):Sp:=fun vs H Q _=> ∃pre w post:List Nat,vs=[.str (S (pre++bN (.walk w)++post)), .int (pre.length:Nat)]/\lg (.walk w)/\(pre++bN (.walk w)++post).length<=900000/\Reads H Q (.walk w) (pre.length+(bN (.walk w)).length)
theorem qe {K:PySem.W.Frag} {vs:List V} {H:Hp} {Q:VK} {E:XK} (h:kJ K vs H Q E):vs.length=2:=by obtain ⟨_,_,_,rfl,_⟩:=h;rfl
noncomputable def kK (_:PySem.W.Frag):Sp:=fun vs H Q _=> ∃pre s post:List Nat,vs=[.str (S (pre++bN (.name s)++post)), .int (pre.length:Nat)]/\pN s/\Sep post/\(pre++bN (.name s)++post).length<=900000/\Reads H Q (.name s) (pre.length+(bN (.name s)).length)
theorem qf {K:PySem.W.Frag} {vs:List V} {H:Hp} {Q:VK} {E:XK} (h:kK K vs H Q E):vs.length=2:=by obtain ⟨_,_,_,rfl,_⟩:=h;rfl
noncomputable def kL (_:PySem.W.Frag):Sp:=fun vs H Q _=> ∃pre k post:List Nat,vs=[.str (S (pre++((40::k)++32::post))), .int (pre.length:Nat)]/\k∈kinds/\(pre++((40::k)++32::post)).length<=900000/\ ∀(T:Addr) (H':Hp),H' T=some (.tup [.str (S k), .int ((pre.length+1+k.length:Nat):Int)])->ar H H'->Q (.ref T) H'
theorem qg {K:PySem.W.Frag} {vs:List V} {H:Hp} {Q:VK} {E:XK} (h:kL K vs H Q E):vs.length=2:=by obtain ⟨_,_,_,rfl,_⟩:=h;rfl
noncomputable def kM (_:PySem.W.Frag):Sp:=fun vs H Q _=> ∃(pre k post:List Nat) (c:Nat) (v:V),vs=[.str (S k), .str (S (pre++([32,c]++post))), .int (pre.length:Nat)]/\(pre++([32,c]++post)).length<=900000/\((k=bH/\48<=c/\c<=54/\v= .int ((c - 48:Nat):Int))\/(k=kFor/\c∈aj/\v= .str (S [c])))/\ ∀(T:Addr) (H':Hp),H' T=some (.tup [v, .int ((pre.length+2:Nat):Int)])->ar H H'->Q (.ref T) H'
theorem qh {K:PySem.W.Frag} {vs:List V} {H:Hp} {Q:VK} {E:XK} (h:kM K vs H Q E):vs.length=3:=by obtain ⟨_,_,_,_,_,rfl,_⟩:=h;rfl
noncomputable def jO (_:PySem.W.Frag) (n:Nat):Sp:=fun vs H Q _=> ∃(pre post:List Nat) (ts:List Tm),vs=[.int (ts.length:Nat), .str (S (pre++(eQ ts++post))), .int (pre.length:Nat)]/\(∀t∈ts,lg t/\dep t<=n)/\n<=10/\ts.length<=2/\Sep post/\(pre++(eQ ts++post)).length<=900000/\
 ∀(T l:Addr) (as:List Addr) (H':Hp),H' T=some (.tup [.ref l, .int ((pre.length+(eQ ts).length:Nat):Int)])->H' l=some (.lst (j5 as))->dB H' as ts->ar H H'->Q (.ref T) H'
theorem oO {K:PySem.W.Frag} {n:Nat} {vs:List V} {H:Hp} {Q:VK} {E:XK} (h:jO K n vs H Q E):vs.length=3:=by obtain ⟨_,_,_,rfl,_⟩:=h;rfl
noncomputable def kN (_:PySem.W.Frag) (n:Nat):Sp:=fun vs H Q _=> ∃(pre post:List Nat) (t:Tm),vs=[.str (S (pre++bN t++post)), .int (pre.length:Nat)]/\made t/\lg t/\dep t<=n+1/\n<=10/\(pre++bN t++post).length<=900000/\Reads H Q t (pre.length+(bN t).length)
theorem qi {K:PySem.W.Frag} {n:Nat} {vs:List V} {H:Hp} {Q:VK} {E:XK} (h:kN K n vs H Q E):vs.length=2:=by obtain ⟨_,_,_,rfl,_⟩:=h;rfl
noncomputable def cn (_:PySem.W.Frag) (n:Nat):Sp:=fun vs H Q _=> ∃(pre post:List Nat) (t:Tm),vs=[.str (S (pre++bN t++post)), .int (pre.length:Nat)]/\lg t/\dep t<=n/\n<=10/\Sep post/\(pre++bN t++post).length<=900000/\Reads H Q t (pre.length+(bN t).length)
theorem qj {K:PySem.W.Frag} {n:Nat} {vs:List V} {H:Hp} {Q:VK} {E:XK} (h:cn K n vs H Q E):vs.length=2:=by obtain ⟨_,_,_,rfl,_⟩:=h;rfl
theorem qk {K:PySem.W.Frag} {vs:List V} {H:Hp} {Q:VK} {E:XK} (h:cn K 0 vs H Q E):False:=by obtain ⟨_,_,t,_,_,h,_⟩:=h;have:=m_ t;omega
noncomputable def mw (_:PySem.W.Frag):Sp:=fun vs H Q _=> ∃(nm:List Nat) (t:Tm),vs=[.str (S (fB (nm,t)))]/\pN nm/\lg t/\dep t<=7/\ ∀(r a:Addr) (H':Hp),H' r=some (.tup [.str (S nm), .ref a])->bA H' a t->ar H H'->Q (.ref r) H'
theorem tF {K:PySem.W.Frag} {vs:List V} {H:Hp} {Q:VK} {E:XK} (h:mw K vs H Q E):vs.length=1:=by obtain ⟨_,_,rfl,_⟩:=h;rfl
noncomputable def Wl (rs:List (List Nat×Tm)):Prop:=rs≠[]/\rs.length<=40/\ ∀r∈rs,pN r.1/\lg r.2/\dep r.2<=7
noncomputable def iO (_:PySem.W.Frag):Sp:=fun vs H Q _=> ∃rs:List (List Nat×Tm),vs=[.str (S (Fi rs))]/\Wl rs/\(Fi rs).length<=900000/\ ∀(p:Addr) (ks:List Rw) (H':Hp),Cv H' p ks->jW ks=rs->ar H H'->Q (.ref p) H'
theorem lT {K:PySem.W.Frag} {vs:List V} {H:Hp} {Q:VK} {E:XK} (h:iO K vs H Q E):vs.length=1:=by obtain ⟨_,rfl,_⟩:=h;rfl
inductive OF (H:Hp):Nat->V->V->Prop
 | int {n:Nat} (i:Int):OF H n (.int i) (.int i)
 | str {n:Nat} {l:List Nat}:(∀c∈l,c<128)->OF H n (.str (S l)) (.str (S l))
 | tup {n:Nat} {a b:Addr} {xs ys:List V}:H a=some (.tup xs)->H b=some (.tup ys)->xs.length=ys.length->xs.length<=40->(∀(i:Nat) (x y:V),xs[i]? =some x->ys[i]? =some y->OF H n x y)->OF H (n+1) (.ref a) (.ref b)
theorem iE {a b:List Nat} {n:Nat} (h:a.length=n):(a++b).drop n=b:=by
 rw[<-h,List.drop_append_of_le_length (Nat.le_refl _),List.drop_length,List.nil_append]
theorem QG: ¬Lt 39:=fun h=>by have:=h.mem;revert this;decide
theorem oP {α:Type} (l:List α) (i j:Nat) (h:i<=j):cut l (some (i:Int)) (some (j:Int))=(l.drop i).take (j - i):=by
 unfold cut
 rw[HT.j9,HT.j9]
 by_cases g:i<=l.length
 ·rw[Nat.min_eq_left g]
  by_cases k:j<=l.length
  ·rw[Nat.min_eq_left k]
  ·rw[Nat.min_eq_right (by omega),List.take_of_length_le (by rw[List.length_drop];omega),List.take_of_length_le (by rw[List.length_drop];omega)]
 ·rw[List.drop_eq_nil_of_le (show l.length<=min i l.length by omega),List.drop_eq_nil_of_le (show l.length<=i by omega),List.take_nil,List.take_nil]
theorem jI {a b:List Nat} (h:a≠b): ¬(Sum.inr (S a):Key)=Sum.inr (S b):=fun z=>h (Gi (Sum.inr.inj z))
theorem MT (l:List Nat):(cQ ([(Sum.inr (S bU),V.int 2),(Sum.inr (S bT),V.int 1),(Sum.inr (S bH),V.int 1),(Sum.inr (S kFor),V.int 2)]:List (Key×V)) (Sum.inr (S l))).isSome=decide (l∈kinds):=by
 by_cases h1:bU=l
 ·rw[bF (by rw[h1]),decide_eq_true (by rw[<-h1];decide)];rfl
 rw[bf (jI h1)]
 by_cases h2:bT=l
 ·rw[bF (by rw[h2]),decide_eq_true (by rw[<-h2];decide)];rfl
 rw[bf (jI h2)]
 by_cases h3:bH=l
 ·rw[bF (by rw[h3]),decide_eq_true (by rw[<-h3];decide)];rfl
 rw[bf (jI h3)]
 by_cases h4:kFor=l
 ·rw[bF (by rw[h4]),decide_eq_true (by rw[<-h4];decide)];rfl
 rw[bf (jI h4),nZ,decide_eq_false]
 ·rfl
 ·intro z
  rcases List.mem_cons.mp z with e | z
  ·exact h1 e.symm
  rcases List.mem_cons.mp z with e | z
  ·exact h2 e.symm
  rcases List.mem_cons.mp z with e | z
  ·exact h3 e.symm
  exact h4 (List.mem_singleton.mp z).symm
theorem vA {k kd post:List Nat} (hk:k∈kinds) (De:kd∈kinds):(((40::k)++32::post).take ([40]++kd++[32]).length=[40]++kd++[32])↔kd=k:=by
 simp only[kinds,List.mem_cons,List.not_mem_nil,or_false]at hk De
 rcases hk with rfl | rfl | rfl | rfl<;>rcases De with rfl | rfl | rfl | rfl<;>simp[bU,bT,bH,kFor]
theorem xr {pre k kd post:List Nat} (hk:k∈kinds) (De:kd∈kinds):(decide (pre.length+([40]++kd++[32]).length<=(pre++((40::k)++32::post)).length)&&decide (((pre++((40::k)++32::post)).drop pre.length).take ([40]++kd++[32]).length=[40]++kd++[32]))=decide (kd=k):=by
 rw[iE rfl]
 by_cases e:kd=k
 ·rw[decide_eq_true e,decide_eq_true ((vA hk De).mpr e),e,decide_eq_true (by simp only[List.length_append,List.length_cons,List.length_nil];omega)]
  rfl
 ·rw[decide_eq_false e,decide_eq_false fun z=>e ((vA hk De).mp z),Bool.and_false]
theorem yZ {c:Nat}: ∀{a b:List Nat},c∉a->(a++c::b).idxOf c=a.length
 | [],b,_=>by simp
 | x::a,b,h=>by
  have hx: ¬x=c:=fun z=>h (by rw[z];exact List.mem_cons_self)
  have e:(x==c)=false:=by simpa using hx
  rw[List.cons_append,List.idxOf_cons,e]
  show (a++c::b).idxOf c+1=a.length+1
  rw[yZ (fun z=>h (List.mem_cons_of_mem _ z))]
theorem Fj (n:Nat):(List.replicate n true).all id=true:=by induction n with
 | zero=>rfl
 | succ n ih=>rw[List.replicate_succ,List.all_cons,ih];rfl
theorem Cw (n:Nat):(List.replicate n true).map V.bl++[V.bl true]=(List.replicate (n+1) true).map V.bl:=by rw[List.replicate_succ',List.map_append];rfl
theorem Jy: ∀{c:Nat},48<=c->c<=54->c∈[48,49,50,51,52,53,54]:=fun {c} h1 h2=>by
 have:c=48\/c=49\/c=50\/c=51\/c=52\/c=53\/c=54:=by omega
 rcases this with rfl | rfl | rfl | rfl | rfl | rfl | rfl<;>decide
theorem oQ {pre rest p:List Nat}:(decide (pre.length+p.length<=(pre++rest).length)&&decide (((pre++rest).drop pre.length).take p.length=p))=decide (rest.take p.length=p):=by
 rw[iE rfl]
 by_cases e:rest.take p.length=p
 ·have hl:p.length<=rest.length:=by
   have:=congrArg List.length e
   rw[List.length_take]at this
   omega
  rw[decide_eq_true e,decide_eq_true (by rw[List.length_append];omega)]
  rfl
 ·rw[decide_eq_false e,Bool.and_false]
theorem kO (t:Tm) (ts:List Tm):eQ (t::ts)=32::(bN t++eQ ts):=by simp[eQ]
theorem MU (l:List Nat):Sep (32::l):=fun c h=>by
 have e:32=c:=by simpa using h
 rw[<-e];decide
theorem MV (l:List Nat):Sep (41::l):=fun c h=>by
 have e:41=c:=by simpa using h
 rw[<-e];decide
theorem QH:Sep []:=fun c h=>by simp at h
theorem Fl {ts:List Tm} {post:List Nat} (h:Sep post):Sep (eQ ts++post):=by
 cases ts with
 | nil=>exact h
 | cons t ts=>rw[kO];exact MU _
theorem Fm: ∀{t:Tm},made t-> ∃r,bN t=40::r
 | .back t,_=>⟨_,rfl⟩
 | .again k t,_=>⟨_,rfl⟩
 | .aS a b,_=>⟨_,rfl⟩
 | .fr c a b,_=>⟨_,rfl⟩
theorem Fn {s:List Nat} (h:pN s): ∃c r,s=c::r/\c∈aj:=by
 cases s with
 | nil=>exact absurd rfl h.ne
 | cons c r=>exact ⟨c,r,rfl,h.lt c List.mem_cons_self⟩
theorem y0 (a b:List Tm):eQ (a++b)=eQ a++eQ b:=by unfold eQ;rw[List.flatMap_append]
theorem oR {H:Hp} {a:Addr} {t:Tm} (h:bA H a t): ∀{as:List Addr} {ts:List Tm},dB H as ts->dB H (as++[a]) (ts++[t])
 | [],[],_=>⟨h,trivial⟩
 | _::_,_::_,g=>⟨g.1,oR h g.2⟩
theorem oS {H H':Hp} {a:Addr} {o:HO} (s:ar H H') (n:H a=none):ar H (upd H' a o):=fun b u e=>by rw[aA (aC e n)];exact s b u e
noncomputable def A9:Tm->List V
 | .again k _=>[.int k]
 | .fr c _ _=>[.str (S [c])]
 | _=>[]
noncomputable def y6 (t:Tm):List V:= .str (S (cX t))::A9 t
theorem MW {H:Hp} {a:Addr}: ∀{t:Tm} {as:List Addr},made t->H a=some (.tup (y6 t++j5 as))->dB H as (subs t)->bA H a t
 | .back t,[b],_,h,g=>⟨b,h,g.1⟩
 | .again k t,[b],_,h,g=>⟨b,h,g.1⟩
 | .aS x y,[b,c],_,h,g=>⟨b,c,h,g.1,g.2.1⟩
 | .fr l x y,[b,c],_,h,g=>⟨b,c,h,g.1,g.2.1⟩
 | .back t,[],_,_,g=>g.elim
 | .again k t,[],_,_,g=>g.elim
 | .aS x y,[],_,_,g=>g.elim
 | .fr l x y,[],_,_,g=>g.elim
 | .aS x y,[_],_,_,g=>g.2.elim
 | .fr l x y,[_],_,_,g=>g.2.elim
 | .back t,_::_::_,_,_,g=>g.2.elim
 | .again k t,_::_::_,_,_,g=>g.2.elim
 | .aS x y,_::_::_::_,_,_,g=>g.2.2.elim
 | .fr l x y,_::_::_::_,_,_,g=>g.2.2.elim
theorem oU: ∀{t:Tm},made t->lg t->(v_ t=[]/\A9 t=[]/\(cX t=bU\/cX t=bT))\/ ∃c v,v_ t=[32,c]/\A9 t=[v]/\((cX t=bH/\48<=c/\c<=54/\v= .int ((c - 48:Nat):Int))\/(cX t=kFor/\c∈aj/\v= .str (S [c])))
 | .back t,_,_=> .inl ⟨rfl,rfl, .inr rfl⟩
 | .aS a b,_,_=> .inl ⟨rfl,rfl, .inl rfl⟩
 | .again k t,_,h=> .inr ⟨48+k, .int k,rfl,rfl, .inl ⟨rfl,by omega,by have:=h.1;omega,by rw[Nat.add_sub_cancel_left]⟩⟩
 | .fr c a b,_,h=> .inr ⟨c,_,rfl,rfl, .inr ⟨rfl,h.1,rfl⟩⟩
theorem Cy: ∀{t:Tm},made t->cQ ([(Sum.inr (S bU),V.int 2),(Sum.inr (S bT),V.int 1),(Sum.inr (S bH),V.int 1),(Sum.inr (S kFor),V.int 2)]:List (Key×V)) (Sum.inr (S (cX t)))=some (.int ((subs t).length:Nat))
 | .aS a b,_=>bF rfl
 | .back t,_=>(bf (jI (show bU≠bT by decide))).trans (bF rfl)
 | .again k t,_=>(bf (jI (show bU≠bH by decide))).trans ((bf (jI (show bT≠bH by decide))).trans (bF rfl))
 | .fr c a b,_=>(bf (jI (show bU≠kFor by decide))).trans ((bf (jI (show bT≠kFor by decide))).trans ((bf (jI (show bH≠kFor by decide))).trans (bF rfl)))
theorem Cz: ∀{t:Tm},made t-> ∃u us,subs t=u::us
 | .aS a b,_=>⟨_,_,rfl⟩
 | .back t,_=>⟨_,_,rfl⟩
 | .again k t,_=>⟨_,_,rfl⟩
 | .fr c a b,_=>⟨_,_,rfl⟩
theorem Jz {P X:Addr->Hp->Prop} {G:Prop} (f:(∀a H6,P a H6->X a H6)->G) (x: ∀a H6,P a H6->X a H6):G:=f x
theorem MX {H:Hp} {a:Addr}: ∀{t:Tm},made t->bA H a t-> ∃as,H a=some (.tup (y6 t++j5 as))/\dB H as (subs t)
 | .back t,_,⟨b,h,g⟩=>⟨[b],h,g,trivial⟩
 | .again k t,_,⟨b,h,g⟩=>⟨[b],h,g,trivial⟩
 | .aS x y,_,⟨b,c,h,g1,g2⟩=>⟨[b,c],h,g1,g2,trivial⟩
 | .fr l x y,_,⟨b,c,h,g1,g2⟩=>⟨[b,c],h,g1,g2,trivial⟩
noncomputable def oV:Tm->List (List Nat)
 | .again k _=>[[48+k]]
 | .fr c _ _=>[[c]]
 | _=>[]
theorem CA: ∀{t:Tm},made t->[40]++eB 32 ([cX t]++oV t++(subs t).map bN)++[41]=bN t
 | .back t,_=>by simp[eB,cX,oV,subs,bN]
 | .again k t,_=>by simp[eB,cX,oV,subs,bN]
 | .aS a b,_=>by simp[eB,cX,oV,subs,bN]
 | .fr c a b,_=>by simp[eB,cX,oV,subs,bN]
theorem Fo {α:Type} (a b:List α) (hb:b≠[]):cut (a++b) (some (-(b.length:Int))) none=b:=by
 have hp:=List.length_pos_iff.mpr hb
 unfold cut
 have e1:HT.cB (a++b).length 0 (some (-(b.length:Int)))=a.length:=by
  show (if (-(b.length:Int))<0 then ((-(b.length:Int))+((a++b).length:Int)).toNat else min (-(b.length:Int)).toNat (a++b).length)=_
  rw[if_pos (by omega),List.length_append];omega
 have e2:HT.cB (a++b).length (a++b).length none=a.length+b.length:=List.length_append
 rw[e1,e2,List.drop_append_of_le_length (Nat.le_refl _),List.drop_length,List.nil_append,Nat.add_sub_cancel_left,List.take_length]
theorem CB {α:Type} (x:α) (a b:List α) (hb:b≠[]):cut ((x::a)++b) (some 1) (some (-(b.length:Int)))=a:=by
 have hp:=List.length_pos_iff.mpr hb
 unfold cut
 have e1:HT.cB ((x::a)++b).length (x::a++b).length (some (-(b.length:Int)))=a.length+1:=by
  show (if (-(b.length:Int))<0 then ((-(b.length:Int))+(((x::a)++b).length:Int)).toNat else min (-(b.length:Int)).toNat ((x::a)++b).length)=_
  rw[if_pos (by omega),List.length_append,List.length_cons];omega
 have e2:HT.cB ((x::a)++b).length 0 (some 1)=1:=by
  have:=HT.j9 ((x::a)++b).length 0 1
  rw[show (some ((1:Nat):Int))=some 1 from rfl]at this
  rw[this,List.length_append,List.length_cons];omega
 rw[e1,e2,Nat.add_sub_cancel]
 show ((a++b)).take a.length=a
 rw[List.take_append_of_le_length (Nat.le_refl _),List.take_length]
theorem tG {t:Tm} (hm:made t) (ht:lg t):(oV t=[]/\A9 t=[])\/(∃k:Nat,k<=6/\oV t=[[48+k]]/\A9 t=[.int k])\/ ∃c,oV t=[[c]]/\A9 t=[.str (S [c])]:=by
 cases t with
 | walk w=>exact hm.elim
 | name s=>exact hm.elim
 | back t=>exact .inl ⟨rfl,rfl⟩
 | aS a b=>exact .inl ⟨rfl,rfl⟩
 | again k t=>exact .inr (.inl ⟨k,ht.1,rfl,rfl⟩)
 | fr c a b=>exact .inr (.inr ⟨c,rfl,rfl⟩)
theorem MY: ∀{t:Tm},made t->cX t≠dA/\cX t≠dN
 | .back t,_=>⟨by show bT≠dA;decide,by show bT≠dN;decide⟩
 | .again k t,_=>⟨by show bH≠dA;decide,by show bH≠dN;decide⟩
 | .aS a b,_=>⟨by show bU≠dA;decide,by show bU≠dN;decide⟩
 | .fr c a b,_=>⟨by show kFor≠dA;decide,by show kFor≠dN;decide⟩
theorem y7 (a b:List Rw):jW (a++b)=jW a++jW b:=by unfold jW;rw[List.map_append]
theorem vB {nm:List Nat} {t:Tm} (hn:pN nm) (ht:lg t) (hd:dep t<=7):(fB (nm,t)).length<=76800:=by
 have h1:=hn.sz
 have h2:=gw ht hd
 have e:(fB (nm,t)).length=nm.length+3+(bN t).length:=by unfold fB;simp;omega
 omega
theorem y8 {b:Nat}: ∀{ps:List (List Nat)},(∀p∈ps,p.length<=b)->(ps.map List.length).sum<=b*ps.length
 | [],_=>Nat.zero_le _
 | p::ps,h=>by
  have h1:=h p List.mem_cons_self
  have h2:=y8 (ps:=ps) fun q hq=>h q (List.mem_cons_of_mem _ hq)
  rw[List.map_cons,List.sum_cons,List.length_cons,Nat.mul_add]
  omega
theorem xt: ∀{t:Tm},lg t->10∉bN t
 | .walk w,h,z=>by
  rcases List.mem_cons.mp z with e | z
  ·cases e
  ·rcases List.mem_append.mp z with z | z
   ·have:=(h.1 10 z).mem;revert this;decide
   ·exact absurd (List.mem_singleton.mp z) (by decide)
 | .name s,h,z=>by have:=h.lt 10 z;revert this;decide
 | .back t,h,z=>by have ih:=xt (t:=t) h;simp[bN,bT,ih]at z
 | .again k t,h,z=>by have ih:=xt (t:=t) h.2;simp[bN,bH,ih]at z;omega
 | .aS a b,h,z=>by have i1:=xt (t:=a) h.1;have i2:=xt (t:=b) h.2;simp[bN,bU,i1,i2]at z
 | .fr c a b,h,z=>by
  have i1:=xt (t:=a) h.2.1
  have i2:=xt (t:=b) h.2.2
  have hc: ¬10=c:=fun e=>by have:=h.1;rw[<-e]at this;revert this;decide
  simp[bN,kFor,i1,i2,hc]at z
theorem MZ {r:List Nat×Tm} (hn:pN r.1) (ht:lg r.2):10∉fB r:=fun z=>by
 unfold fB at z
 rcases List.mem_append.mp z with z | z
 ·rcases List.mem_append.mp z with z | z
  ·have:=hn.lt 10 z;revert this;decide
  ·revert z;decide
 ·exact xt ht z
theorem JA {t:Tm} (hm:made t) (ht:lg t) {i:Nat} {x:V} (h:(A9 t)[i]? =some x): ∃l,(oV t)[i]? =some l/\((∃n:Nat,x= .int n/\n<2 ^ 60/\dg n=l)\/x= .str (S l)):=by
 rcases tG hm ht with ⟨_,e2⟩ | ⟨k,hk,e1,e2⟩ | ⟨c,e1,e2⟩
 ·rw[e2]at h;simp at h
 ·rw[e2]at h
  cases i with
  | zero=>
   have e:V.int k=x:=by simpa using h
   exact ⟨[48+k],by rw[e1];rfl, .inl ⟨k,e.symm,by omega,Ct k hk⟩⟩
  | succ i=>simp at h
 ·rw[e2]at h
  cases i with
  | zero=>
   have e:V.str (S [c])=x:=by simpa using h
   exact ⟨[c],by rw[e1];rfl, .inr e.symm⟩
  | succ i=>simp at h
theorem JB {t:Tm} (hm:made t) (ht:lg t):(oV t).length=(A9 t).length/\(A9 t).length<=1:=by
 rcases tG hm ht with ⟨e1,e2⟩ | ⟨k,hk,e1,e2⟩ | ⟨c,e1,e2⟩<;>rw[e1,e2]<;>simp
theorem CC {t:Tm} (hm:made t) (ht:lg t) {n:Nat} (hd:dep t<=n) (hn:n<=10):(eB 32 ([cX t]++oV t++(subs t).map bN)).length+2=(bN t).length:=by
 have:=congrArg List.length (CA hm)
 simp only[List.length_append,List.length_cons,List.length_nil]at this
 omega
theorem y9 (a b:List (List Nat)):bz a++bz b=bz (a++b):=by unfold bz;rw[List.map_append]
structure QI (s:List Nat):Prop where
 ne:s≠[]
 lt: ∀c∈s,c∈aj
 sz:s.length<=6
theorem Fp {rs:List (List Nat×Tm)} {b:Nat} (h: ∀r∈rs,(fB r).length<=b):(Fi rs).length<=b*rs.length+rs.length:=by
 unfold Fi
 have h1:=qS 10 (rs.map fB)
 have h2:=y8 (b:=b) (ps:=rs.map fB) fun p hp=>by
  obtain ⟨r,hr,rfl⟩:=List.mem_map.mp hp
  exact h r hr
 rw[List.length_map]at h1 h2
 omega
theorem pN.ok {s:List Nat} (h:pN s):E_ s:=⟨h.ne,h.lt,by have:=h.sz;omega⟩
theorem jX: ∀{t:Tm},eI t->(∀s∈gE t,pN s)->lg t
 | .walk w,h,_=>⟨h.1,by have:=h.2;omega⟩
 | .name s,_,h=>h s (List.mem_singleton.mpr rfl)
 | .back t,h,g=>jX (t:=t) h g
 | .again k t,h,g=>⟨h.1,jX h.2 g⟩
 | .aS a b,h,g=>⟨jX h.1 fun s hs=>g s (List.mem_append_left _ hs),jX h.2 fun s hs=>g s (List.mem_append_right _ hs)⟩
 | .fr c a b,h,g=>⟨h.1,jX h.2.1 fun s hs=>g s (List.mem_append_left _ hs),jX h.2.2 fun s hs=>g s (List.mem_append_right _ hs)⟩
theorem kP (c:Nat) (y a b:List Nat):bM c y (a++b)=bM c y a++bM c y b:=by unfold bM;rw[List.map_append,List.flatten_append]
theorem CD (c:Nat) (y:List Nat) (d:Nat):bM c y [d]=fu c y d:=by unfold bM;simp
theorem hW (c:Nat) (y:List Nat) (d:Nat) (l:List Nat):bM c y (d::l)=fu c y d++bM c y l:=rfl
theorem CF {c:Nat} {y:List Nat} (hc:Lt c) (hy:AllLt y) {d:Nat} (hd:Lt d):fu c y (dw d)=cR (fu c y d):=by
 have Oa:dw c≠c:=Jt hc
 unfold fu
 by_cases e1:d=c
 ·subst e1
  rw[if_neg Oa,if_pos rfl,if_pos rfl]
 ·by_cases e2:d=dw c
  ·rw[if_neg e1,if_pos e2,e2,gu hc,if_pos rfl,sO hy]
  ·have n1:dw d≠c:=fun z=>e2 (by rw[<-z,gu hd])
   have n2:dw d≠dw c:=fun z=>e1 (by rw[<-gu hd,z,gu hc])
   rw[if_neg n1,if_neg n2,if_neg e1,if_neg e2]
   rfl
theorem y_ {c:Nat} {y:List Nat} (hy:AllLt y) {d:Nat} (hd:Lt d):AllLt (fu c y d):=by
 unfold fu
 split
 ·exact hy
 ·split
  ·exact fun e he=>by
    unfold cR at he
    rw[List.mem_reverse]at he
    obtain ⟨f,hf,rfl⟩:=List.mem_map.mp he
    exact (hy f hf).dw
  ·exact fun e he=>by rw[List.mem_singleton.mp he];exact hd
theorem za {c:Nat} {y:List Nat} (hy:AllLt y): ∀{x:List Nat},AllLt x->AllLt (bM c y x)
 | [],_=>fun d hd=>by simp[bM]at hd
 | d::x,h=>by
  rw[hW]
  exact (y_ hy (h d List.mem_cons_self)).app (za hy fun e he=>h e (List.mem_cons_of_mem _ he))
theorem zb {c:Nat} {z:List Nat} (hc:Lt c) (hz:AllLt z): ∀(t st x y:List Nat),AllLt t->red (x++bM c z (st++t)++y)=red (x++bM c z (t.foldl bS st)++y)
 | [],st,x,y,_=>by rw[List.append_nil];rfl
 | d::t,st,x,y,h=>by
  have hd:Lt d:=h d List.mem_cons_self
  have ht:AllLt t:=fun e he=>h e (List.mem_cons_of_mem _ he)
  rw[List.foldl_cons, <-zb hc hz t (bS st d) x y ht]
  unfold bS
  by_cases e:st.getLast? =some (dw d)
  ·rw[if_pos e]
   obtain ⟨m,rfl⟩:=g_ e
   rw[List.dropLast_concat]
   have hu:=oG (fu c z d) (x++bM c z m) (bM c z t++y) (y_ hz hd)
   have e1:x++bM c z (m++[dw d]++d::t)++y=x++bM c z m++(cR (fu c z d)++fu c z d)++(bM c z t++y):=by
    rw[kP,kP,CD,CF hc hz hd,hW]
    simp only[List.append_assoc]
   rw[e1,hu,kP]
   simp only[List.append_assoc]
  ·rw[if_neg e]
   simp only[List.append_assoc,List.singleton_append]
theorem AM {c:Nat} {z:List Nat} (hc:Lt c) (hz:AllLt z) {t:List Nat} (h:AllLt t):red (bM c z t)=red (bM c z (red t)):=by
 have:red ([]++bM c z ([]++t)++[])=red ([]++bM c z (red t)++[]):=zb hc hz t [] [] [] h
 simpa using this
theorem CG {t:List Nat} (x y:List Nat) (h:AllLt t):red (x++cR t++y)=red (x++cR (red t)++y):=by
 have:red (x++cR ([]++t)++y)=red (x++cR (red t)++y):=jU t [] x y h
 simpa using this
theorem rh {c:Nat} {z:List Nat} (hz:AllLt z): ∀(t x:List Nat),AllLt t->red (x++bM c z t)=red (x++bM c (red z) t)
 | [],x,_=>rfl
 | d::t,x,h=>by
  have ht:AllLt t:=fun e he=>h e (List.mem_cons_of_mem _ he)
  have e1:red (x++fu c z d++bM c z t)=red (x++fu c (red z) d++bM c z t):=by
   unfold fu
   by_cases g1:d=c
   ·rw[if_pos g1,if_pos g1];exact sU x _ hz
   ·rw[if_neg g1,if_neg g1]
    by_cases g2:d=dw c
    ·rw[if_pos g2,if_pos g2];exact CG x _ hz
    ·rw[if_neg g2,if_neg g2]
  rw[hW,hW, <-List.append_assoc, <-List.append_assoc,e1,rh hz t _ ht]
theorem GK {l:List Nat} (h:AllLt l):AllLt (red l):=Ci h
theorem GL {l:List Nat} (h:AllLt l):AllLt (cR l):=fun e he=>by
 unfold cR at he
 rw[List.mem_reverse]at he
 obtain ⟨f,hf,rfl⟩:=List.mem_map.mp he
 exact (h f hf).dw
theorem cw (k:Nat) (l:List Nat):ck (k+1) l=l++ck k l:=by unfold ck;rw[List.replicate_succ];rfl
theorem tH {l:List Nat} (h:AllLt l): ∀k,AllLt (ck k l)
 | 0=>fun e he=>by simp[ck]at he
 | k+1=>by rw[cw];exact h.app (tH h k)
theorem vC {l:List Nat} (h:AllLt l): ∀k,red (ck k (red l))=red (ck k l)
 | 0=>rfl
 | k+1=>by
  rw[cw,cw,lO (red l) (tH (GK h) k),vC h k, <-vg _ h, <-lO _ (tH h k)]
theorem Fq {a b:List Nat} (ha:AllLt a) (hb:AllLt b):red (red a++red b)=red (a++b):=by rw[<-lO _ hb, <-vg _ ha]
theorem Fs {c:Nat} {a b:List Nat} (hc:Lt c) (ha:AllLt a) (hb:AllLt b):red (bM c (red b) (red a))=red (bM c b a):=by
 rw[<-AM hc (GK hb) ha]
 have:=rh (c:=c) hb a [] ha
 simpa using this.symm
noncomputable def ev (kvs:List (List Nat×List Nat)):Tm->List Nat
 | .walk w=>w
 | .name s=>kn kvs s
 | .back t=>cR (ev kvs t)
 | .again k t=>ck k (ev kvs t)
 | .aS a b=>ev kvs a++ev kvs b
 | .fr c a b=>bM c (ev kvs b) (ev kvs a)
noncomputable def KR (kvs:List (List Nat×List Nat)):Prop:= ∀p∈kvs,q8 p.2/\m9 p.2
theorem KR.kn {kvs:List (List Nat×List Nat)} (h:KR kvs) (s:List Nat):AllLt (kn kvs s):=(yX (fun p hp=>(h p hp).1) s).1
theorem kQ {c:Nat} (h:c∈aj):Lt c:= .inl h
theorem iP {kvs:List (List Nat×List Nat)} (hk:KR kvs): ∀{t:Tm},eI t->AllLt (ev kvs t)
 | .walk w,h=>h.1
 | .name s,_=>hk.kn s
 | .back t,h=>GL (iP hk (t:=t) h)
 | .again k t,h=>tH (iP hk h.2) k
 | .aS a b,h=>(iP hk h.1).app (iP hk h.2)
 | .fr c a b,h=>za (iP hk h.2.2) (iP hk h.2.1)
theorem bind_some {α β:Type} {o:Option α} {f:α->Option β} {y:β} (h:o.bind f=some y): ∃x,o=some x/\f x=some y:=by
 cases o with
 | none=>cases h
 | some x=>exact ⟨x,rfl,h⟩
theorem iF {kvs:List (List Nat×List Nat)} (hk:KR kvs): ∀{t:Tm} {x:List Nat},eI t->val kvs t=some x->x=red (ev kvs t)
 | .walk w,x,_,h=>(fz h).1
 | .name s,x,_,h=>(fz h).1
 | .back t,x,ho,h=>by
  obtain ⟨y,e1,e2⟩:=bind_some (show (val kvs t).bind (fun x=>mQ (red (cR x)))=some x from h)
  rw[(fz e2).1,iF hk (t:=t) ho e1, <-E9 (iP hk (t:=t) ho)]
  rfl
 | .again k t,x,ho,h=>by
  obtain ⟨y,e1,e2⟩:=bind_some (show (val kvs t).bind (fun x=>mQ (red (ck k x)))=some x from h)
  rw[(fz e2).1,iF hk ho.2 e1,vC (iP hk ho.2)]
  rfl
 | .aS a b,x,ho,h=>by
  obtain ⟨y,e1,e2⟩:=bind_some (show (val kvs a).bind (fun x=>(val kvs b).bind fun y=>mQ (red (x++y)))=some x from h)
  obtain ⟨z,e3,e4⟩:=bind_some e2
  rw[(fz e4).1,iF hk ho.1 e1,iF hk ho.2 e3,Fq (iP hk ho.1) (iP hk ho.2)]
  rfl
 | .fr c a b,x,ho,h=>by
  obtain ⟨y,e1,e2⟩:=bind_some (show (val kvs a).bind (fun x=>(val kvs b).bind fun y=>mQ (red (bM c y x)))=some x from h)
  obtain ⟨z,e3,e4⟩:=bind_some e2
  rw[(fz e4).1,iF hk ho.2.1 e1,iF hk ho.2.2 e3,Fs (kQ ho.1) (iP hk ho.2.1) (iP hk ho.2.2)]
  rfl
theorem fE {kvs kvs':List (List Nat×List Nat)}: ∀{t:Tm},(∀s∈gE t,kn kvs s=kn kvs' s)->ev kvs t=ev kvs' t
 | .walk w,_=>rfl
 | .name s,h=>h s (List.mem_singleton.mpr rfl)
 | .back t,h=>by show cR (ev kvs t)=cR (ev kvs' t);rw[fE (t:=t) h]
 | .again k t,h=>by show ck k (ev kvs t)=ck k (ev kvs' t);rw[fE (t:=t) h]
 | .aS a b,h=>by
  show ev kvs a++ev kvs b=ev kvs' a++ev kvs' b
  rw[fE fun s hs=>h s (List.mem_append_left _ hs),fE fun s hs=>h s (List.mem_append_right _ hs)]
 | .fr c a b,h=>by
  show bM c (ev kvs b) (ev kvs a)=bM c (ev kvs' b) (ev kvs' a)
  rw[fE fun s hs=>h s (List.mem_append_left _ hs),fE fun s hs=>h s (List.mem_append_right _ hs)]
inductive cY (known:List (List Nat)) (c:Nat):Tm->Tm->Prop
 | p0 {x:List Nat}:x∈known->cY known c (.name x) (.back (.back (.name x)))
 | p1 {x y:List Nat}:x∈known->y∈known->cY known c (.back (.aS (.name x) (.name y))) (.aS (.back (.name y)) (.back (.name x)))
 | p2 {x:List Nat}:x∈known->cY known c (.again 3 (.name x)) (.aS (.name x) (.aS (.name x) (.name x)))
 | p3 {x y z:List Nat}:x∈known->y∈known->z∈known->cY known c (.fr c (.aS (.name x) (.name y)) (.name z)) (.aS (.fr c (.name x) (.name z)) (.fr c (.name y) (.name z)))
 | p4 {x:List Nat}:x∈known->cY known c (.fr c (.name x) (.walk [c])) (.name x)
 | p5 {x:List Nat}:x∈known->cY known c (.aS (.name x) (.back (.name x))) (.walk [])
theorem rj {c:Nat} (hc:Lt c): ∀{x:List Nat},AllLt x->bM c [c] x=x
 | [],_=>rfl
 | d::x,h=>by
  rw[hW,rj hc fun e he=>h e (List.mem_cons_of_mem _ he)]
  unfold fu
  by_cases g1:d=c
  ·rw[if_pos g1,g1];rfl
  ·rw[if_neg g1]
   by_cases g2:d=dw c
   ·rw[if_pos g2,g2];rfl
   ·rw[if_neg g2];rfl
theorem cY.ev {known:List (List Nat)} {c:Nat} {t1 t2:Tm} {kvs:List (List Nat×List Nat)} (hk:KR kvs) (hc:c∈aj) (h:cY known c t1 t2):red (ev kvs t1)=red (ev kvs t2):=by
 have hl:=kQ hc
 cases h with
 | p0 hx=>show red (kn kvs _)=red (cR (cR (kn kvs _)));rw[sO (hk.kn _)]
 | p1 hx hy=>show red (cR (kn kvs _++kn kvs _))=red (cR (kn kvs _)++cR (kn kvs _));rw[sN]
 | p2 hx=>show red (ck 3 (kn kvs _))=red (kn kvs _++(kn kvs _++kn kvs _));rw[cw,cw,cw];simp[ck]
 | p3 hx hy hz=>show red (bM c (kn kvs _) (kn kvs _++kn kvs _))=red (bM c (kn kvs _) (kn kvs _)++bM c (kn kvs _) (kn kvs _));rw[kP]
 | p4 hx=>show red (bM c [c] (kn kvs _))=red (kn kvs _);rw[rj hl (hk.kn _)]
 | p5 hx=>
  rename_i x
  show red (kn kvs x++cR (kn kvs x))=red []
  have:=oG (cR (kn kvs x)) [] [] (GL (hk.kn x))
  rw[sO (hk.kn x)]at this
  simpa using this
theorem cY.ok {known:List (List Nat)} {c:Nat} {t1 t2:Tm} (hc:c∈aj) (h:cY known c t1 t2):eI t1/\eI t2/\dep t1<=3/\dep t2<=3/\(∀s∈gE t1,s∈known)/\ ∀s∈gE t2,s∈known:=by
 have hl:=kQ hc
 cases h with
 | p0 hx=>exact ⟨trivial,trivial,Nat.le_of_ble_eq_true rfl,Nat.le_of_ble_eq_true rfl,fun s hs=>by rw[List.mem_singleton.mp hs];exact hx,fun s hs=>by rw[List.mem_singleton.mp hs];exact hx⟩
 | p1 hx hy=>
  refine ⟨⟨trivial,trivial⟩,⟨trivial,trivial⟩,Nat.le_of_ble_eq_true rfl,Nat.le_of_ble_eq_true rfl,fun s hs=>?_,fun s hs=>?_⟩<;>rcases List.mem_append.mp hs with z | z<;>rw[List.mem_singleton.mp z]<;>assumption
 | p2 hx=>
  refine ⟨⟨by decide,trivial⟩,⟨trivial,trivial,trivial⟩,Nat.le_of_ble_eq_true rfl,Nat.le_of_ble_eq_true rfl,fun s hs=>by rw[List.mem_singleton.mp hs];exact hx,fun s hs=>?_⟩
  have iS:s∈[_]++([_]++[_]):=hs
  simp at iS
  rw[iS];exact hx
 | p3 hx hy hz=>
  refine ⟨⟨hc,⟨trivial,trivial⟩,trivial⟩,⟨⟨hc,trivial,trivial⟩,hc,trivial,trivial⟩,Nat.le_of_ble_eq_true rfl,Nat.le_of_ble_eq_true rfl,fun s hs=>?_,fun s hs=>?_⟩
  ·have iS:s∈([_]++[_])++[_]:=hs
   simp at iS
   rcases iS with z | z | z<;>rw[z]<;>assumption
  ·have iS:s∈([_]++[_])++([_]++[_]):=hs
   simp at iS
   rcases iS with z | z | z | z<;>rw[z]<;>assumption
 | p4 hx=>
  refine ⟨⟨hc,trivial,fun d hd=>by rw[List.mem_singleton.mp hd];exact hl,Nat.le_of_ble_eq_true rfl⟩,trivial,Nat.le_of_ble_eq_true rfl,Nat.le_of_ble_eq_true rfl,fun s hs=>?_,fun s hs=>by rw[List.mem_singleton.mp hs];exact hx⟩
  rcases List.mem_append.mp hs with z | z
  ·rw[List.mem_singleton.mp z];exact hx
  ·cases z
 | p5 hx=>
  refine ⟨⟨trivial,trivial⟩,⟨by simp,by decide⟩,Nat.le_of_ble_eq_true rfl,Nat.le_of_ble_eq_true rfl,fun s hs=>?_,fun s hs=>by cases hs⟩
  rcases List.mem_append.mp hs with z | z<;>rw[List.mem_singleton.mp z]<;>assumption
theorem oW: ∀(A B:List (List Nat×Tm)) (kvs:List (List Nat×List Nat)),dI kvs (A++B)=match dI kvs A with | .inl nm=> .inl nm | .inr kvs'=>dI kvs' B
 | [],B,kvs=>rfl
 |(nm,t)::A,B,kvs=>by
  show (match val kvs t with | none=>(Sum.inl nm:Sum (List Nat) (List (List Nat×List Nat))) | some x=>dI (kvs++[(nm,x)]) (A++B))=match (match val kvs t with | none=>(Sum.inl nm:Sum (List Nat) (List (List Nat×List Nat))) | some x=>dI (kvs++[(nm,x)]) A) with | .inl nm=>Sum.inl nm | .inr kvs'=>dI kvs' B
  cases val kvs t with
  | none=>rfl
  | some x=>exact oW A B _
theorem hZ {nm:List Nat} {t:Tm} {B:List (List Nat×Tm)} {kvs vD:List (List Nat×List Nat)} (h:dI kvs ((nm,t)::B)= .inr vD): ∃x,val kvs t=some x/\dI (kvs++[(nm,x)]) B= .inr vD:=by
 have h':(match val kvs t with | none=>(Sum.inl nm:Sum (List Nat) (List (List Nat×List Nat))) | some x=>dI (kvs++[(nm,x)]) B)= .inr vD:=h
 cases e:val kvs t with
 | none=>rw[e]at h';cases h'
 | some x=>rw[e]at h';exact ⟨x,rfl,h'⟩
theorem KR.snoc {kvs:List (List Nat×List Nat)} {t:Tm} {nm x:List Nat} (h:KR kvs) (ho:eI t) (hv:val kvs t=some x):KR (kvs++[(nm,x)]):=fun p hp=>by
 rcases List.mem_append.mp hp with z | z
 ·exact h p z
 ·rw[List.mem_singleton.mp z]
  exact ⟨iD (fun p hp=>(h p hp).1) t ho hv,by rw[iF h ho hv];exact E8 _⟩
theorem nj: ∀{A:List (List Nat×Tm)} {kvs vD:List (List Nat×List Nat)},KR kvs->(∀r∈A,eI r.2)->dI kvs A= .inr vD->KR vD/\ ∃l,vD=kvs++l/\l.map (·.1)=A.map (·.1)
 | [],kvs,vD,h,_,e=>by cases e;exact ⟨h,[],by simp,rfl⟩
 |(nm,t)::A,kvs,vD,h,ho,e=>by
  obtain ⟨x,e1,e2⟩:=hZ e
  have h1:=ho (nm,t) List.mem_cons_self
  obtain ⟨g1,l,g2,g3⟩:=nj (h.snoc (nm:=nm) h1 e1) (fun r hr=>ho r (List.mem_cons_of_mem _ hr)) e2
  exact ⟨g1,(nm,x)::l,by rw[g2];simp,by simp[g3]⟩
theorem Ft {kvs:List (List Nat×List Nat)} {s nm x:List Nat} (h:s∈kvs.map (·.1)):kn (kvs++[(nm,x)]) s=kn kvs s:=by
 unfold kn
 induction kvs with
 | nil=>cases h
 | cons p r ih=>
  obtain ⟨a,b⟩:=p
  show (List.lookup s ((a,b)::(r++[(nm,x)]))).getD []=_
  rw[List.lookup_cons,List.lookup_cons]
  cases e:s==a with
  | true=>rfl
  | false=>
   have:s≠a:=by simpa using e
   rcases List.mem_cons.mp h with z | z
   ·exact absurd z this
   ·exact ih z
theorem zc {known:List (List Nat)} {c:Nat} {t1 t2:Tm} {kvs:List (List Nat×List Nat)} {n1 x1 x2:List Nat} (hk:KR kvs) (hc:c∈aj) (h:cY known c t1 t2) (hn: ∀s∈known,s∈kvs.map (·.1)) (e1:val kvs t1=some x1) (e2:val (kvs++[(n1,x1)]) t2=some x2):x1=x2:=by
 obtain ⟨o1,o2,_,_,m1,m2⟩:=h.ok hc
 have me:=hk.snoc (nm:=n1) o1 e1
 rw[iF hk o1 e1,iF me o2 e2,h.ev hk hc,fE (kvs:=kvs++[(n1,x1)]) (kvs':=kvs) fun s hs=>Ft (hn s (m2 s hs))]
noncomputable def jP:Tm->PyData
 | .walk w=> .tuple [.str (S dA), .str (S w)]
 | .name s=> .tuple [.str (S dN), .str (S s)]
 | .back t=> .tuple [.str (S bT),jP t]
 | .again k t=> .tuple [.str (S bH), .int k,jP t]
 | .aS a b=> .tuple [.str (S bU),jP a,jP b]
 | .fr c a b=> .tuple [.str (S kFor), .str (S [c]),jP a,jP b]
theorem oX {K:PySem.W.Frag} {H:Hp}: ∀{t:Tm} {a:Addr},bA H a t->uC K H (.ref a) (jP t)
 | .walk w,a,h=> .tup (bp.of h) (.cons (.str _) (.cons (.str _) .nil))
 | .name s,a,h=> .tup (bp.of h) (.cons (.str _) (.cons (.str _) .nil))
 | .back t,a,⟨b,h,g⟩=> .tup (bp.of h) (.cons (.str _) (.cons (oX g) .nil))
 | .again k t,a,⟨b,h,g⟩=> .tup (bp.of h) (.cons (.str _) (.cons (.int _) (.cons (oX g) .nil)))
 | .aS x y,a,⟨b,c,h,g1,g2⟩=> .tup (bp.of h) (.cons (.str _) (.cons (oX g1) (.cons (oX g2) .nil)))
 | .fr l x y,a,⟨b,c,h,g1,g2⟩=> .tup (bp.of h) (.cons (.str _) (.cons (.str _) (.cons (oX g1) (.cons (oX g2) .nil))))
theorem rl:PyData.strOk (S dA)=true/\PyData.strOk (S dN)=true/\PyData.strOk (S bT)=true/\PyData.strOk (S bH)=true/\PyData.strOk (S bU)=true/\PyData.strOk (S kFor)=true:=⟨fo (by decide),fo (by decide),fo (by decide),fo (by decide),fo (by decide),fo (by decide)⟩
theorem jY: ∀{t:Tm},lg t->PyData.canLay0 (jP t)=true
 | .walk w,h=>by
  show (PyData.strOk (S dA)&&(PyData.strOk (S w)&&true))=true
  rw[rl.1,fo fun c hc=>(h.1 c hc).lt];rfl
 | .name s,h=>by
  show (PyData.strOk (S dN)&&(PyData.strOk (S s)&&true))=true
  rw[rl.2.1,fo h.kD];rfl
 | .back t,h=>by
  show (PyData.strOk (S bT)&&(PyData.canLay0 (jP t)&&true))=true
  rw[rl.2.2.1,jY (t:=t) h];rfl
 | .again k t,h=>by
  show (PyData.strOk (S bH)&&(PyData.canLay0 (.int k)&&(PyData.canLay0 (jP t)&&true)))=true
  rw[rl.2.2.2.1,jY h.2];rfl
 | .aS a b,h=>by
  show (PyData.strOk (S bU)&&(PyData.canLay0 (jP a)&&(PyData.canLay0 (jP b)&&true)))=true
  rw[rl.2.2.2.2.1,jY h.1,jY h.2];rfl
 | .fr c a b,h=>by
  show (PyData.strOk (S kFor)&&(PyData.strOk (S [c])&&(PyData.canLay0 (jP a)&&(PyData.canLay0 (jP b)&&true))))=true
  rw[rl.2.2.2.2.2,fo (l:=[c]) fun d hd=>by rw[List.mem_singleton.mp hd];exact (kQ h.1).lt,jY h.2.1,jY h.2.2];rfl
theorem iG: ∀t:Tm,(jP t).hasDict=false
 | .walk w=>rfl
 | .name s=>rfl
 | .back t=>by show (false||((jP t).hasDict||false))=false;rw[iG t];rfl
 | .again k t=>by show (false||(false||((jP t).hasDict||false)))=false;rw[iG t];rfl
 | .aS a b=>by show (false||((jP a).hasDict||((jP b).hasDict||false)))=false;rw[iG a,iG b];rfl
 | .fr c a b=>by show (false||(false||((jP a).hasDict||((jP b).hasDict||false))))=false;rw[iG a,iG b];rfl
theorem jZ: ∀{t:Tm} {n:Nat},dep t<=n->(jP t).depth<=n
 | .walk w,n,h=>h
 | .name s,n,h=>h
 | .back t,n,h=>by
  have h':dep t+1<=n:=h
  have i:=jZ (t:=t) (Nat.le_refl _)
  show max 0 (max (jP t).depth 0)+1<=n
  omega
 | .again k t,n,h=>by
  have h':dep t+1<=n:=h
  have i:=jZ (t:=t) (Nat.le_refl _)
  show max 0 (max 0 (max (jP t).depth 0))+1<=n
  omega
 | .aS a b,n,h=>by
  have h':max (dep a) (dep b)+1<=n:=h
  have i:=jZ (t:=a) (Nat.le_refl _)
  have j:=jZ (t:=b) (Nat.le_refl _)
  show max 0 (max (jP a).depth (max (jP b).depth 0))+1<=n
  omega
 | .fr c a b,n,h=>by
  have h':max (dep a) (dep b)+1<=n:=h
  have i:=jZ (t:=a) (Nat.le_refl _)
  have j:=jZ (t:=b) (Nat.le_refl _)
  show max 0 (max 0 (max (jP a).depth (max (jP b).depth 0)))+1<=n
  omega
noncomputable def Fu (r:List Nat×Tm):PyData:= .tuple [.str (S r.1),jP r.2]
noncomputable def OG (rs:List (List Nat×Tm)):PyData:= .tuple (rs.map Fu)
theorem zd {K:PySem.W.Frag} {H:Hp}: ∀{ks:List Rw},(∀k∈ks,GJ H k)->i4 K H (jN ks) ((jW ks).map Fu)
 | [],_=> .nil
 | k::ks,h=> .cons (.tup (bp.of (h k List.mem_cons_self).tp) (.cons (.str _) (.cons (oX (h k List.mem_cons_self).tm) .nil))) (zd fun k' hk=>h k' (List.mem_cons_of_mem _ hk))
theorem GN {K:PySem.W.Frag} {H:Hp} {p:Addr} {ks:List Rw} (h:Cv H p ks):uC K H (.ref p) (OG (jW ks)):= .tup (bp.of h.tp) (zd h.rw)
theorem oY {H:Hp}: ∀{ks:List Rw},(∀k∈ks,GJ H k)->PyData.canLayAll0 ((jW ks).map Fu)=true
 | [],_=>rfl
 | k::ks,h=>by
  show ((PyData.strOk (S k.nm)&&(PyData.canLay0 (jP k.t)&&true))&&PyData.canLayAll0 ((jW ks).map Fu))=true
  rw[oY fun k' hk=>h k' (List.mem_cons_of_mem _ hk),jY (h k List.mem_cons_self).tf,fo (h k List.mem_cons_self).nf.kD]
  rfl
theorem rm: ∀rs:List (List Nat×Tm),PyData.hasDictAll (rs.map Fu)=false
 | []=>rfl
 | r::rs=>by
  show ((false||((jP r.2).hasDict||false))||PyData.hasDictAll (rs.map Fu))=false
  rw[rm rs,iG];rfl
theorem vE {H:Hp}: ∀{ks:List Rw},(∀k∈ks,GJ H k)->PyData.depthAll ((jW ks).map Fu)<=9
 | [],_=>Nat.zero_le _
 | k::ks,h=>by
  have i:=vE fun k' hk=>h k' (List.mem_cons_of_mem _ hk)
  have j:=jZ (h k List.mem_cons_self).dp
  show max (max 0 (max (jP k.t).depth 0)+1) (PyData.depthAll ((jW ks).map Fu))<=9
  omega
theorem CH {H:Hp} {p:Addr} {ks:List Rw} (h:kH H p ks):mr [] (Jw ks)=none:=by
 have key: ∀(n i:Nat),ks.length - i=n->i<=ks.length->mr (cA (ks.take i)) (Jw (ks.drop i))=none:=by
  intro n
  induction n with
  | zero=>
   intro i hi hl
   rw[List.drop_of_length_le (by omega)]
   rfl
  | succ n ih=>
   intro i hi hl
   have cG:i<ks.length:=by omega
   have hk:=List.getElem?_eq_getElem cG
   rw[oI ks i ks[i] _ hk,mv (Cq hk h.nd) (h.AF i ks[i] hk)]
   have e:cA (ks.take i)++[ks[i].nm]=cA (ks.take (i+1)):=by rw[<-take_snoc hk];unfold cA;rw[List.map_append];rfl
   rw[e]
   exact ih (i+1) (by omega) (by omega)
 exact key ks.length 0 rfl (Nat.zero_le _)
noncomputable def rn (_:PySem.W.Frag):Sp:=fun vs H Q _=> ∃(b:Addr) (m:Nat),vs=[.ref b, .int m]/\bw H b/\m<=12/\ ∀(q:Addr) (ns:List (List Nat)) H',H q=none->q≠b->H' q=some (.lst (bz ns))->ns.length=m->(∀s∈ns,pN s)->ns.Nodup->bw H' b->aD b H H'->Q (.ref q) H'
theorem xu {K:PySem.W.Frag} {vs:List V} {H:Hp} {Q:VK} {E:XK} (h:rn K vs H Q E):vs.length=2:=by obtain ⟨a,t,rfl,_⟩:=h;rfl
noncomputable def iQ (_:PySem.W.Frag):Sp:=fun vs H Q _=> ∃(p:Addr) (ks:List Rw),vs=[.ref p]/\oH H p ks/\mr [] (Jw ks)=none/\ ∀H',ar H H'->Q (.bl true) H'
theorem lU {K:PySem.W.Frag} {vs:List V} {H:Hp} {Q:VK} {E:XK} (h:iQ K vs H Q E):vs.length=1:=by obtain ⟨a,t,rfl,_⟩:=h;rfl
noncomputable def mz (_:PySem.W.Frag):Sp:=fun vs H Q _=> ∃b:Addr,vs=[.ref b, .int 3, .int 9]/\bw H b/\ ∀(p:Addr) (ks:List Rw) H',kH H' p ks->(∀k∈ks,pN k.nm)->1<=ks.length->ks.length<=3->bw H' b->aD b H H'->Q (.ref p) H'
theorem tI {K:PySem.W.Frag} {vs:List V} {H:Hp} {Q:VK} {E:XK} (h:mz K vs H Q E):vs.length=3:=by obtain ⟨a,rfl,_⟩:=h;rfl
noncomputable def vF (_:PySem.W.Frag):Sp:=fun vs H Q _=> ∃(b kp:Addr) (known:List (List Nat)) (c:Nat),vs=[.ref b, .ref kp, .str (S [c])]/\bw H b/\kp≠b/\H kp=some (.lst (bz known))/\1<=known.length/\known.length<=12/\c∈aj/\
 ∀(q a1 a2:Addr) (t1 t2:Tm) H',H' q=some (.lst [.ref a1, .ref a2])->q≠b->bA H' a1 t1->bA H' a2 t2->cY known c t1 t2->bw H' b->aD b H H'->Q (.ref q) H'
theorem AN {K:PySem.W.Frag} {vs:List V} {H:Hp} {Q:VK} {E:XK} (h:vF K vs H Q E):vs.length=3:=by obtain ⟨_,_,_,_,rfl,_⟩:=h;rfl
noncomputable def AO (H:Hp) (q:Addr) (A:List (List Nat×Tm)):Prop:=(∃kvs,dI [] A= .inr kvs/\H q=some (.lst (bz (kvs.map (·.2)))))\/ ∃nm,dI [] A= .inl nm/\H q=some (.tup [.str (S kI), .str (S nm)])
theorem AO.same {H H':Hp} {q:Addr} {A:List (List Nat×Tm)} (h:AO H q A) (s:ar H H'):AO H' q A:=by
 rcases h with ⟨kvs,e,g⟩ | ⟨nm,e,g⟩
 ·exact .inl ⟨kvs,e,s _ _ g⟩
 ·exact .inr ⟨nm,e,s _ _ g⟩
noncomputable def Wm (H:Hp) (l:Addr):Prop:= ∃L:List Nat,H l=some (.lst (cI L))/\L≠[]/\L.length<=1000/\ ∀c∈L,c∈aj
theorem AQ: ∀c∈iC,PyProof.Rows.lo1 c∈aj:=by decide+kernel
theorem GO: ∀{kvs:List (List Nat×List Nat)},KR kvs->((kvs.map (·.2)).map List.length).sum<=60*kvs.length
 | [],_=>Nat.zero_le _
 | p::r,h=>by
  have h1:=(h p List.mem_cons_self).1.2
  have ih:=GO (kvs:=r) fun x hx=>h x (List.mem_cons_of_mem _ hx)
  rw[List.map_cons,List.map_cons,List.sum_cons,List.length_cons]
  omega
theorem vG: ∀ls:List (List Nat),ls.flatten.length=(ls.map List.length).sum
 | []=>rfl
 | l::ls=>by rw[List.flatten_cons,List.length_append,vG ls,List.map_cons,List.sum_cons]
theorem ze {kvs:List (List Nat×List Nat)} (h:KR kvs): ∀c∈(kvs.map (·.2)).flatten,Lt c:=fun c hc=>by
 obtain ⟨l,hl,hc⟩:=List.mem_flatten.mp hc
 obtain ⟨p,hp,rfl⟩:=List.mem_map.mp hl
 exact (h p hp).1.1 c hc
theorem QJ:KR []:=fun p hp=>by cases hp
theorem tJ {H:Hp} {p:Addr} {ks:List Rw} (h:kH H p ks): ∀r∈lR ks,eI r.2:=fun r hr=>by
 obtain ⟨k,hk,rfl⟩:=List.mem_map.mp hr
 exact h.ok k hk
theorem AR (ks:List Rw):(lR ks).map (·.1)=cA ks:=by unfold lR cA;rw[List.map_map];rfl
theorem CI {K N:List (List Nat)} (hn:N.Nodup):N.length<=(N.filter fun s=>decide (s∉K)).length+K.length:=by
 have h1:(N.filter fun s=>decide (s∈K)).length<=K.length:=by
  have hf:(N.filter fun s=>decide (s∈K)).Nodup:=hn.filter _
  exact hf.length_le_of_subset fun x hx=>of_decide_eq_true (List.mem_filter.mp hx).2
 have h2: ∀l:List (List Nat),l.length=(l.filter fun s=>decide (s∈K)).length+(l.filter fun s=>!decide (s∈K)).length:=by
  intro l
  induction l with
  | nil=>rfl
  | cons x l ih=>
   by_cases g:x∈K
   ·simp only[List.filter_cons,g,decide_true,if_true,Bool.not_true,Bool.false_eq_true,if_false,List.length_cons];omega
   ·simp only[List.filter_cons,g,decide_false,Bool.false_eq_true,if_false,Bool.not_false,if_true,List.length_cons];omega
 have h3:=h2 N
 have e:(N.filter fun s=>decide (s∉K))=N.filter fun s=>!decide (s∈K):=List.filter_congr fun s _=>by simp
 rw[e]
 omega
theorem rq {N:List (List Nat)} {f:List Nat->Bool} {j:Nat} {s:List Nat} (h:N[j]? =some s):(N.take (j+1)).filter f=(N.take j).filter f++if f s=true then [s] else []:=by
 rw[<-take_snoc h,List.filter_append]
 congr 1
 by_cases g:f s=true
 ·rw[if_pos g,List.filter_cons_of_pos g];rfl
 ·rw[if_neg g,List.filter_cons_of_neg g];rfl
theorem M0 {H:Hp} {fq b:Addr} {A:List (List Nat×Tm)} (h:AO H fq A) (hb:bw H b):fq≠b:=by
 rintro rfl
 obtain ⟨x,y,g⟩:=hb
 rcases h with ⟨kvs,_,e⟩ | ⟨nm,_,e⟩
 ·rw[g]at e
  have e2:=HO.lst.inj (Option.some.inj e)
  cases hk:kvs.map (·.2) with
  | nil=>rw[hk]at e2;cases e2
  | cons w r=>rw[hk]at e2;cases e2
 ·rw[g]at e;cases e
theorem zf (a b:List Rw):cA (a++b)=cA a++cA b:=by unfold cA;rw[List.map_append]
theorem Fw (a b:List Rw):lR (a++b)=lR a++lR b:=by unfold lR;rw[List.map_append]
theorem Fx (a b:List Rw):jN (a++b)=jN a++jN b:=by unfold jN;rw[List.map_append]
theorem Fy {H H':Hp} {p mp:Addr} {ks k2:List Rw} (h:kH H p ks) (s:bq H H') (hm:H' mp=some (.tup (jN (ks++k2)))) (h2: ∀k∈k2,AA H' k/\eI k.t/\ ∀s∈gE k.t,s∈cA ks) (Zb:(cA k2).Nodup) (dj: ∀s∈cA k2,s∉cA ks) (hl:ks.length+k2.length<=8):kH H' mp (ks++k2) where
 at_:=⟨hm,fun k hk=>(List.mem_append.mp hk).elim (fun z=>(h.at_.rw k z).ts s) fun z=>(h2 k z).1,by rw[List.length_append];exact hl⟩
 ok:=fun k hk=>(List.mem_append.mp hk).elim (fun z=>h.ok k z) fun z=>(h2 k z).2.1
 nd:=by
  rw[zf]
  exact List.nodup_append.mpr ⟨h.nd,Zb,fun x hx y hy e=>dj y hy (e▸hx)⟩
 AF:=fun i k hk s hs=>by
  by_cases g:i<ks.length
  ·rw[List.getElem?_append_left g]at hk
   rw[List.take_append_of_le_length (Nat.le_of_lt g)]
   exact h.AF i k hk s hs
  ·have me:k∈k2:=by
    rw[List.getElem?_append_right (by omega)]at hk
    exact List.mem_of_getElem? hk
   rw[List.take_append,List.take_of_length_le (by omega),zf]
   exact List.mem_append_left _ ((h2 k me).2.2 s hs)
theorem JC {H:Hp} {mp:Addr} {ks:List Rw} (h:kH H mp ks) (hn: ∀k∈ks,pN k.nm) (ne:ks≠[]):Cv H mp ks where
 tp:=h.at_.tp
 rw:=fun k hk=>by
  obtain ⟨i,hi⟩:=List.getElem?_of_mem hk
  refine ⟨(h.at_.rw k hk).tp,(h.at_.rw k hk).tm,(h.at_.rw k hk).dp,hn k hk,jX (h.ok k hk) fun s hs=>?_⟩
  have hm:=h.AF i k hi s hs
  unfold cA at hm
  obtain ⟨k',Ki,rfl⟩:=List.mem_map.mp hm
  exact hn k' (List.mem_of_mem_take Ki)
 ne:=ne
 fw:=by have:=h.at_.fw;omega
theorem Fz {ks:List Rw} {n1 n2 n3 n4:List Nat} {t1 t2 t3 t4:Tm} {c:Nat} {vD:List (List Nat×List Nat)} (ho: ∀r∈lR ks,eI r.2) (hc:c∈aj) (ql:cY (cA ks) c t1 t2) (wX:cY (cA ks) c t3 t4)
  (e:dI [] (lR ks++[(n1,t1),(n2,t2),(n3,t3),(n4,t4)])= .inr vD): ∃kvs x y,dI [] (lR ks)= .inr kvs/\vD.map (·.2)=kvs.map (·.2)++[x,x,y,y]/\kvs.length=ks.length/\KR vD:=by
 rw[oW]at e
 cases er:dI [] (lR ks) with
 | inl nm=>rw[er]at e;cases e
 | inr kvs=>
  rw[er]at e
  have e':dI kvs [(n1,t1),(n2,t2),(n3,t3),(n4,t4)]= .inr vD:=e
  obtain ⟨hK,l,el,en⟩:=nj QJ ho er
  have Zc:kvs=l:=by simpa using el
  have ek:kvs.map (·.1)=cA ks:=by rw[Zc,en,AR]
  obtain ⟨x1,v1,e1⟩:=hZ e'
  obtain ⟨x2,v2,e2⟩:=hZ e1
  obtain ⟨x3,v3,e3⟩:=hZ e2
  obtain ⟨x4,v4,e4⟩:=hZ e3
  have e5:vD=kvs++[(n1,x1)]++[(n2,x2)]++[(n3,x3)]++[(n4,x4)]:=(Sum.inr.inj e4).symm
  obtain ⟨o1,o2,_⟩:=ql.ok hc
  obtain ⟨o3,o4,_⟩:=wX.ok hc
  have K1:=hK.snoc (nm:=n1) o1 v1
  have K2:=K1.snoc (nm:=n2) o2 v2
  have K3:=K2.snoc (nm:=n3) o3 v3
  have K4:=K3.snoc (nm:=n4) o4 v4
  have q1:x1=x2:=zc hK hc ql (fun s hs=>by rw[ek];exact hs) v1 v2
  have q2:x3=x4:=zc K2 hc wX (fun s hs=>by rw[List.map_append,List.map_append,ek];exact List.mem_append_left _ (List.mem_append_left _ hs)) v3 v4
  refine ⟨kvs,x1,x3,rfl,?_,?_,by rw[e5];exact K4⟩
  ·rw[e5, <-q1, <-q2];simp
  ·have:=congrArg List.length ek
   rw[List.length_map]at this
   rw[this];unfold cA;rw[List.length_map]
theorem JD (ns:List (List Nat)) (i:Nat):ka (bz ns) (some (i:Int)) none=bz (ns.drop i):=by
 have e:ka (bz ns) (some (i:Int)) none=cut (bz ns) (some (i:Int)) none:=rfl
 rw[e,i_];unfold bz;rw[List.map_drop]
theorem JE {kvs:List (List Nat×List Nat)} (h:KR kvs): ∀l∈kvs.map (·.2), ∀c∈l,c<128:=fun l hl c hc=>by
 obtain ⟨p,hp,rfl⟩:=List.mem_map.mp hl
 exact ((h p hp).1.1 c hc).lt
theorem FA (ws:List (List Nat)):PyData.eqv (.list (pM ws)) (.list (pM ws))=true:=eqv_refl (.list (pM ws)) (by show PyData.hasDictAll (pM _)=false;exact jV _)
noncomputable def top (i:Nat):Stmt:=PySem.Challenge.pw_mustmeet_k62_whole_programs_told_otherwi.main.body.getD i (.Pass ⟨0,0,0,0⟩)
noncomputable abbrev dc:Stmt:=top 10
noncomputable abbrev eW:Stmt:=top 11
noncomputable abbrev dS:Stmt:=top 12
noncomputable abbrev h_:Stmt:=top 13
noncomputable abbrev de:Stmt:=top 15
noncomputable abbrev dU:Stmt:=top 18
noncomputable abbrev dW:Stmt:=top 19
noncomputable abbrev bZ:Stmt:=top 20
noncomputable abbrev eX:Stmt:=top 21
noncomputable abbrev eY:Stmt:=top 22
noncomputable abbrev e_:Stmt:=top 23
noncomputable abbrev ic:Stmt:=top 24
noncomputable abbrev df:Stmt:=top 30
noncomputable abbrev b_:Stmt:=top 31
noncomputable abbrev cx:Stmt:=top 32
noncomputable abbrev dh:Stmt:=top 33
noncomputable abbrev dk:Stmt:=top 34
noncomputable abbrev dm:Stmt:=top 35
noncomputable abbrev dn:Stmt:=top 36
noncomputable abbrev cK:Stmt:=top 37
noncomputable abbrev dq:Stmt:=top 38
noncomputable abbrev dr:Stmt:=top 39
noncomputable abbrev dX:Stmt:=top 40
noncomputable abbrev cb:Stmt:=top 41
noncomputable abbrev lV:Stmt:=top 43
noncomputable abbrev jx:Stmt:=top 44
noncomputable abbrev ie:Stmt:=top 46
noncomputable abbrev jy:Stmt:=top 47
noncomputable abbrev jz:Stmt:=top 48
noncomputable abbrev jA:Stmt:=top 49
noncomputable abbrev dY:Stmt:=top 50
noncomputable abbrev jB:Stmt:=top 51
noncomputable abbrev jC:Stmt:=top 52
noncomputable abbrev rA:Stmt:=top 53
structure bK (K:PySem.W.Frag) (mg:Str->Option Value) (x:Str) (st:Stmt) (ps:List Str) (f:Addr) (fd:FuncData):Prop where
 fn:DR K x x st f fd
 mg:mg x=some (.ref f)
 bd:Binds K fd ps []
noncomputable abbrev dt:Stmt:=Yp (top 5) 0
noncomputable def dZ:List (Key×V):=[(Sum.inr (S [116,104,101,110]), .int 2),(Sum.inr (S [98,97,99,107]), .int 1),(Sum.inr (S [97,103,97,105,110]), .int 1),(Sum.inr (S [102,111,114]), .int 2)]
noncomputable def eJ:List (Key×V):=[(Sum.inr (S [97,103,97,105,110]), .str (S [48,49,50,51,52,53,54])),(Sum.inr (S [102,111,114]), .str (S [97,98,99,100,101,102,103,104,105,106,107,108,109,110,111,112,113,114,115,116,117,118,119,120,121,122]))]
structure Txt (P:Program) (w:World) (K:PySem.W.Frag) (mg:Str->Option Value) (f0 f1 f2 f3 f4 f5 f6 f7 f8 f9 eR fF eS fG fH fI fJ fK fL fM fN eN fO fP fQ fR fS fT fU eU fV fW fX fZ aq ak ax ay aG:Addr) (d0 d1 d2 d3 d4 d5 d6 d7 d8 d9 gi gF gj gG gH gI gJ gK gL gM gN f_ gO gP gQ gR gS gT gU gk gW gX gY gZ aB:FuncData):Prop where
 F0:bK K mg "is_letter" dc ["sign"] f0 d0
 F1:bK K mg "is_name" eW ["text"] f1 d1
 F2:bK K mg "contrary" dS ["letter"] f2 d2
 F3:bK K mg "turned" h_ ["word"] f3 d3
 F4:bK K mg "shortened" de ["word"] f4 d4
 F5:bK K mg "terms_in" dU ["term"] f5 d5
 F6:bK K mg "names_in" dW ["term"] f6 d6
 F7:bK K mg "look_program" bZ ["program"] f7 d7
 F8:bK K mg "put_for" eX ["letter","word","other"] f8 d8
 F9:bK K mg "made_of" eY ["term","words","known"] f9 d9
 Df:bK K mg "word_of" e_ ["name","term","known"] eR gi
 JF:bK K mg "worked" ic ["program"] fF gF
 Dg:bK K mg "term_text" df ["term"] eS gj
 JG:bK K mg "show_program" b_ ["program"] fG gG
 Dh:bK K mg "is_row_name" cx ["text"] fH gH
 JH:bK K mg "read_walk" dh ["row","start"] fI gI
 JI:bK K mg "read_name" dk ["row","start"] fJ gJ
 JJ:bK K mg "read_kind" dm ["row","start"] fK gK
 JK:bK K mg "read_sign" dn ["kind","row","start"] fL gL
 JL:bK K mg "read_terms" cK ["count","row","start"] fM gM
 JM:bK K mg "read_made" dq ["row","start"] fN gN
 Di:bK K mg "read_term" dr ["row","start"] eN f_
 JN:bK K mg "read_row" dX ["row"] fO gO
 JO:bK K mg "read_program" cb ["text"] fP gP
 JP:bK K mg "_law_box" lV ["_law_script","_law_k"] fQ gQ
 cf:bK K mg "_law_take" jx ["_law_box_here","_law_many"] fR gR
 Dj:bK K mg "_law_names" ie ["_law_box_here","_law_many"] fS gS
 JQ:bK K mg "_law_pool" jy ["_law_box_here"] fT gT
 JR:bK K mg "_law_walk" jz ["_law_box_here","_law_pool_here"] fU gU
 tK:bK K mg "_law_term" jA ["_law_box_here","_law_known","_law_pool_here","_law_room","_law_deep"] eU gk
 JS:bK K mg "_law_program" dY ["_law_box_here","_law_top","_law_room"] fV gW
 Dk:bK K mg "_law_told" jB ["_law_program_here"] fW gX
 Dl:bK K mg "_law_pair" jC ["_law_box_here","_law_known","_law_letter"] fX gY
 OH:bK K mg "law" rA ["_law_script"] fZ gZ
 kR:mg "COUNTS"=some (.ref ay)
 kT:KD K P w ay dZ
 zg:mg "SIGNS"=some (.ref aG)
 nu:KD K P w aG eJ
 rB:mg "TooLong"=some (.ref aq)
 vH:mg "MeetError"=some (.ref ak)
 ig:XC K aq
 s_TooLong:PySem.W.mroIn K aq (.ref aq)=some true
 r_TooLong:PySem.W.mroIn K aq (.ref ak)=some true
 GP:XC K ak
 AS:Gv K aq ax
 AU:DR K "__init__" "TooLong.__init__" dt ax aB
 AV:Binds K aB ["self","name"] []
 n_TooLong_name:wy K aq "name"
 xb:Gw K ak
 z_all:mg "all"=none
 z_enumerate:mg "enumerate"=none
 z_int:mg "int"=none
 z_isinstance:mg "isinstance"=none
 z_len:mg "len"=none
 z_list:mg "list"=none
 z_max:mg "max"=none
 z_min:mg "min"=none
 z_range:mg "range"=none
 z_reversed:mg "reversed"=none
 z_sorted:mg "sorted"=none
 z_str:mg "str"=none
 z_tuple:mg "tuple"=none
 z_zip:mg "zip"=none
 g_LETTERS: ∃t,mg "LETTERS"=some (.str (S [97,98,99,100,101,102,103,104,105,106,107,108,109,110,111,112,113,114,115,116,117,118,119,120,121,122,65,66,67,68,69,70,71,72,73,74,75,76,77,78,79,80,81,82,83,84,85,86,87,88,89,90]) t)
 g_LONGEST_NAME: ∃t,mg "LONGEST_NAME"=some (.int 6 t)
 g_SMALL: ∃t,mg "SMALL"=some (.str (S [97,98,99,100,101,102,103,104,105,106,107,108,109,110,111,112,113,114,115,116,117,118,119,120,121,122]) t)
 g_LONGEST: ∃t,mg "LONGEST"=some (.int 60 t)
 g_STROKE: ∃t,mg "STROKE"=some (.str (S [39]) t)
 g_IS: ∃t,mg "IS"=some (.str (S [32,61,32]) t)
theorem tL:aQ ["sign"] ["sign"] (au dc):=⟨rfl,rfl,rfl,by decide+kernel,rfl,by decide+kernel,by decide+kernel⟩
theorem xw:aQ ["text"] ["text"] (au eW):=⟨rfl,rfl,rfl,by decide+kernel,rfl,by decide+kernel,by decide+kernel⟩
theorem vI:aQ ["letter"] ["letter"] (au dS):=⟨rfl,rfl,rfl,by decide+kernel,rfl,by decide+kernel,by decide+kernel⟩
theorem AW:aQ ["word"] ["word"] (au h_):=⟨rfl,rfl,rfl,by decide+kernel,rfl,by decide+kernel,by decide+kernel⟩
theorem iH:aQ ["word","kept","letter"] ["word"] (au de):=⟨rfl,rfl,rfl,by decide+kernel,rfl,by decide+kernel,by decide+kernel⟩
theorem vJ:aQ ["term"] ["term"] (au dU):=⟨rfl,rfl,rfl,by decide+kernel,rfl,by decide+kernel,by decide+kernel⟩
theorem jf:aQ ["term","names","part"] ["term"] (au dW):=⟨rfl,rfl,rfl,by decide+kernel,rfl,by decide+kernel,by decide+kernel⟩
theorem cu:aQ ["program","known","name","term","asked"] ["program"] (au bZ):=⟨rfl,rfl,rfl,by decide+kernel,rfl,by decide+kernel,by decide+kernel⟩
theorem oZ:aQ ["letter","word","other","places"] ["letter","word","other"] (au eX):=⟨rfl,rfl,rfl,by decide+kernel,rfl,by decide+kernel,by decide+kernel⟩
theorem xx:aQ ["term","words","known"] ["term","words","known"] (au eY):=⟨rfl,rfl,rfl,by decide+kernel,rfl,by decide+kernel,by decide+kernel⟩
theorem j0:aQ ["name","term","known","words","word"] ["name","term","known"] (au e_):=⟨rfl,rfl,rfl,by decide+kernel,rfl,by decide+kernel,by decide+kernel⟩
theorem jD:aQ ["program","known","name","term"] ["program"] (au ic):=⟨rfl,rfl,rfl,by decide+kernel,rfl,by decide+kernel,by decide+kernel⟩
theorem eV:aQ ["term","count","parts","signs"] ["term"] (au df):=⟨rfl,rfl,rfl,by decide+kernel,rfl,by decide+kernel,by decide+kernel⟩
theorem mS:aQ ["program"] ["program"] (au b_):=⟨rfl,rfl,rfl,by decide+kernel,rfl,by decide+kernel,by decide+kernel⟩
theorem o_:aQ ["text"] ["text"] (au cx):=⟨rfl,rfl,rfl,by decide+kernel,rfl,by decide+kernel,by decide+kernel⟩
theorem iI:aQ ["row","start","end","word"] ["row","start"] (au dh):=⟨rfl,rfl,rfl,by decide+kernel,rfl,by decide+kernel,by decide+kernel⟩
theorem iJ:aQ ["row","start","end"] ["row","start"] (au dk):=⟨rfl,rfl,rfl,by decide+kernel,rfl,by decide+kernel,by decide+kernel⟩
theorem kU:aQ ["row","start","kind"] ["row","start"] (au dm):=⟨rfl,rfl,rfl,by decide+kernel,rfl,by decide+kernel,by decide+kernel⟩
theorem kW:aQ ["kind","row","start","sign"] ["kind","row","start"] (au dn):=⟨rfl,rfl,rfl,by decide+kernel,rfl,by decide+kernel,by decide+kernel⟩
theorem cy:aQ ["count","row","start","terms","end","number","read"] ["count","row","start"] (au cK):=⟨rfl,rfl,rfl,by decide+kernel,rfl,by decide+kernel,by decide+kernel⟩
theorem dG:aQ ["row","start","read","term"] ["row","start"] (au dq):=⟨rfl,rfl,rfl,by decide+kernel,rfl,by decide+kernel,by decide+kernel⟩
theorem tM:aQ ["row","start"] ["row","start"] (au dr):=⟨rfl,rfl,rfl,by decide+kernel,rfl,by decide+kernel,by decide+kernel⟩
theorem jg:aQ ["row","parts","read"] ["row"] (au dX):=⟨rfl,rfl,rfl,by decide+kernel,rfl,by decide+kernel,by decide+kernel⟩
theorem cv:aQ ["text","rows","number","row","read"] ["text"] (au cb):=⟨rfl,rfl,rfl,by decide+kernel,rfl,by decide+kernel,by decide+kernel⟩
theorem kX:aQ ["_law_script","_law_k","_law_cell","_law_seed"] ["_law_script","_law_k"] (au lV):=⟨rfl,rfl,rfl,by decide+kernel,rfl,by decide+kernel,by decide+kernel⟩
theorem ph:aQ ["_law_box_here","_law_many","_law_digit","_law_one"] ["_law_box_here","_law_many"] (au jx):=⟨rfl,rfl,rfl,by decide+kernel,rfl,by decide+kernel,by decide+kernel⟩
theorem cz:aQ ["_law_box_here","_law_many","_law_letters","_law_stem","_law_found","_law_form","_law_name","_law_at"] ["_law_box_here","_law_many"] (au ie):=⟨rfl,rfl,rfl,by decide+kernel,rfl,by decide+kernel,by decide+kernel⟩
theorem pj:aQ ["_law_box_here","_law_letters","_law_some"] ["_law_box_here"] (au jy):=⟨rfl,rfl,rfl,by decide+kernel,rfl,by decide+kernel,by decide+kernel⟩
theorem pk:aQ ["_law_box_here","_law_pool_here","_law_some"] ["_law_box_here","_law_pool_here"] (au jz):=⟨rfl,rfl,rfl,by decide+kernel,rfl,by decide+kernel,by decide+kernel⟩
theorem gb:aQ ["_law_box_here","_law_known","_law_pool_here","_law_room","_law_deep","_law_form","_law_often","_law_share","_law_letter","_law_one","_law_other_here"] ["_law_box_here","_law_known","_law_pool_here","_law_room","_law_deep"] (au jA):=⟨rfl,rfl,rfl,by decide+kernel,rfl,by decide+kernel,by decide+kernel⟩
theorem gz:aQ ["_law_box_here","_law_top","_law_room","_law_names_here","_law_pool_here","_law_many"] ["_law_box_here","_law_top","_law_room"] (au dY):=⟨rfl,rfl,rfl,by decide+kernel,rfl,by decide+kernel,by decide+kernel⟩
theorem kY:aQ ["_law_program_here","_law_found","e"] ["_law_program_here"] (au jB):=⟨rfl,rfl,rfl,by decide+kernel,rfl,by decide+kernel,by decide+kernel⟩
theorem ij:aQ ["_law_box_here","_law_known","_law_letter","_law_one","_law_other_here","_law_third","_law_form","_law_both"] ["_law_box_here","_law_known","_law_letter"] (au jC):=⟨rfl,rfl,rfl,by decide+kernel,rfl,by decide+kernel,by decide+kernel⟩
theorem dH:aQ ["_law_script","_law_k","_law_box_here","_law_program_here","_law_known","_law_first","_law_letters","_law_letter","_law_terms","_law_names_here","_law_more","_law_found","_law_words"] ["_law_script"] (au rA):=⟨rfl,rfl,rfl,by decide+kernel,rfl,by decide+kernel,by decide+kernel⟩
section
variable {P:Program} {w:World} {K:PySem.W.Frag} {mg:Str->Option Value} {base:Heap} {f0 f1 f2 f3 f4 f5 f6 f7 f8 f9 eR fF eS fG fH fI fJ fK fL fM fN eN fO fP fQ fR fS fT fU eU fV fW fX fZ aq ak ax ay aG:Addr} {d0 d1 d2 d3 d4 d5 d6 d7 d8 d9 gi gF gj gG gH gI gJ gK gL gM gN f_ gO gP gQ gR gS gT gU gk gW gX gY gZ aB:FuncData}
theorem FC (T:Txt P w K mg f0 f1 f2 f3 f4 f5 f6 f7 f8 f9 eR fF eS fG fH fI fJ fK fL fM fN eN fO fP fQ fR fS fT fU eU fV fW fX fZ aq ak ax ay aG d0 d1 d2 d3 d4 d5 d6 d7 d8 d9 gi gF gj gG gH gI gJ gK gL gM gN f_ gO gP gQ gR gS gT gU gk gW gX gY gZ aB):bE P w K mg base eK 1 fQ gQ ["_law_script","_law_k"] (yT K):=by
 refine T.JP.fn.ok kX (fun vs H Q E h=>Cd h) (fun cN A outer s H vs Q E hr h=>?_)
 refine ⟨_,(ah (aF (i:=2) kX.nd rfl (Or.inl rfl) (aN bG (aN lr ai (pv 1)) ai))
   (ah (aX (az j8 (pv 1) (aV (bD K rfl) rfl T.z_len PySem.boot_len (ae (pv 0) af)) (aL _)) (ao (aF (i:=2) kX.nd rfl (Or.inl rfl) (aJ (ba K rfl) (pv 0) (pv 1) (fun _ _=>rfl)))) (ao (aX (az qy (aV (bD K rfl) rfl T.z_len PySem.boot_len (ae (pv 0) af)) ai (aL _)) (ao (aF (i:=2) kX.nd rfl (Or.inl rfl) (aN bG (pv 2) (aN lr (aN gB (aJ (ba K rfl) (pv 0) (aN gB (pv 1) (aV (bD K rfl) rfl T.z_len PySem.boot_len (ae (pv 0) af))) (fun _ _=>rfl)) ai) ai)))) aI)))
   (ah (aF (i:=3) kX.nd rfl (Or.inl rfl) (aN gB (aN Bm (aN bG (aN bG (aN gB (pv 2) ai) (aN lr ai (pv 1))) ai) ai) ai))
   (ao (aE (bL (ae (aJ (ba K rfl) (bL (ae ai (ae (pv 2) af))) (c_ zG rfl T.z_int boot_int (ae (rM Lc (pv 2) (aN Bm ai ai) (aL _)) af)) (fun _ _=>rfl)) (ae (aN bG (aN gB (pv 3) ai) ai) af)))))))),?_⟩
 obtain ⟨a,ns,k,rfl,hS,hk,q⟩:=h
 have hp:(0:Int)<2147483629:=by decide
 (repeat (first | refine ⟨_,rfl,?_⟩ | refine ⟨_,_,rfl,rfl,?_⟩ | refine ⟨rfl,?_⟩ | refine And.intro (by first | decide | omega | assumption | exact Nat.le_of_ble_eq_true rfl | exact .inl ⟨by decide,by decide⟩ | exact .inr ⟨by decide,by decide⟩ | exact ⟨by decide,by decide⟩ | exact ⟨by omega,by omega⟩) ?_))
 refine ⟨a,_,rfl, .inl hS,?_⟩
 (repeat (first | refine ⟨_,rfl,?_⟩ | refine ⟨_,_,rfl,rfl,?_⟩ | refine ⟨rfl,?_⟩ | refine And.intro (by first | decide | omega | assumption | exact Nat.le_of_ble_eq_true rfl | exact .inl ⟨by decide,by decide⟩ | exact .inr ⟨by decide,by decide⟩ | exact ⟨by decide,by decide⟩ | exact ⟨by omega,by omega⟩) ?_))
 refine cj (fun e=>?_) (fun e=>?_)
 ·have e':(k:Int)<((ns.map V.int).length:Nat):=of_decide_eq_true e
  rw[List.length_map]at e'
  obtain ⟨z,hz⟩:=yU (ns:=ns) (i:=k) (by omega)
  (repeat (first | refine ⟨_,rfl,?_⟩ | refine ⟨_,_,rfl,rfl,?_⟩ | refine ⟨rfl,?_⟩ | refine And.intro (by first | decide | omega | assumption | exact Nat.le_of_ble_eq_true rfl | exact .inl ⟨by decide,by decide⟩ | exact .inr ⟨by decide,by decide⟩ | exact ⟨by decide,by decide⟩ | exact ⟨by omega,by omega⟩) ?_))
  refine ⟨a,_,k,_,rfl,rfl,hS,aH hz,?_⟩
  (repeat (first | refine ⟨_,rfl,?_⟩ | refine ⟨_,_,rfl,rfl,?_⟩ | refine ⟨rfl,?_⟩ | refine And.intro (by first | decide | omega | assumption | exact Nat.le_of_ble_eq_true rfl | exact .inl ⟨by decide,by decide⟩ | exact .inr ⟨by decide,by decide⟩ | exact ⟨by decide,by decide⟩ | exact ⟨by omega,by omega⟩) ?_))
  refine fun p1 n1=>?_
  (repeat (first | refine ⟨_,rfl,?_⟩ | refine ⟨_,_,rfl,rfl,?_⟩ | refine ⟨rfl,?_⟩ | refine And.intro (by first | decide | omega | assumption | exact Nat.le_of_ble_eq_true rfl | exact .inl ⟨by decide,by decide⟩ | exact .inr ⟨by decide,by decide⟩ | exact ⟨by decide,by decide⟩ | exact ⟨by omega,by omega⟩) ?_))
  refine .inr ⟨_,rfl,?_⟩
  obtain ⟨y,hy⟩:=xk _ z
  refine ⟨p1,_,_,_,rfl,rfl,bt.of ag,hy,?_⟩
  (repeat (first | refine ⟨_,rfl,?_⟩ | refine ⟨_,_,rfl,rfl,?_⟩ | refine ⟨rfl,?_⟩ | refine And.intro (by first | decide | omega | assumption | exact Nat.le_of_ble_eq_true rfl | exact .inl ⟨by decide,by decide⟩ | exact .inr ⟨by decide,by decide⟩ | exact ⟨by decide,by decide⟩ | exact ⟨by omega,by omega⟩) ?_))
  exact fun p2 n2=>q p2 _ (ar.free (ar.upd n1) n2) ⟨_,_,ag⟩ ((ar.upd n1).trans (ar.upd n2))
 ·(repeat (first | refine ⟨_,rfl,?_⟩ | refine ⟨_,_,rfl,rfl,?_⟩ | refine ⟨rfl,?_⟩ | refine And.intro (by first | decide | omega | assumption | exact Nat.le_of_ble_eq_true rfl | exact .inl ⟨by decide,by decide⟩ | exact .inr ⟨by decide,by decide⟩ | exact ⟨by decide,by decide⟩ | exact ⟨by omega,by omega⟩) ?_))
  refine ⟨a,_,rfl, .inl hS,?_⟩
  (repeat (first | refine ⟨_,rfl,?_⟩ | refine ⟨_,_,rfl,rfl,?_⟩ | refine ⟨rfl,?_⟩ | refine And.intro (by first | decide | omega | assumption | exact Nat.le_of_ble_eq_true rfl | exact .inl ⟨by decide,by decide⟩ | exact .inr ⟨by decide,by decide⟩ | exact ⟨by decide,by decide⟩ | exact ⟨by omega,by omega⟩) ?_))
  refine cj (fun e2=>?_) (fun e2=>?_)
  ·have e':(0:Int)<((ns.map V.int).length:Nat):=of_decide_eq_true e2
   have hl:(0:Int)<(ns.length:Int):=by rw[List.length_map]at e';exact e'
   have m1:0<=(k:Int)%(ns.length:Int):=Int.emod_nonneg _ (by omega)
   have m2:(k:Int)%(ns.length:Int)<(ns.length:Int):=Int.emod_lt_of_pos _ hl
   obtain ⟨z,hz⟩:=yU (ns:=ns) (i:=((k:Int)%(ns.length:Int)).toNat) (by omega)
   have Zd:rP (ns.map V.int) ((k:Int)%((ns.map V.int).length:Nat))=some (V.int z):=by
    have:=aH hz
    rw[Int.toNat_of_nonneg m1]at this
    rw[List.length_map]
    exact this
   (repeat (first | refine ⟨_,rfl,?_⟩ | refine ⟨_,_,rfl,rfl,?_⟩ | refine ⟨rfl,?_⟩ | refine And.intro (by first | decide | omega | assumption | exact Nat.le_of_ble_eq_true rfl | exact .inl ⟨by decide,by decide⟩ | exact .inr ⟨by decide,by decide⟩ | exact ⟨by decide,by decide⟩ | exact ⟨by omega,by omega⟩) ?_))
   refine ⟨a,_,rfl, .inl hS,?_⟩
   (repeat (first | refine ⟨_,rfl,?_⟩ | refine ⟨_,_,rfl,rfl,?_⟩ | refine ⟨rfl,?_⟩ | refine And.intro (by first | decide | omega | assumption | exact Nat.le_of_ble_eq_true rfl | exact .inl ⟨by decide,by decide⟩ | exact .inr ⟨by decide,by decide⟩ | exact ⟨by decide,by decide⟩ | exact ⟨by omega,by omega⟩) ?_))
   refine ⟨a,_,_,_,rfl,rfl,hS,Zd,?_⟩
   (repeat (first | refine ⟨_,rfl,?_⟩ | refine ⟨_,_,rfl,rfl,?_⟩ | refine ⟨rfl,?_⟩ | refine And.intro (by first | decide | omega | assumption | exact Nat.le_of_ble_eq_true rfl | exact .inl ⟨by decide,by decide⟩ | exact .inr ⟨by decide,by decide⟩ | exact ⟨by decide,by decide⟩ | exact ⟨by omega,by omega⟩) ?_))
   refine fun p1 n1=>?_
   (repeat (first | refine ⟨_,rfl,?_⟩ | refine ⟨_,_,rfl,rfl,?_⟩ | refine ⟨rfl,?_⟩ | refine And.intro (by first | decide | omega | assumption | exact Nat.le_of_ble_eq_true rfl | exact .inl ⟨by decide,by decide⟩ | exact .inr ⟨by decide,by decide⟩ | exact ⟨by decide,by decide⟩ | exact ⟨by omega,by omega⟩) ?_))
   refine .inr ⟨_,rfl,?_⟩
   obtain ⟨y,hy⟩:=xk _ _
   refine ⟨p1,_,_,_,rfl,rfl,bt.of ag,hy,?_⟩
   (repeat (first | refine ⟨_,rfl,?_⟩ | refine ⟨_,_,rfl,rfl,?_⟩ | refine ⟨rfl,?_⟩ | refine And.intro (by first | decide | omega | assumption | exact Nat.le_of_ble_eq_true rfl | exact .inl ⟨by decide,by decide⟩ | exact .inr ⟨by decide,by decide⟩ | exact ⟨by decide,by decide⟩ | exact ⟨by omega,by omega⟩) ?_))
   exact fun p2 n2=>q p2 _ (ar.free (ar.upd n1) n2) ⟨_,_,ag⟩ ((ar.upd n1).trans (ar.upd n2))
  ·(repeat (first | refine ⟨_,rfl,?_⟩ | refine ⟨_,_,rfl,rfl,?_⟩ | refine ⟨rfl,?_⟩ | refine And.intro (by first | decide | omega | assumption | exact Nat.le_of_ble_eq_true rfl | exact .inl ⟨by decide,by decide⟩ | exact .inr ⟨by decide,by decide⟩ | exact ⟨by decide,by decide⟩ | exact ⟨by omega,by omega⟩) ?_))
   refine fun p1 n1=>?_
   (repeat (first | refine ⟨_,rfl,?_⟩ | refine ⟨_,_,rfl,rfl,?_⟩ | refine ⟨rfl,?_⟩ | refine And.intro (by first | decide | omega | assumption | exact Nat.le_of_ble_eq_true rfl | exact .inl ⟨by decide,by decide⟩ | exact .inr ⟨by decide,by decide⟩ | exact ⟨by decide,by decide⟩ | exact ⟨by omega,by omega⟩) ?_))
   refine .inr ⟨_,rfl,?_⟩
   obtain ⟨y,hy⟩:=xk _ _
   refine ⟨p1,_,_,_,rfl,rfl,bt.of ag,hy,?_⟩
   (repeat (first | refine ⟨_,rfl,?_⟩ | refine ⟨_,_,rfl,rfl,?_⟩ | refine ⟨rfl,?_⟩ | refine And.intro (by first | decide | omega | assumption | exact Nat.le_of_ble_eq_true rfl | exact .inl ⟨by decide,by decide⟩ | exact .inr ⟨by decide,by decide⟩ | exact ⟨by decide,by decide⟩ | exact ⟨by omega,by omega⟩) ?_))
   exact fun p2 n2=>q p2 _ (ar.free (ar.upd n1) n2) ⟨_,_,ag⟩ ((ar.upd n1).trans (ar.upd n2))
theorem gf (T:Txt P w K mg f0 f1 f2 f3 f4 f5 f6 f7 f8 f9 eR fF eS fG fH fI fJ fK fL fM fN eN fO fP fQ fR fS fT fU eU fV fW fX fZ aq ak ax ay aG d0 d1 d2 d3 d4 d5 d6 d7 d8 d9 gi gF gj gG gH gI gJ gK gL gM gN f_ gO gP gQ gR gS gT gU gk gW gX gY gZ aB):bE P w K mg base eK 1 fR gR ["_law_box_here","_law_many"] (vd K):=by
 refine T.cf.fn.ok ph (fun vs H Q E h=>Aw h) (fun cN A outer s H vs Q E hr h=>?_)
 refine ⟨_,(ah (aX (az qy (aJ (ba K rfl) (pv 0) ai (fun _ _=>rfl)) ai (aL _)) (ah (aF (i:=2) ph.nd rfl (Or.inl rfl) (aN gB (aJ (ba K rfl) (pv 0) ai (fun _ _=>rfl)) (pv 1)))
   (ah (wg (aN xW (aJ (ba K rfl) (pv 0) ai (fun _ _=>rfl)) (pv 1)) (Bh (pv 0) ai set_list))
   (ao (aE (pv 2))))) aI)
   (ah (aF (i:=3) ph.nd rfl (Or.inl rfl) (aN gB (aN lr (aJ (ba K rfl) (pv 0) ai (fun _ _=>rfl)) ai) ai))
   (ah (wg (aN bG (aN gB (aN bG (aN lr (pv 3) ai) ai) ai) ai) (Bh (pv 0) ai set_list))
   (ao (aE (aN gB (aN xW (aN bG (aN lr (pv 3) ai) (aJ (ba K rfl) (pv 0) ai (fun _ _=>rfl))) ai) (pv 1))))))),?_⟩
 obtain ⟨b,m,rfl,⟨x,y,hb⟩,h1,h2,q⟩:=h
 have fin: ∀(r x' y':Int),0<=r->r<m->Q (.int r) (upd H b (.lst [.int x', .int y'])):=fun r x' y' h3 h4=>by
  have e:r=((r.toNat:Nat):Int):=by omega
  rw[e]
  exact q r.toNat _ (by omega) ⟨x',y',ag⟩ (aD.upd b H _)
 refine ⟨_,rfl,b,_,0,_,rfl,rfl,bt.of hb,rfl,_,_,rfl,rfl,_,rfl,cj (fun e=>?_) (fun e=>?_)⟩
 ·refine ⟨_,rfl,b,_,0,_,rfl,rfl,bt.of hb,rfl,_,rfl,_,_,rfl,rfl,(by omega:0<m),?_⟩
  refine ⟨_,rfl,b,_,0,_,rfl,rfl,bt.of hb,rfl,_,rfl,_,_,rfl,rfl,⟨by omega,by omega⟩,_,rfl,b,_,0,0,rfl,rfl,hb,rfl,_,rfl,?_⟩
  exact fin (x%m) (x / m) y (Int.emod_nonneg _ (by omega)) (Int.emod_lt_of_pos _ (by omega))
 ·refine ⟨_,rfl,b,_,1,_,rfl,rfl,bt.of hb,rfl,_,_,rfl,rfl, .inr ⟨by decide,by decide⟩,_,_,rfl,rfl,(by decide:(0:Int)<2147483647),?_⟩
  refine ⟨_,rfl,_,_,rfl,rfl, .inr ⟨by decide,by decide⟩,_,_,rfl,rfl,_,_,rfl,rfl,(by decide:(0:Int)<2147483629),_,_,rfl,rfl,_,rfl,b,_,1,1,rfl,rfl,hb,rfl,?_⟩
  refine ⟨_,rfl,_,_,rfl,rfl, .inr ⟨by decide,by decide⟩,_,rfl,b,_,1,_,rfl,rfl,bt.of ag,rfl,_,_,rfl,rfl,_,_,rfl,rfl,⟨by decide,by decide⟩,_,rfl,_,_,rfl,rfl,(by omega:0<m),?_⟩
  exact fin _ _ _ (Int.emod_nonneg _ (by omega)) (Int.emod_lt_of_pos _ (by omega))
theorem rC (T:Txt P w K mg f0 f1 f2 f3 f4 f5 f6 f7 f8 f9 eR fF eS fG fH fI fJ fK fL fM fN eN fO fP fQ fR fS fT fU eU fV fW fX fZ aq ak ax ay aG d0 d1 d2 d3 d4 d5 d6 d7 d8 d9 gi gF gj gG gH gI gJ gK gL gM gN f_ gO gP gQ gR gS gT gU gk gW gX gY gZ aB):bE P w K mg base eK 2 fS gS ["_law_box_here","_law_many"] (rn K):=by
 have aW:=gf (P:=P) (w:=w) (base:=base) T
 refine T.Dj.fn.ok cz (fun vs H Q E h=>xu h) (fun cN A outer s H vs Q E hr h=>?_)
 refine ⟨_,(ah (aF (i:=2) cz.nd rfl (Or.inr rfl) (bg [97,98,99,100,101,102,103,104,105,106,107,108,109,110,111,112,113,114,115,116,117,118,119,120,121,122] (by decide+kernel)))
   (ah (aF (i:=3) cz.nd rfl (Or.inl rfl) (bQ K rfl PySem.F.plainAttrs_str PySem.F.slot_str_join PySem.F.type_str_join (ei K rfl) (bg [] (by decide+kernel)) (ae (bW ["_law_k","_law_letters","_law_box_here"] [none,some 2,some 0] (cZ rfl T.z_range (ae (aN bG ai (aw aW (hr.mono (by decide)) rfl T.cf.mg T.cf.fn.kp T.cf.bd .nil aO (ae (pv 0) (ae ai af)))) af)) ⟨⟨rfl,rfl,by first | exact .inl rfl | exact .inr rfl⟩,⟨⟨rfl,rfl,by first | exact .inl rfl | exact .inr rfl⟩,trivial⟩⟩ (fun _ _ _ _=>(aU (i:=0) (by decide+kernel:List.Nodup (["_law_k","_law_letters","_law_box_here"]:List Str)) rfl (Or.inl rfl))) (fun _ _ _ _=>cV) (fun _ _ _ _=>(aJ pU (pv 1) (aw aW (hr.mono (by decide)) rfl T.cf.mg T.cf.fn.kp T.cf.bd .nil aO (ae (pv 2) (ae ai af))) (fun _ _=>rfl)))) af)))
   (ah (aF (i:=4) cz.nd rfl (Or.inl rfl) (bL af))
   (ah (lF PassesOwn.never (az j8 (aV (bD K rfl) rfl T.z_len PySem.boot_len (ae (pv 4) af)) (pv 1) (aL _)) (ah (aF (i:=5) cz.nd rfl (Or.inl rfl) (aw aW (hr.mono (by decide)) rfl T.cf.mg T.cf.fn.kp T.cf.bd .nil aO (ae (pv 0) (ae ai af))))
   (ah (aF (i:=6) cz.nd rfl (Or.inl rfl) (bQ K rfl PySem.F.plainAttrs_str PySem.F.slot_str_join PySem.F.type_str_join (ei K rfl) (bg [] (by decide+kernel)) (ae (bW ["_law_k","_law_letters","_law_box_here"] [none,some 2,some 0] (cZ rfl T.z_range (ae (aN bG ai (aw aW (hr.mono (by decide)) rfl T.cf.mg T.cf.fn.kp T.cf.bd .nil aO (ae (pv 0) (ae ai af)))) af)) ⟨⟨rfl,rfl,by first | exact .inl rfl | exact .inr rfl⟩,⟨⟨rfl,rfl,by first | exact .inl rfl | exact .inr rfl⟩,trivial⟩⟩ (fun _ _ _ _=>(aU (i:=0) (by decide+kernel:List.Nodup (["_law_k","_law_letters","_law_box_here"]:List Str)) rfl (Or.inl rfl))) (fun _ _ _ _=>cV) (fun _ _ _ _=>(aJ pU (pv 1) (aw aW (hr.mono (by decide)) rfl T.cf.mg T.cf.fn.kp T.cf.bd .nil aO (ae (pv 2) (ae ai af))) (fun _ _=>rfl)))) af)))
   (ah (aX (az fj (pv 5) ai (aL _)) (ah (aF (i:=7) cz.nd rfl (Or.inl rfl) (aw aW (hr.mono (by decide)) rfl T.cf.mg T.cf.fn.kp T.cf.bd .nil aO (ae (pv 0) (ae (aV da rfl T.z_len PySem.boot_len (ae (pv 3) af)) af))))
   (ao (aF (i:=6) cz.nd rfl (Or.inl rfl) (aN cC (aN cC (bJ nN (pv 3) ef (bC (pv 7))) (aJ pU (pv 2) (aw aW (hr.mono (by decide)) rfl T.cf.mg T.cf.fn.kp T.cf.bd .nil aO (ae (pv 0) (ae ai af))) (fun _ _=>rfl))) (bJ nN (pv 3) (bC (aN bG (pv 7) ai)) ef))))) aI)
   (ah (aX (az fj (pv 5) ai (aL _)) (ao (aF (i:=6) cz.nd rfl (Or.inl rfl) (aN cC (bJ nN (pv 3) ef (bC (aN bG ai (aw aW (hr.mono (by decide)) rfl T.cf.mg T.cf.fn.kp T.cf.bd .nil aO (ae (pv 0) (ae (aV da rfl T.z_len PySem.boot_len (ae (pv 3) af)) af)))))) (bJ nN (pv 6) ef (bC (aw aW (hr.mono (by decide)) rfl T.cf.mg T.cf.fn.kp T.cf.bd .nil aO (ae (pv 0) (ae ai af)))))))) aI)
   (ah (lF PassesOwn.never (PW.pt (gn (az (BI K rfl) (pv 6) (pv 4) (by with_unfolding_all rfl)) (gA (az (BI K rfl) (pv 6) (aZ (ae (bg [116,104,101,110] (by decide+kernel)) (ae (bg [98,97,99,107] (by decide+kernel)) (ae (bg [97,103,97,105,110] (by decide+kernel)) (ae (bg [102,111,114] (by decide+kernel)) af))))) (by with_unfolding_all rfl))))) (ao (aF (i:=6) cz.nd rfl (Or.inl rfl) (aN cC (aJ pU (pv 2) (aN gB (aN bG (bQ K rfl PySem.F.plainAttrs_str PySem.F.slot_str_index PySem.F.type_str_index zT (pv 2) (ae (aJ pU (pv 6) ai (fun _ _=>rfl)) af)) ai) ai) (fun _ _=>rfl)) (bJ nN (pv 6) (bC ai) ef)))))
   (ao (gp (bQ K rfl PySem.F.plainAttrs_list PySem.F.slot_list_append PySem.F.type_list_append g9 (pv 4) (ae (pv 6) af))))))))))
   (ao (aE (pv 4))))))),?_⟩
 obtain ⟨b,many,rfl,hb,Wn,q⟩:=h
 have hs:(100000:Nat)<sizeLine:=by decide
 refine ⟨rfl,_,rfl,b,5,rfl,hb,by omega,by omega,fun n1 G1 MN QK Ze=>?_⟩
 refine ⟨_,_,rfl,rfl,_,rfl,by omega,by omega,?_⟩
 have Zf:((1:Int)+(n1:Int)).toNat=1+n1:=by omega
 rw[Zf]
 refine fh (n:=1+n1) (fun i acc H'=>bw H' b/\aD b H H'/\ ∃l:List Nat,acc=cI l/\l.length=i/\ ∀c∈l,c∈aj) (by omega) ⟨QK,Ze,[],rfl,rfl,by simp⟩ ?_ ?_
 ·rintro i acc H2 Nx hi hl ⟨il,s2,l,rfl,lA,hm⟩ nx
  refine ⟨⟨rfl,rfl,trivial⟩,bY ?_⟩
  refine ⟨_,rfl,_,rfl,b,26,rfl,il,by omega,by omega,fun r H3 Kr j1 s3=>?_⟩
  have qm:r<aj.length:=by have Wo:aj.length=26:=rfl;omega
  refine ⟨aj,_,aj[r],rfl,rfl,by decide,aH (List.getElem?_eq_getElem qm),?_⟩
  refine nx _ _ (by simpa using hl) ⟨j1,s2.trans s3,l++[aj[r]],cS _ _,by simp[lA],fun c hc=>?_⟩
  rcases List.mem_append.mp hc with z | z
  ·exact hm c z
  ·rw[List.mem_singleton.mp z];exact List.getElem_mem qm
 ·rintro acc K1 D1 Ks ⟨QL,Zg,d_,rfl,Wq,We⟩ Wr
  refine ⟨D1,d_.map fun c=>[c],rfl,rfl,bt.of ?_,?_,?_⟩
  ·rw[ag, <-dR]
  ·rw[ve];omega
  rw[ml]
  have JT:bw (upd K1 D1 (.lst (cI d_))) b:=QL.same (ar.upd Wr)
  have QM:aD b H (upd K1 D1 (.lst (cI d_))):=Zg.trans (aD.of (ar.upd Wr))
  generalize upd K1 D1 (.lst (cI d_))=HL1 at JT QM ⊢
  have Dx:=We
  have Ei:1<=d_.length/\d_.length<=5:=by omega
  refine ⟨by show 0<=sizeLine;decide,fun p np=>?_⟩
  have pb:p≠b:=JT.ne np
  have pH:H p=none:=QM.none np pb
  refine ⟨fun m σ H'=> ∃(fv nv av:Option V) (ns:List (List Nat)),σ=[some (.ref b),some (.int many),some (.str (S aj)),some (.str (S d_)),some (.ref p),fv,nv,av]/\bw H' b/\H' p=some (.lst (bz ns))/\m=many - ns.length/\ns.length<=many/\(∀s∈ns,pN s)/\ns.Nodup/\aD b H H',⟨many,none,none,none,[],rfl,JT.same (ar.upd np),ag,rfl,Nat.zero_le _,by simp,List.nodup_nil,QM.trans (aD.of (ar.upd np))⟩,?_⟩
  rintro mm σ0 H2 ⟨fv,nv,av,ns,rfl,il,wX,QN,Ac,DQ,Kt,OI⟩
  refine ⟨_,rfl,p,_,rfl, .inl (bt.of wX),_,rfl,_,_,rfl,rfl,_,rfl,cj (fun gl=>?_) (fun gl=>?_)⟩
  ·have Zh:ns.length<many:=by have:=of_decide_eq_true gl;rw[bO]at this;omega
   refine ⟨_,rfl,b,3,rfl,il,by omega,by omega,fun lW F Ws Zi sF=>?_⟩
   have Zj:=sF _ _ wX pb
   refine ⟨rfl,_,rfl,b,6,rfl,Zi,by omega,by omega,fun n2 G2 Lr QO Zk=>?_⟩
   refine ⟨_,_,rfl,rfl,_,rfl,by omega,by omega,?_⟩
   have Zl:((1:Int)+(n2:Int)).toNat=1+n2:=by omega
   rw[Zl]
   refine fh (n:=1+n2) (fun i acc H'=>bw H' b/\aD b F H'/\ ∃l:List Nat,acc=cI l/\l.length=i/\ ∀c∈l,c∈aj) (by omega) ⟨QO,Zk,[],rfl,rfl,by simp⟩ ?_ ?_
   ·rintro i acc H2 Nx hi hl ⟨il,s2,l,rfl,lA,hm⟩ nx
    refine ⟨⟨rfl,rfl,trivial⟩,bY ?_⟩
    refine ⟨_,rfl,_,rfl,b,26,rfl,il,by omega,by omega,fun r H3 Kr j1 s3=>?_⟩
    have qm:r<aj.length:=by have Wo:aj.length=26:=rfl;omega
    refine ⟨aj,_,aj[r],rfl,rfl,by decide,aH (List.getElem?_eq_getElem qm),?_⟩
    refine nx _ _ (by simpa using hl) ⟨j1,s2.trans s3,l++[aj[r]],cS _ _,by simp[lA],fun c hc=>?_⟩
    rcases List.mem_append.mp hc with z | z
    ·exact hm c z
    ·rw[List.mem_singleton.mp z];exact List.getElem_mem qm
   ·rintro acc K2 D2 lA ⟨QP,Zm,Dm,rfl,CJ,Jp⟩ Wt
    refine ⟨D2,Dm.map fun c=>[c],rfl,rfl,bt.of ?_,?_,?_⟩
    ·rw[ag, <-dR]
    ·rw[ve];omega
    rw[ml]
    have FD:bw (upd K2 D2 (.lst (cI Dm))) b:=QP.same (ar.upd Wt)
    have M3:aD b F (upd K2 D2 (.lst (cI Dm))):=Zm.trans (aD.of (ar.upd Wt))
    generalize upd K2 D2 (.lst (cI Dm))=Zn at FD M3 ⊢
    have QQ:=M3 _ _ Zj pb
    have M4:QI Dm:=⟨fun z=>by rw[z]at CJ;simp at CJ;omega,Jp,by omega⟩
    refine ⟨_,rfl,_,_,rfl,rfl,_,rfl,cj (fun g0=>?_) (fun g0=>?_)⟩
    ·have f0:(lW:Int)=0:=of_decide_eq_true g0
     refine ⟨_,rfl,_,rfl,d_,rfl,by omega,b,(d_.length:Nat),rfl,FD,by omega,by omega,fun wa H3 Cb j1 s3=>?_⟩
     refine ⟨_,rfl,_,rfl,_,rfl,d_,rfl,by omega,?_⟩
     rw[sS]
     refine ⟨_,rfl,_,rfl,b,26,rfl,j1,by omega,by omega,fun r4 H4 qm uc s4=>?_⟩
     have Dn:r4<aj.length:=by have Wo:aj.length=26:=rfl;omega
     refine ⟨aj,_,aj[r4],rfl,rfl,by decide,aH (List.getElem?_eq_getElem Dn),?_⟩
     refine ⟨d_.take wa,[aj[r4]],rfl,rfl,by simp;omega,?_⟩
     refine ⟨_,rfl,_,rfl,_,_,rfl,rfl,_,rfl,d_,rfl,by omega,?_⟩
     have e6:(wa:Int)+1=((wa+1:Nat):Int):=by omega
     rw[e6,i_]
     refine ⟨d_.take wa++[aj[r4]],d_.drop (wa+1),rfl,rfl,by simp;omega,?_⟩
     have vK:QI (d_.take wa++[aj[r4]]++d_.drop (wa+1)):=⟨by simp,fun c hc=>by
      rcases List.mem_append.mp hc with z | z
      ·rcases List.mem_append.mp z with y | y
       ·exact Dx c (List.mem_of_mem_take y)
       ·rw[List.mem_singleton.mp y];exact List.getElem_mem Dn
      ·exact Dx c (List.mem_of_mem_drop z),by simp;omega⟩
     generalize d_.take wa++[aj[r4]]++d_.drop (wa+1)=nm at vK ⊢
     have M5:=s4 _ _ (s3 _ _ QQ pb) pb
     have sZ:aD b H2 H4:=((sF.trans M3).trans s3).trans s4
     have M6:=uc
     refine ⟨_,rfl,_,_,rfl,rfl,_,rfl,bo (by rw[f0];decide) ?_⟩
     obtain ⟨c0,w,rfl⟩: ∃c w,nm=c::w:=by
      cases nm with
      | nil=>exact absurd rfl vK.ne
      | cons c w=>exact ⟨c,w,rfl⟩
     have GQ:=vK.lt c0 List.mem_cons_self
     have hw: ∀c∈w,c∈aj:=fun c hc=>vK.lt c (List.mem_cons_of_mem _ hc)
     have Gg:w.length+1<=6:=vK.sz
     obtain ⟨m0,M7⟩:=tw (ns:=ns) (by omega) w GQ
     refine ⟨fun m σ H'=> ∃c,σ=[some (.ref b),some (.int many),some (.str (S aj)),some (.str (S d_)),some (.ref p),some (.int lW),some (.str (S (c::w))),some (.int wa)]/\c∈aj/\tq m c::w∉ns++bX/\bw H' b/\H' p=some (.lst (bz ns))/\aD b H2 H',⟨m0,c0,rfl,GQ,M7,M6,M5,sZ⟩,?_⟩
     rintro m1 σ1 H5 ⟨c,rfl,hc,mB,A_,AX,s5⟩
     have go:(c::w∈ns++bX)-> ∃m',m'<m1/\tq m' (lQ c)::w∉ns++bX:=fun CK=>by
      cases m1 with
      | zero=>exact absurd CK mB
      | succ m1=>exact ⟨m1,Nat.lt_succ_self _,mB⟩
     have GR:aj.length=26:=rfl
     have Wu:((aj.idxOf c:Nat):Int)+1=((aj.idxOf c+1:Nat):Int):=by omega
     have emod:(((aj.idxOf c:Nat):Int)+1)%26=(((aj.idxOf c+1)%26:Nat):Int):=by omega
     have AY:rP (c::w) 0=some c:=aH (j:=0) rfl
     have vL:cut (c::w) (some 1) none=w:=by have:=i_ (c::w) 1;rw[show ((1:Nat):Int)=1 from rfl]at this;rw[this];rfl
     have GS:rP aj ((((aj.idxOf c:Nat):Int)+1)%26)=some (lQ c):=by rw[emod];exact aH (cJ c hc).2
     refine ⟨_,rfl,_,rfl,p,_,rfl, .inl (bt.of AX),rfl,ft _,_,rfl,cj (fun g=>wL ?_) (fun g=>?_)⟩
     ·have g':c::w∈ns:=by rw[if_neg Bool.false_ne_true,dE]at g;exact of_decide_eq_true g
      refine ⟨_,rfl,_,rfl,rfl,_,rfl,c::w,0,c,rfl,rfl,by simp;omega,AY,aj,c,rfl,rfl,hc,_,_,rfl,rfl,_,_,rfl,rfl,(by decide:(0:Int)<26),aj,_,lQ c,rfl,rfl,by decide,GS,_,rfl,_,rfl,c::w,rfl,by simp;omega,?_⟩
      rw[vL]
      obtain ⟨m',cG,CL⟩:=go (List.mem_append.mpr (.inl g'))
      exact ⟨[lQ c],w,rfl,rfl,by simp;omega,m',cG,lQ c,rfl,(cJ c hc).1,CL,A_,AX,s5⟩
     ·have g':c::w∉ns:=fun z=>g (by rw[if_neg Bool.false_ne_true,dE];exact decide_eq_true z)
      refine ⟨_,rfl,by show 4<=sizeLine;decide,fun p6 n6=>?_⟩
      have s6:=ar.upd (o:=HO.tup (bz bX)) n6
      have h6:upd H5 p6 (HO.tup (bz bX)) p6=some (HO.tup (bz bX)):=ag
      have AZ:=A_.same s6
      have CM:=s6 _ _ AX
      have GU:aD b H2 _:=s5.trans (aD.of s6)
      refine ⟨p6,bz bX,rfl, .inr (bp.of h6),rfl,ft _,_,rfl,cj (fun g2=>?_) (fun g2=>?_)⟩
      ·have GF:c::w∈bX:=by rw[if_neg Bool.false_ne_true,dE]at g2;exact of_decide_eq_true g2
       obtain ⟨m',cG,CL⟩:=go (List.mem_append.mpr (.inr GF))
       refine ⟨_,rfl,_,rfl,rfl,_,rfl,c::w,0,c,rfl,rfl,by simp;omega,AY,aj,c,rfl,rfl,hc,_,_,rfl,rfl,_,_,rfl,rfl,(by decide:(0:Int)<26),aj,_,lQ c,rfl,rfl,by decide,GS,_,rfl,_,rfl,c::w,rfl,by simp;omega,?_⟩
       rw[vL]
       exact ⟨[lQ c],w,rfl,rfl,by simp;omega,m',cG,lQ c,rfl,(cJ c hc).1,CL,AZ,CM,GU⟩
      ·refine ⟨_,rfl, .inl ⟨rfl,_,bt.of CM⟩,_,rfl,p,_,_,rfl,rfl,CM,by rw[bO];omega,?_⟩
       refine ⟨many - (ns++[c::w]).length,by rw[List.length_append,QN];simp;omega,_,_,_,ns++[c::w],rfl,AZ.xl pb,by rw[ag,eE],rfl,by simp;omega,fun s hs=>?_,List.nodup_append.mpr ⟨Kt,by simp,fun x hx y hy z=>by rw[List.mem_singleton.mp hy]at z;rw[z]at hx;exact g' hx⟩,(OI.trans GU).xl pH⟩
       rcases List.mem_append.mp hs with z | z
       ·exact DQ s z
       ·rw[List.mem_singleton.mp z]
        exact ⟨by simp,fun d hd=>by
         rcases List.mem_cons.mp hd with rfl | hd
         ·exact hc
         ·exact hw d hd,by simp;omega,fun z=>g2 (by rw[if_neg Bool.false_ne_true,dE];exact decide_eq_true z)⟩
    ·refine ⟨_,rfl,_,_,rfl,rfl,_,rfl,cj (fun g1=>?_) (fun g1=>?_)⟩
     ·refine ⟨_,rfl,_,rfl,_,rfl,d_,rfl,by omega,b,(d_.length:Nat),rfl,FD,by omega,by omega,fun wa H3 Cb j1 s3=>?_⟩
      refine ⟨_,_,rfl,rfl,_,rfl,d_,rfl,by omega,?_⟩
      have e6:(1:Int)+(wa:Int)=((1+wa:Nat):Int):=by omega
      rw[e6,sS]
      refine ⟨_,rfl,_,rfl,b,2,rfl,j1,by omega,by omega,fun r4 H4 qm uc s4=>?_⟩
      refine ⟨_,rfl,Dm,rfl,by omega,?_⟩
      rw[sS]
      refine ⟨d_.take (1+wa),Dm.take r4,rfl,rfl,by simp;omega,?_⟩
      have vK:QI (d_.take (1+wa)++Dm.take r4):=⟨fun z=>by have:=congrArg List.length z;rw[List.length_append,List.length_take,List.length_nil]at this;omega,fun c hc=>by
       rcases List.mem_append.mp hc with y | y
       ·exact Dx c (List.mem_of_mem_take y)
       ·exact Jp c (List.mem_of_mem_take y),by rw[List.length_append,List.length_take,List.length_take];omega⟩
      generalize d_.take (1+wa)++Dm.take r4=nm at vK ⊢
      have M5:=s4 _ _ (s3 _ _ QQ pb) pb
      have sZ:aD b H2 H4:=((sF.trans M3).trans s3).trans s4
      have M6:=uc
      obtain ⟨c0,w,rfl⟩: ∃c w,nm=c::w:=by
       cases nm with
       | nil=>exact absurd rfl vK.ne
       | cons c w=>exact ⟨c,w,rfl⟩
      have GQ:=vK.lt c0 List.mem_cons_self
      have hw: ∀c∈w,c∈aj:=fun c hc=>vK.lt c (List.mem_cons_of_mem _ hc)
      have Gg:w.length+1<=6:=vK.sz
      obtain ⟨m0,M7⟩:=tw (ns:=ns) (by omega) w GQ
      refine ⟨fun m σ H'=> ∃c,σ=[some (.ref b),some (.int many),some (.str (S aj)),some (.str (S d_)),some (.ref p),some (.int lW),some (.str (S (c::w))),av]/\c∈aj/\tq m c::w∉ns++bX/\bw H' b/\H' p=some (.lst (bz ns))/\aD b H2 H',⟨m0,c0,rfl,GQ,M7,M6,M5,sZ⟩,?_⟩
      rintro m1 σ1 H5 ⟨c,rfl,hc,mB,A_,AX,s5⟩
      have go:(c::w∈ns++bX)-> ∃m',m'<m1/\tq m' (lQ c)::w∉ns++bX:=fun CK=>by
       cases m1 with
       | zero=>exact absurd CK mB
       | succ m1=>exact ⟨m1,Nat.lt_succ_self _,mB⟩
      have GR:aj.length=26:=rfl
      have Wu:((aj.idxOf c:Nat):Int)+1=((aj.idxOf c+1:Nat):Int):=by omega
      have emod:(((aj.idxOf c:Nat):Int)+1)%26=(((aj.idxOf c+1)%26:Nat):Int):=by omega
      have AY:rP (c::w) 0=some c:=aH (j:=0) rfl
      have vL:cut (c::w) (some 1) none=w:=by have:=i_ (c::w) 1;rw[show ((1:Nat):Int)=1 from rfl]at this;rw[this];rfl
      have GS:rP aj ((((aj.idxOf c:Nat):Int)+1)%26)=some (lQ c):=by rw[emod];exact aH (cJ c hc).2
      refine ⟨_,rfl,_,rfl,p,_,rfl, .inl (bt.of AX),rfl,ft _,_,rfl,cj (fun g=>wL ?_) (fun g=>?_)⟩
      ·have g':c::w∈ns:=by rw[if_neg Bool.false_ne_true,dE]at g;exact of_decide_eq_true g
       refine ⟨_,rfl,_,rfl,rfl,_,rfl,c::w,0,c,rfl,rfl,by simp;omega,AY,aj,c,rfl,rfl,hc,_,_,rfl,rfl,_,_,rfl,rfl,(by decide:(0:Int)<26),aj,_,lQ c,rfl,rfl,by decide,GS,_,rfl,_,rfl,c::w,rfl,by simp;omega,?_⟩
       rw[vL]
       obtain ⟨m',cG,CL⟩:=go (List.mem_append.mpr (.inl g'))
       exact ⟨[lQ c],w,rfl,rfl,by simp;omega,m',cG,lQ c,rfl,(cJ c hc).1,CL,A_,AX,s5⟩
      ·have g':c::w∉ns:=fun z=>g (by rw[if_neg Bool.false_ne_true,dE];exact decide_eq_true z)
       refine ⟨_,rfl,by show 4<=sizeLine;decide,fun p6 n6=>?_⟩
       have s6:=ar.upd (o:=HO.tup (bz bX)) n6
       have h6:upd H5 p6 (HO.tup (bz bX)) p6=some (HO.tup (bz bX)):=ag
       have AZ:=A_.same s6
       have CM:=s6 _ _ AX
       have GU:aD b H2 _:=s5.trans (aD.of s6)
       refine ⟨p6,bz bX,rfl, .inr (bp.of h6),rfl,ft _,_,rfl,cj (fun g2=>?_) (fun g2=>?_)⟩
       ·have GF:c::w∈bX:=by rw[if_neg Bool.false_ne_true,dE]at g2;exact of_decide_eq_true g2
        obtain ⟨m',cG,CL⟩:=go (List.mem_append.mpr (.inr GF))
        refine ⟨_,rfl,_,rfl,rfl,_,rfl,c::w,0,c,rfl,rfl,by simp;omega,AY,aj,c,rfl,rfl,hc,_,_,rfl,rfl,_,_,rfl,rfl,(by decide:(0:Int)<26),aj,_,lQ c,rfl,rfl,by decide,GS,_,rfl,_,rfl,c::w,rfl,by simp;omega,?_⟩
        rw[vL]
        exact ⟨[lQ c],w,rfl,rfl,by simp;omega,m',cG,lQ c,rfl,(cJ c hc).1,CL,AZ,CM,GU⟩
       ·refine ⟨_,rfl, .inl ⟨rfl,_,bt.of CM⟩,_,rfl,p,_,_,rfl,rfl,CM,by rw[bO];omega,?_⟩
        refine ⟨many - (ns++[c::w]).length,by rw[List.length_append,QN];simp;omega,_,_,_,ns++[c::w],rfl,AZ.xl pb,by rw[ag,eE],rfl,by simp;omega,fun s hs=>?_,List.nodup_append.mpr ⟨Kt,by simp,fun x hx y hy z=>by rw[List.mem_singleton.mp hy]at z;rw[z]at hx;exact g' hx⟩,(OI.trans GU).xl pH⟩
        rcases List.mem_append.mp hs with z | z
        ·exact DQ s z
        ·rw[List.mem_singleton.mp z]
         exact ⟨by simp,fun d hd=>by
          rcases List.mem_cons.mp hd with rfl | hd
          ·exact hc
          ·exact hw d hd,by simp;omega,fun z=>g2 (by rw[if_neg Bool.false_ne_true,dE];exact decide_eq_true z)⟩
     ·have M5:=QQ
      have sZ:aD b H2 Zn:=sF.trans M3
      have M6:=FD
      have vK:=M4
      clear M4 Jp CJ lA
      generalize Dm=nm at vK ⊢
      obtain ⟨c0,w,rfl⟩: ∃c w,nm=c::w:=by
       cases nm with
       | nil=>exact absurd rfl vK.ne
       | cons c w=>exact ⟨c,w,rfl⟩
      have GQ:=vK.lt c0 List.mem_cons_self
      have hw: ∀c∈w,c∈aj:=fun c hc=>vK.lt c (List.mem_cons_of_mem _ hc)
      have Gg:w.length+1<=6:=vK.sz
      obtain ⟨m0,M7⟩:=tw (ns:=ns) (by omega) w GQ
      refine ⟨fun m σ H'=> ∃c,σ=[some (.ref b),some (.int many),some (.str (S aj)),some (.str (S d_)),some (.ref p),some (.int lW),some (.str (S (c::w))),av]/\c∈aj/\tq m c::w∉ns++bX/\bw H' b/\H' p=some (.lst (bz ns))/\aD b H2 H',⟨m0,c0,rfl,GQ,M7,M6,M5,sZ⟩,?_⟩
      rintro m1 σ1 H5 ⟨c,rfl,hc,mB,A_,AX,s5⟩
      have go:(c::w∈ns++bX)-> ∃m',m'<m1/\tq m' (lQ c)::w∉ns++bX:=fun CK=>by
       cases m1 with
       | zero=>exact absurd CK mB
       | succ m1=>exact ⟨m1,Nat.lt_succ_self _,mB⟩
      have GR:aj.length=26:=rfl
      have Wu:((aj.idxOf c:Nat):Int)+1=((aj.idxOf c+1:Nat):Int):=by omega
      have emod:(((aj.idxOf c:Nat):Int)+1)%26=(((aj.idxOf c+1)%26:Nat):Int):=by omega
      have AY:rP (c::w) 0=some c:=aH (j:=0) rfl
      have vL:cut (c::w) (some 1) none=w:=by have:=i_ (c::w) 1;rw[show ((1:Nat):Int)=1 from rfl]at this;rw[this];rfl
      have GS:rP aj ((((aj.idxOf c:Nat):Int)+1)%26)=some (lQ c):=by rw[emod];exact aH (cJ c hc).2
      refine ⟨_,rfl,_,rfl,p,_,rfl, .inl (bt.of AX),rfl,ft _,_,rfl,cj (fun g=>wL ?_) (fun g=>?_)⟩
      ·have g':c::w∈ns:=by rw[if_neg Bool.false_ne_true,dE]at g;exact of_decide_eq_true g
       refine ⟨_,rfl,_,rfl,rfl,_,rfl,c::w,0,c,rfl,rfl,by simp;omega,AY,aj,c,rfl,rfl,hc,_,_,rfl,rfl,_,_,rfl,rfl,(by decide:(0:Int)<26),aj,_,lQ c,rfl,rfl,by decide,GS,_,rfl,_,rfl,c::w,rfl,by simp;omega,?_⟩
       rw[vL]
       obtain ⟨m',cG,CL⟩:=go (List.mem_append.mpr (.inl g'))
       exact ⟨[lQ c],w,rfl,rfl,by simp;omega,m',cG,lQ c,rfl,(cJ c hc).1,CL,A_,AX,s5⟩
      ·have g':c::w∉ns:=fun z=>g (by rw[if_neg Bool.false_ne_true,dE];exact decide_eq_true z)
       refine ⟨_,rfl,by show 4<=sizeLine;decide,fun p6 n6=>?_⟩
       have s6:=ar.upd (o:=HO.tup (bz bX)) n6
       have h6:upd H5 p6 (HO.tup (bz bX)) p6=some (HO.tup (bz bX)):=ag
       have AZ:=A_.same s6
       have CM:=s6 _ _ AX
       have GU:aD b H2 _:=s5.trans (aD.of s6)
       refine ⟨p6,bz bX,rfl, .inr (bp.of h6),rfl,ft _,_,rfl,cj (fun g2=>?_) (fun g2=>?_)⟩
       ·have GF:c::w∈bX:=by rw[if_neg Bool.false_ne_true,dE]at g2;exact of_decide_eq_true g2
        obtain ⟨m',cG,CL⟩:=go (List.mem_append.mpr (.inr GF))
        refine ⟨_,rfl,_,rfl,rfl,_,rfl,c::w,0,c,rfl,rfl,by simp;omega,AY,aj,c,rfl,rfl,hc,_,_,rfl,rfl,_,_,rfl,rfl,(by decide:(0:Int)<26),aj,_,lQ c,rfl,rfl,by decide,GS,_,rfl,_,rfl,c::w,rfl,by simp;omega,?_⟩
        rw[vL]
        exact ⟨[lQ c],w,rfl,rfl,by simp;omega,m',cG,lQ c,rfl,(cJ c hc).1,CL,AZ,CM,GU⟩
       ·refine ⟨_,rfl, .inl ⟨rfl,_,bt.of CM⟩,_,rfl,p,_,_,rfl,rfl,CM,by rw[bO];omega,?_⟩
        refine ⟨many - (ns++[c::w]).length,by rw[List.length_append,QN];simp;omega,_,_,_,ns++[c::w],rfl,AZ.xl pb,by rw[ag,eE],rfl,by simp;omega,fun s hs=>?_,List.nodup_append.mpr ⟨Kt,by simp,fun x hx y hy z=>by rw[List.mem_singleton.mp hy]at z;rw[z]at hx;exact g' hx⟩,(OI.trans GU).xl pH⟩
        rcases List.mem_append.mp hs with z | z
        ·exact DQ s z
        ·rw[List.mem_singleton.mp z]
         exact ⟨by simp,fun d hd=>by
          rcases List.mem_cons.mp hd with rfl | hd
          ·exact hc
          ·exact hw d hd,by simp;omega,fun z=>g2 (by rw[if_neg Bool.false_ne_true,dE];exact decide_eq_true z)⟩
  ·have Zh: ¬ns.length<many:=fun z=>gl (decide_eq_true (by rw[bO];omega))
   exact ⟨_,rfl,q p ns _ pH pb wX (by omega) DQ Kt il OI⟩
theorem CN (T:Txt P w K mg f0 f1 f2 f3 f4 f5 f6 f7 f8 f9 eR fF eS fG fH fI fJ fK fL fM fN eN fO fP fQ fR fS fT fU eU fV fW fX fZ aq ak ax ay aG d0 d1 d2 d3 d4 d5 d6 d7 d8 d9 gi gF gj gG gH gI gJ gK gL gM gN f_ gO gP gQ gR gS gT gU gk gW gX gY gZ aB):bE P w K mg base eK 2 fT gT ["_law_box_here"] (vv K):=by
 have aW:=gf (P:=P) (w:=w) (base:=base) T
 refine T.JQ.fn.ok pj (fun vs H Q E h=>AH h) (fun cN A outer s H vs Q E hr h=>?_)
 refine ⟨_,(ah (aF (i:=1) pj.nd rfl (Or.inr rfl) (bg [97,98,99,100,101,102,103,104,105,106,107,108,109,110,111,112,113,114,115,116,117,118,119,120,121,122] (by decide+kernel)))
   (ah (aF (i:=2) pj.nd rfl (Or.inl rfl) (bQ K rfl PySem.F.plainAttrs_str PySem.F.slot_str_join PySem.F.type_str_join (ei K rfl) (bg [] (by decide+kernel)) (ae (bW ["_law_k","_law_letters","_law_box_here"] [none,some 1,some 0] (cZ rfl T.z_range (ae (aN bG ai (aw aW (hr.mono (by decide)) rfl T.cf.mg T.cf.fn.kp T.cf.bd .nil aO (ae (pv 0) (ae ai af)))) af)) ⟨⟨rfl,rfl,by first | exact .inl rfl | exact .inr rfl⟩,⟨⟨rfl,rfl,by first | exact .inl rfl | exact .inr rfl⟩,trivial⟩⟩ (fun _ _ _ _=>(aU (i:=0) (by decide+kernel:List.Nodup (["_law_k","_law_letters","_law_box_here"]:List Str)) rfl (Or.inl rfl))) (fun _ _ _ _=>cV) (fun _ _ _ _=>(aJ pU (pv 1) (aw aW (hr.mono (by decide)) rfl T.cf.mg T.cf.fn.kp T.cf.bd .nil aO (ae (pv 2) (ae ai af))) (fun _ _=>rfl)))) af)))
   (ao (aE (aN cC (pv 2) (gr K rfl PySem.F.plainAttrs_str PySem.F.slot_str_upper PySem.F.type_str_upper Ah (pv 2))))))),?_⟩
 obtain ⟨b,rfl,hb,q⟩:=h
 have hs:(100000:Nat)<sizeLine:=by decide
 (repeat (first | refine ⟨_,rfl,?_⟩ | refine ⟨_,_,rfl,rfl,?_⟩ | refine ⟨rfl,?_⟩ | refine And.intro (by first | decide | omega | assumption | exact Nat.le_of_ble_eq_true rfl | exact .inl ⟨by decide,by decide⟩ | exact .inr ⟨by decide,by decide⟩ | exact ⟨by decide,by decide⟩ | exact ⟨by omega,by omega⟩) ?_))
 refine ⟨b,3,rfl,hb,by omega,by omega,fun n H1 hn Ba s1=>?_⟩
 (repeat (first | refine ⟨_,rfl,?_⟩ | refine ⟨_,_,rfl,rfl,?_⟩ | refine ⟨rfl,?_⟩ | refine And.intro (by first | decide | omega | assumption | exact Nat.le_of_ble_eq_true rfl | exact .inl ⟨by decide,by decide⟩ | exact .inr ⟨by decide,by decide⟩ | exact ⟨by decide,by decide⟩ | exact ⟨by omega,by omega⟩) ?_))
 refine fh (n:=1+n) (fun i acc H'=>bw H' b/\aD b H H'/\ ∃l:List Nat,acc=cI l/\l.length=i/\ ∀c∈l,c∈aj) (by omega) ⟨Ba,s1,[],rfl,rfl,by simp⟩ ?_ ?_
 ·rintro i acc H2 Nx hi hl ⟨il,s2,l,rfl,lA,hm⟩ nx
  refine ⟨⟨rfl,rfl,trivial⟩,bY ?_⟩
  (repeat (first | refine ⟨_,rfl,?_⟩ | refine ⟨_,_,rfl,rfl,?_⟩ | refine ⟨rfl,?_⟩ | refine And.intro (by first | decide | omega | assumption | exact Nat.le_of_ble_eq_true rfl | exact .inl ⟨by decide,by decide⟩ | exact .inr ⟨by decide,by decide⟩ | exact ⟨by decide,by decide⟩ | exact ⟨by omega,by omega⟩) ?_))
  refine ⟨b,26,rfl,il,by omega,by omega,fun r H3 Kr j1 s3=>?_⟩
  have qm:r<aj.length:=by have:aj.length=26:=rfl;omega
  refine ⟨aj,_,aj[r],rfl,rfl,by decide,aH (List.getElem?_eq_getElem qm),?_⟩
  refine nx _ _ (by simpa using hl) ⟨j1,s2.trans s3,l++[aj[r]],cS _ _,by simp[lA],fun c hc=>?_⟩
  rcases List.mem_append.mp hc with z | z
  ·exact hm c z
  ·rw[List.mem_singleton.mp z];exact List.getElem_mem qm
 ·rintro acc H2 D hl ⟨il,s2,l,rfl,lA,hm⟩ hD
  have OJ:l.length<=3:=by omega
  refine ⟨D,l.map fun c=>[c],rfl,rfl,bt.of ?_,?_,?_⟩
  ·rw[ag, <-dR]
  ·rw[ve];omega
  ·rw[ml]
   have cG: ∀c∈l,Lt c:=fun c hc=> .inl (hm c hc)
   (repeat (first | refine ⟨_,rfl,?_⟩ | refine ⟨_,_,rfl,rfl,?_⟩ | refine ⟨rfl,?_⟩ | refine And.intro (by first | decide | omega | assumption | exact Nat.le_of_ble_eq_true rfl | exact .inl ⟨by decide,by decide⟩ | exact .inr ⟨by decide,by decide⟩ | exact ⟨by decide,by decide⟩ | exact ⟨by omega,by omega⟩) ?_))
   refine ⟨fun c hc=>(cG c hc).lt,by omega,?_⟩
   refine ⟨l,l.map up1,rfl,rfl,by simp;omega,?_⟩
   refine q (l++l.map up1) _ (by intro z;have:=congrArg List.length z;rw[List.length_append,List.length_map,List.length_nil]at this;omega) (by simp;omega) (fun c hc=>?_) (fun c hc=>?_) (il.same (ar.upd hD)) (s2.trans (aD.of (ar.upd hD)))
   ·rcases List.mem_append.mp hc with z | z
    ·exact cG c z
    ·obtain ⟨d,hd,rfl⟩:=List.mem_map.mp z
     exact Jx d (hm d hd)
   ·have h0:0<l.length:=by omega
    rw[List.getElem?_append_left h0,List.getElem?_eq_getElem h0]at hc
    rw[<-Option.some.inj hc]
    exact hm _ (List.getElem_mem h0)
theorem CO (T:Txt P w K mg f0 f1 f2 f3 f4 f5 f6 f7 f8 f9 eR fF eS fG fH fI fJ fK fL fM fN eN fO fP fQ fR fS fT fU eU fV fW fX fZ aq ak ax ay aG d0 d1 d2 d3 d4 d5 d6 d7 d8 d9 gi gF gj gG gH gI gJ gK gL gM gN f_ gO gP gQ gR gS gT gU gk gW gX gY gZ aB):bE P w K mg base eK 2 fU gU ["_law_box_here","_law_pool_here"] (oJ K):=by
 have aW:=gf (P:=P) (w:=w) (base:=base) T
 refine T.JR.fn.ok pk (fun vs H Q E h=>AB h) (fun cN A outer s H vs Q E hr h=>?_)
 refine ⟨_,(ah (aF (i:=2) pk.nd rfl (Or.inr rfl) (pv 1))
   (ah (aX (az fj (aw aW (hr.mono (by decide)) rfl T.cf.mg T.cf.fn.kp T.cf.bd .nil aO (ae (pv 0) (ae ai af))) ai (aL _)) (ao (aF (i:=2) pk.nd rfl (Or.inr rfl) (bg [97,98,99,100,101,102,103,104,105,106,107,108,109,110,111,112,113,114,115,116,117,118,119,120,121,122,65,66,67,68,69,70,71,72,73,74,75,76,77,78,79,80,81,82,83,84,85,86,87,88,89,90] (by decide+kernel)))) aI)
   (ao (aE (bQ K rfl PySem.F.plainAttrs_str PySem.F.slot_str_join PySem.F.type_str_join (ei K rfl) (bg [] (by decide+kernel)) (ae (bW ["_law_k","_law_some","_law_box_here"] [none,some 2,some 0] (cZ rfl T.z_range (ae (aw aW (hr.mono (by decide)) rfl T.cf.mg T.cf.fn.kp T.cf.bd .nil aO (ae (pv 0) (ae ai af))) af)) ⟨⟨rfl,rfl,by first | exact .inl rfl | exact .inr rfl⟩,⟨⟨rfl,rfl,by first | exact .inl rfl | exact .inr rfl⟩,trivial⟩⟩ (fun _ _ _ _=>(aU (i:=0) (by decide+kernel:List.Nodup (["_law_k","_law_some","_law_box_here"]:List Str)) rfl (Or.inl rfl))) (fun _ _ _ _=>cV) (fun _ _ _ _=>(aJ pU (pv 1) (aw aW (hr.mono (by decide)) rfl T.cf.mg T.cf.fn.kp T.cf.bd .nil aO (ae (pv 2) (ae (aV da rfl T.z_len PySem.boot_len (ae (pv 1) af)) af))) (fun _ _=>rfl)))) af)))))),?_⟩
 obtain ⟨b,y,rfl,hb,hy,hyl,Zo,q⟩:=h
 have hs:(100000:Nat)<sizeLine:=by decide
 (repeat (first | refine ⟨_,rfl,?_⟩ | refine ⟨_,_,rfl,rfl,?_⟩ | refine ⟨rfl,?_⟩ | refine And.intro (by first | decide | omega | assumption | exact Nat.le_of_ble_eq_true rfl | exact .inl ⟨by decide,by decide⟩ | exact .inr ⟨by decide,by decide⟩ | exact ⟨by decide,by decide⟩ | exact ⟨by omega,by omega⟩) ?_))
 refine ⟨b,6,rfl,hb,by omega,by omega,fun n0 H0 hn0 Wv s0=>?_⟩
 refine ⟨_,_,rfl,rfl,_,rfl,cj (fun _=>?_) (fun _=>?_)⟩
 ·(repeat (first | refine ⟨_,rfl,?_⟩ | refine ⟨_,_,rfl,rfl,?_⟩ | refine ⟨rfl,?_⟩ | refine And.intro (by first | decide | omega | assumption | exact Nat.le_of_ble_eq_true rfl | exact .inl ⟨by decide,by decide⟩ | exact .inr ⟨by decide,by decide⟩ | exact ⟨by decide,by decide⟩ | exact ⟨by omega,by omega⟩) ?_))
  refine ⟨b,13,rfl,Wv,by omega,by omega,fun n H1 hn Ba s1=>?_⟩
  (repeat (first | refine ⟨_,rfl,?_⟩ | refine ⟨_,_,rfl,rfl,?_⟩ | refine ⟨rfl,?_⟩ | refine And.intro (by first | decide | omega | assumption | exact Nat.le_of_ble_eq_true rfl | exact .inl ⟨by decide,by decide⟩ | exact .inr ⟨by decide,by decide⟩ | exact ⟨by decide,by decide⟩ | exact ⟨by omega,by omega⟩) ?_))
  refine fh (n:=n) (fun i acc H'=>bw H' b/\aD b H H'/\ ∃l:List Nat,acc=cI l/\l.length=i/\ ∀c∈l,c∈kE) (by omega) ⟨Ba,s0.trans s1,[],rfl,rfl,by simp⟩ ?_ ?_
  ·rintro i acc H2 Nx hi hl ⟨il,s2,l,rfl,lA,hm⟩ nx
   have sj:0<(kE).length:=by decide
   have Zp:(kE).length<=60:=by decide
   refine ⟨⟨rfl,rfl,trivial⟩,bY ?_⟩
   (repeat (first | refine ⟨_,rfl,?_⟩ | refine ⟨_,_,rfl,rfl,?_⟩ | refine ⟨rfl,?_⟩ | refine And.intro (by first | decide | omega | assumption | exact Nat.le_of_ble_eq_true rfl | exact .inl ⟨by decide,by decide⟩ | exact .inr ⟨by decide,by decide⟩ | exact ⟨by decide,by decide⟩ | exact ⟨by omega,by omega⟩) ?_))
   refine ⟨b,((kE).length:Nat),rfl,il,by omega,by omega,fun r H3 Kr j1 s3=>?_⟩
   have qm:r<(kE).length:=by omega
   refine ⟨kE,_,(kE)[r],rfl,rfl,by omega,aH (List.getElem?_eq_getElem qm),?_⟩
   refine nx _ _ (by simpa using hl) ⟨j1,s2.trans s3,l++[(kE)[r]],cS _ _,by simp[lA],fun c hc=>?_⟩
   rcases List.mem_append.mp hc with z | z
   ·exact hm c z
   ·rw[List.mem_singleton.mp z];exact List.getElem_mem qm
  ·rintro acc H2 D hl ⟨il,s2,l,rfl,lA,hm⟩ hD
   have OJ:l.length<=12:=by omega
   refine ⟨D,l.map fun c=>[c],rfl,rfl,bt.of ?_,?_,?_⟩
   ·rw[ag, <-dR]
   ·rw[ve];omega
   ·rw[ml]
    exact q l _ OJ (fun c hc=>Fb c (hm c hc)) (il.same (ar.upd hD)) (s2.trans (aD.of (ar.upd hD)))
 ·(repeat (first | refine ⟨_,rfl,?_⟩ | refine ⟨_,_,rfl,rfl,?_⟩ | refine ⟨rfl,?_⟩ | refine And.intro (by first | decide | omega | assumption | exact Nat.le_of_ble_eq_true rfl | exact .inl ⟨by decide,by decide⟩ | exact .inr ⟨by decide,by decide⟩ | exact ⟨by decide,by decide⟩ | exact ⟨by omega,by omega⟩) ?_))
  refine ⟨b,13,rfl,Wv,by omega,by omega,fun n H1 hn Ba s1=>?_⟩
  (repeat (first | refine ⟨_,rfl,?_⟩ | refine ⟨_,_,rfl,rfl,?_⟩ | refine ⟨rfl,?_⟩ | refine And.intro (by first | decide | omega | assumption | exact Nat.le_of_ble_eq_true rfl | exact .inl ⟨by decide,by decide⟩ | exact .inr ⟨by decide,by decide⟩ | exact ⟨by decide,by decide⟩ | exact ⟨by omega,by omega⟩) ?_))
  refine fh (n:=n) (fun i acc H'=>bw H' b/\aD b H H'/\ ∃l:List Nat,acc=cI l/\l.length=i/\ ∀c∈l,c∈y) (by omega) ⟨Ba,s0.trans s1,[],rfl,rfl,by simp⟩ ?_ ?_
  ·rintro i acc H2 Nx hi hl ⟨il,s2,l,rfl,lA,hm⟩ nx
   have sj:0<(y).length:=List.length_pos_iff.mpr hy
   have Zp:(y).length<=60:=by omega
   refine ⟨⟨rfl,rfl,trivial⟩,bY ?_⟩
   (repeat (first | refine ⟨_,rfl,?_⟩ | refine ⟨_,_,rfl,rfl,?_⟩ | refine ⟨rfl,?_⟩ | refine And.intro (by first | decide | omega | assumption | exact Nat.le_of_ble_eq_true rfl | exact .inl ⟨by decide,by decide⟩ | exact .inr ⟨by decide,by decide⟩ | exact ⟨by decide,by decide⟩ | exact ⟨by omega,by omega⟩) ?_))
   refine ⟨b,((y).length:Nat),rfl,il,by omega,by omega,fun r H3 Kr j1 s3=>?_⟩
   have qm:r<(y).length:=by omega
   refine ⟨y,_,(y)[r],rfl,rfl,by omega,aH (List.getElem?_eq_getElem qm),?_⟩
   refine nx _ _ (by simpa using hl) ⟨j1,s2.trans s3,l++[(y)[r]],cS _ _,by simp[lA],fun c hc=>?_⟩
   rcases List.mem_append.mp hc with z | z
   ·exact hm c z
   ·rw[List.mem_singleton.mp z];exact List.getElem_mem qm
  ·rintro acc H2 D hl ⟨il,s2,l,rfl,lA,hm⟩ hD
   have OJ:l.length<=12:=by omega
   refine ⟨D,l.map fun c=>[c],rfl,rfl,bt.of ?_,?_,?_⟩
   ·rw[ag, <-dR]
   ·rw[ve];omega
   ·rw[ml]
    exact q l _ OJ (fun c hc=>Zo c (hm c hc)) (il.same (ar.upd hD)) (s2.trans (aD.of (ar.upd hD)))
theorem xy (T:Txt P w K mg f0 f1 f2 f3 f4 f5 f6 f7 f8 f9 eR fF eS fG fH fI fJ fK fL fM fN eN fO fP fQ fR fS fT fU eU fV fW fX fZ aq ak ax ay aG d0 d1 d2 d3 d4 d5 d6 d7 d8 d9 gi gF gj gG gH gI gJ gK gL gM gN f_ gO gP gQ gR gS gT gU gk gW gX gY gZ aB) (n:Nat) (ih:bE P w K mg base eK (3+n) eU gk ["_law_box_here","_law_known","_law_pool_here","_law_room","_law_deep"] (je K n)):bE P w K mg base eK (3+n+1) eU gk ["_law_box_here","_law_known","_law_pool_here","_law_room","_law_deep"] (je K (n+1)):=by
 have aW:=gf (P:=P) (w:=w) (base:=base) T
 have FE:=CO (P:=P) (w:=w) (base:=base) T
 refine T.tK.fn.ok gb (fun vs H Q E h=>AI h) (fun cN A outer s H vs Q E hr h=>?_)
 refine ⟨_,(ah (aF (i:=5) gb.nd rfl (Or.inl rfl) (aw aW (hr.mono (by omega)) rfl T.cf.mg T.cf.fn.kp T.cf.bd .nil aO (ae (pv 0) (ae ai af))))
   (ah (aX (PW.pt (gn (az j8 (pv 3) ai (aL _)) (gn (az j8 (pv 4) ai (aL _)) (gA (az j8 (pv 5) ai (aL _)))))) (ah (aX (PW.pt (lh (az (nY K rfl hr) (pv 1) (bL af) (aL _)) (jm (az fj (aw aW (hr.mono (by omega)) rfl T.cf.mg T.cf.fn.kp T.cf.bd .nil aO (ae (pv 0) (ae ai af))) ai (aL _))))) (ao (aE (aZ (ae (bg [110,97,109,101] (by decide+kernel)) (ae (aJ (ba K rfl) (pv 1) (aw aW (hr.mono (by omega)) rfl T.cf.mg T.cf.fn.kp T.cf.bd .nil aO (ae (pv 0) (ae (aV (bD K rfl) rfl T.z_len PySem.boot_len (ae (pv 1) af)) af))) (fun _ _=>rfl)) af))))) aI)
   (ao (aE (aZ (ae (bg [119,97,108,107] (by decide+kernel)) (ae (aw FE (hr.mono (by omega)) rfl T.JR.mg T.JR.fn.kp T.JR.bd .nil aO (ae (pv 0) (ae (pv 2) af))) af)))))) aI)
   (ah (aX (PW.pt (gn (az fj (pv 5) ai (aL _)) (gA (PW.pt (lh (az j8 (pv 3) ai (aL _)) (jm (az qy (pv 5) ai (aL _)))))))) (ao (aE (aZ (ae (bg [98,97,99,107] (by decide+kernel)) (ae (aw ih hr rfl T.tK.mg T.tK.fn.kp T.tK.bd .nil aO (ae (pv 0) (ae (pv 1) (ae (pv 2) (ae (aN iz (pv 3) ai) (ae (aN iz (pv 4) ai) af)))))) af))))) aI)
   (ah (aX (az fj (pv 5) ai (aL _)) (ah (aF (i:=6) gb.nd rfl (Or.inl rfl) (aw aW (hr.mono (by omega)) rfl T.cf.mg T.cf.fn.kp T.cf.bd .nil aO (ae (pv 0) (ae ai af))))
   (ao (aE (aZ (ae (bg [97,103,97,105,110] (by decide+kernel)) (ae (pv 6) (ae (aw ih hr rfl T.tK.mg T.tK.fn.kp T.tK.bd .nil aO (ae (pv 0) (ae (pv 1) (ae (pv 2) (ae (aN iz (pv 3) ai) (ae (aN iz (pv 4) ai) af)))))) af))))))) aI)
   (ah (aF (i:=7) gb.nd rfl (Or.inl rfl) (aN bG ai (aw aW (hr.mono (by omega)) rfl T.cf.mg T.cf.fn.kp T.cf.bd .nil aO (ae (pv 0) (ae (aN iz (pv 3) ai) af)))))
   (ah (aF (i:=8) gb.nd rfl (Or.inl rfl) (aJ (ba K rfl) (bL (ae (aJ pU (bg [97,98,99,100,101,102,103,104,105,106,107,108,109,110,111,112,113,114,115,116,117,118,119,120,121,122] (by decide+kernel)) (aw aW (hr.mono (by omega)) rfl T.cf.mg T.cf.fn.kp T.cf.bd .nil aO (ae (pv 0) (ae ai af))) (fun _ _=>rfl)) (ae (aJ pU (pv 2) ai (fun _ _=>rfl)) af))) (aw aW (hr.mono (by omega)) rfl T.cf.mg T.cf.fn.kp T.cf.bd .nil aO (ae (pv 0) (ae ai af))) (fun _ _=>rfl)))
   (ah (aF (i:=9) gb.nd rfl (Or.inl rfl) (aw ih hr rfl T.tK.mg T.tK.fn.kp T.tK.bd .nil aO (ae (pv 0) (ae (pv 1) (ae (pv 2) (ae (pv 7) (ae (aN iz (pv 4) ai) af)))))))
   (ah (aF (i:=10) gb.nd rfl (Or.inl rfl) (aw ih hr rfl T.tK.mg T.tK.fn.kp T.tK.bd .nil aO (ae (pv 0) (ae (pv 1) (ae (pv 2) (ae (aN iz (aN iz (pv 3) ai) (pv 7)) (ae (aN iz (pv 4) ai) af)))))))
   (ah (aX (az qy (pv 5) ai (aL _)) (ao (aE (aZ (ae (bg [102,111,114] (by decide+kernel)) (ae (pv 8) (ae (pv 9) (ae (pv 10) af))))))) aI)
   (ao (aE (aZ (ae (bg [116,104,101,110] (by decide+kernel)) (ae (pv 9) (ae (pv 10) af))))))))))))))),?_⟩
 obtain ⟨b,kp,known,l,room,deep,rfl,hb,zh,hk,wb,v9,hl,FF,cG,Dp,Ww,Wx,q⟩:=h
 have hs:(100000:Nat)<sizeLine:=by decide
 have sj:0<l.length:=List.length_pos_iff.mpr hl
 refine ⟨_,rfl,b,8,rfl,hb,by omega,by omega,fun lW H1 hf Ba s1=>?_⟩
 have ub:=s1 _ _ hk zh
 refine share (c:=room<2\/deep<1\/lW<2) ?_ ?_ (fun hA hB=>⟨_,rfl,_,_,rfl,rfl,_,rfl,cj (fun g=>wL (hA (.inl (by have:=of_decide_eq_true g;omega)))) (fun g1=>⟨_,rfl,_,_,rfl,rfl,_,rfl,cj (fun g=>wL (hA (.inr (.inl (by have:=of_decide_eq_true g;omega))))) (fun g2=>⟨_,rfl,_,_,rfl,rfl,_,rfl,cj (fun g=>hA (.inr (.inr (by have:=of_decide_eq_true g;omega)))) (fun g3=>hB (Y_ g1 g2 g3))⟩)⟩)⟩)
 ·intro _
  have zi: ∀H2,bw H2 b->aD b H H2->oJ K [.ref b, .str (S l)] H2 (fun v H3=>2<=sizeLine/\ ∀p,H3 p=none->Q (.ref p) (upd H3 p (.tup [.str (S dA),v]))) E0:=fun H2 il s2=>
   ⟨b,l,rfl,il,hl,FF,cG,fun w H3 hw Gg j1 s3=>⟨by decide,fun p np=>q p (.walk w) _ ag (by show 1<=deep+1;omega) ⟨Gg,hw⟩ (fun s hs=>by cases hs) (j1.same (ar.upd np)) ((s2.trans s3).trans (aD.of (ar.upd np)))⟩⟩
  refine ⟨_,rfl,by show 0<=sizeLine;decide,fun p2 n2=>?_⟩
  have s2:aD b H (upd H1 p2 (.lst [])):=s1.trans (aD.of (ar.upd n2))
  have me:upd H1 p2 (.lst []) kp=some (.lst (bz known)):=ar.upd n2 _ _ ub
  have il:bw (upd H1 p2 (.lst [])) b:=Ba.same (ar.upd n2)
  refine ⟨.list (pM known), .list [], .lst (bt.of me) (hJ _), .lst (bt.of ag) .nil,⟨ju fun s hs=>(v9 s hs).kD,rfl⟩,by show PyData.depthAll (pM known)+1<=60;rw[jv];decide,_,rfl,?_⟩
  rw[Fc]
  generalize upd H1 p2 (.lst [])=H2 at s2 me il ⊢
  refine cj (fun g=>?_) (fun g=>wK ?_)
  ·have z9:known≠[]:=fun z=>by rw[decide_eq_true z]at g;cases g
   have Wy:0<known.length:=List.length_pos_iff.mpr z9
   refine ⟨_,rfl,b,2,rfl,il,by omega,by omega,fun r3 H3 Kr j1 s3=>?_⟩
   have EO:=s3 _ _ me zh
   refine ⟨_,_,rfl,rfl,_,rfl,cj (fun _=>?_) (fun _=>?_)⟩
   ·refine ⟨_,rfl,_,rfl,_,rfl,kp,_,rfl, .inl (bt.of EO),?_⟩
    rw[bO]
    refine ⟨b,(known.length:Nat),rfl,j1,by omega,by omega,fun r4 H4 qm uc s4=>?_⟩
    have Ku:=s4 _ _ EO zh
    have Dn:r4<known.length:=by omega
    have e5:(bz known)[r4]? =some (.str (S known[r4])):=by unfold bz;rw[List.getElem?_map,List.getElem?_eq_getElem Dn];rfl
    refine ⟨kp,_,_,_,rfl,rfl,bt.of Ku,aH e5,by show 2<=sizeLine;decide,fun p5 n5=>?_⟩
    exact q p5 (.name known[r4]) _ ag (by show 1<=deep+1;omega) trivial (fun s hs=>by rw[List.mem_singleton.mp hs];exact List.getElem_mem Dn) (uc.same (ar.upd n5)) (((s2.trans s3).trans s4).trans (aD.of (ar.upd n5)))
   ·exact ⟨_,rfl,_,rfl,zi H3 j1 (s2.trans s3)⟩
  ·exact ⟨_,rfl,_,rfl,zi H2 il s2⟩
 ·intro g
  have e1:((room - 1:Nat):Int)=(room:Int) - 1:=by omega
  have e2:((deep - 1:Nat):Int)=(deep:Int) - 1:=by omega
  refine share (c:=lW=2\/(room<3/\3<lW)) ?_ ?_ (fun hA hB=>⟨_,rfl,_,_,rfl,rfl,_,rfl,cj (fun g=>wL (hA (.inl (by have:=of_decide_eq_true g;omega)))) (fun g1=>⟨_,rfl,_,_,rfl,rfl,_,rfl,cj (fun g2=>⟨_,rfl,_,_,rfl,rfl,_,rfl,cj (fun g3=>hA (.inr (by have h2:=of_decide_eq_true g2;have h3:=of_decide_eq_true g3;omega))) (fun g3=>hB ?_)⟩) (fun g2=>wK (hB ?_))⟩)⟩)
  ·intro _
   refine ⟨_,rfl,_,rfl,_,rfl,_,rfl,_,_,rfl,rfl,_,rfl,_,_,rfl,rfl,b,kp,known,l,room - 1,deep - 1,by rw[e1,e2];rfl,Ba,zh,ub,wb,v9,hl,FF,cG,Dp,by omega,by omega,fun a t H2 ht hd ho hm il s2=>?_⟩
   refine ⟨by show 2<=sizeLine;decide,fun p np=>?_⟩
   exact q p (.back t) _ ⟨a,ag,ht.same (ar.upd np)⟩ (by show dep t+1<=deep+1;omega) ho hm (il.same (ar.upd np)) ((s1.trans s2).trans (aD.of (ar.upd np)))
  ·intro g2
   refine ⟨_,rfl,_,_,rfl,rfl,_,rfl,cj (fun g3=>?_) (fun g3=>?_)⟩
   ·refine ⟨_,rfl,b,7,rfl,Ba,by omega,by omega,fun M8 H2 ho il s2=>?_⟩
    have me:=s2 _ _ ub zh
    refine ⟨_,rfl,_,rfl,_,rfl,_,rfl,_,rfl,_,_,rfl,rfl,_,rfl,_,_,rfl,rfl,b,kp,known,l,room - 1,deep - 1,by rw[e1,e2];rfl,il,zh,me,wb,v9,hl,FF,cG,Dp,by omega,by omega,fun a t H3 ht hd ho hm j1 s3=>?_⟩
    refine ⟨by show 3<=sizeLine;decide,fun p np=>?_⟩
    exact q p (.again M8 t) _ ⟨a,ag,ht.same (ar.upd np)⟩ (by show dep t+1<=deep+1;omega) ⟨by omega,ho⟩ hm (j1.same (ar.upd np)) (((s1.trans s2).trans s3).trans (aD.of (ar.upd np)))
   ·have h3: ¬((lW:Int)=3):=fun z=>g3 (decide_eq_true z)
    have e3:((room - 2:Nat):Int)=(room:Int) - 2:=by omega
    refine ⟨_,rfl,_,rfl,_,_,rfl,rfl,b,(room:Int) - 2,rfl,Ba,by omega,by omega,fun r2 H2 Wz il s2=>?_⟩
    have me:=s2 _ _ ub zh
    refine ⟨_,_,rfl,rfl,?_⟩
    refine ⟨_,rfl,b,26,rfl,il,by omega,by omega,fun r3 H3 Kr j1 s3=>?_⟩
    have EO:=s3 _ _ me zh
    have qm:r3<aj.length:=by have:aj.length=26:=rfl;omega
    refine ⟨aj,_,aj[r3],rfl,rfl,by decide,aH (List.getElem?_eq_getElem qm),?_⟩
    refine ⟨_,rfl,l,((0:Nat):Int),l[0],rfl,rfl,by omega,aH (List.getElem?_eq_getElem sj),?_⟩
    refine ⟨by show 2<=sizeLine;decide,fun p4 n4=>?_⟩
    have s4:=ar.upd (o:=HO.lst [V.str (S [aj[r3]]),V.str (S [l[0]])]) n4
    have h4:upd H3 p4 (HO.lst [V.str (S [aj[r3]]),V.str (S [l[0]])]) p4=some (HO.lst [V.str (S [aj[r3]]),V.str (S [l[0]])]):=ag
    generalize upd H3 p4 (HO.lst [V.str (S [aj[r3]]),V.str (S [l[0]])])=H4 at s4 h4 ⊢
    have Ku:=s4 _ _ EO
    have uc:=j1.same s4
    have Zq:p4≠b:=j1.ne n4
    refine ⟨_,rfl,b,2,rfl,uc,by omega,by omega,fun r5 H5 Dn A_ s5=>?_⟩
    have WA:=s5 _ _ Ku zh
    obtain ⟨c,hc,Ke⟩:=Cr (List.getElem_mem qm) (Dp _ (List.getElem?_eq_getElem sj)) r5 Dn
    refine ⟨p4,_,_,_,rfl,rfl,bt.of (s5 _ _ h4 Zq),aH hc,?_⟩
    have GV:aD b H H5:=((((s1.trans s2).trans s3).trans (aD.of s4)).trans s5)
    refine ⟨_,rfl,_,rfl,_,rfl,_,rfl,_,rfl,_,_,rfl,rfl,b,kp,known,l,1+r2,deep - 1,by rw[e2];simp,A_,zh,WA,wb,v9,hl,FF,cG,Dp,by omega,by omega,fun a t H6 ht hd ho hm AZ s6=>?_⟩
    have QR:=s6 _ _ WA zh
    have e6:((room - 1 - (1+r2):Nat):Int)=(room:Int) - 1 - (1+r2):=by omega
    refine ⟨_,rfl,_,rfl,_,rfl,_,rfl,_,_,rfl,rfl,_,rfl,_,_,rfl,rfl,_,rfl,_,_,rfl,rfl,b,kp,known,l,room - 1 - (1+r2),deep - 1,by rw[e2,e6];rfl,AZ,zh,QR,wb,v9,hl,FF,cG,Dp,by omega,by omega,fun a2 t2 H7 OK hd2 HJ Jp WB s7=>?_⟩
    have WC:=ht.ts (s7.Ck AZ)
    have WD:=(GV.trans s6).trans s7
    refine ⟨_,rfl,_,_,rfl,rfl,_,rfl,cj (fun _=>?_) (fun _=>?_)⟩
    ·refine ⟨_,rfl,_,rfl,_,rfl,by show 4<=sizeLine;decide,fun p np=>?_⟩
     refine q p (.fr c t t2) _ ⟨a,a2,ag,WC.same (ar.upd np),OK.same (ar.upd np)⟩ (by show max (dep t) (dep t2)+1<=deep+1;omega) ⟨Ke,ho,HJ⟩ (fun s hs=>?_) (WB.same (ar.upd np)) (WD.trans (aD.of (ar.upd np)))
     rcases List.mem_append.mp hs with z | z
     ·exact hm s z
     ·exact Jp s z
    ·refine ⟨_,rfl,_,rfl,by show 3<=sizeLine;decide,fun p np=>?_⟩
     refine q p (.aS t t2) _ ⟨a,a2,ag,WC.same (ar.upd np),OK.same (ar.upd np)⟩ (by show max (dep t) (dep t2)+1<=deep+1;omega) ⟨ho,HJ⟩ (fun s hs=>?_) (WB.same (ar.upd np)) (WD.trans (aD.of (ar.upd np)))
     rcases List.mem_append.mp hs with z | z
     ·exact hm s z
     ·exact Jp s z
  ·have h1: ¬((lW:Int)=2):=fun z=>g1 (decide_eq_true z)
   have h3: ¬((3:Int)<lW):=fun z=>g3 (decide_eq_true z)
   omega
  ·have h1: ¬((lW:Int)=2):=fun z=>g1 (decide_eq_true z)
   have h2: ¬((room:Int)<3):=fun z=>g2 (decide_eq_true z)
   omega
theorem vM (T:Txt P w K mg f0 f1 f2 f3 f4 f5 f6 f7 f8 f9 eR fF eS fG fH fI fJ fK fL fM fN eN fO fP fQ fR fS fT fU eU fV fW fX fZ aq ak ax ay aG d0 d1 d2 d3 d4 d5 d6 d7 d8 d9 gi gF gj gG gH gI gJ gK gL gM gN f_ gO gP gQ gR gS gT gU gk gW gX gY gZ aB): ∀n,bE P w K mg base eK (3+n) eU gk ["_law_box_here","_law_known","_law_pool_here","_law_room","_law_deep"] (je K n)
 | 0=>i8 fun vs H Q E h=>AJ h
 | n+1=>xy T n (vM T n)
theorem vN (T:Txt P w K mg f0 f1 f2 f3 f4 f5 f6 f7 f8 f9 eR fF eS fG fH fI fJ fK fL fM fN eN fO fP fQ fR fS fT fU eU fV fW fX fZ aq ak ax ay aG d0 d1 d2 d3 d4 d5 d6 d7 d8 d9 gi gF gj gG gH gI gJ gK gL gM gN f_ gO gP gQ gR gS gT gU gk gW gX gY gZ aB):bE P w K mg base eK 12 fV gW ["_law_box_here","_law_top","_law_room"] (mz K):=by
 have pq:=rC (P:=P) (w:=w) (base:=base) T
 have FG:=CN (P:=P) (w:=w) (base:=base) T
 have aW:=gf (P:=P) (w:=w) (base:=base) T
 have FH:=vM (P:=P) (w:=w) (base:=base) T
 refine T.JS.fn.ok gz (fun vs H Q E h=>tI h) (fun cN A outer s H vs Q E hr h=>?_)
 refine ⟨_,(ah (aF (i:=3) gz.nd rfl (Or.inr rfl) (aw pq (hr.mono (by decide)) rfl T.Dj.mg T.Dj.fn.kp T.Dj.bd .nil aO (ae (pv 0) (ae (pv 1) af))))
   (ah (aF (i:=4) gz.nd rfl (Or.inr rfl) (aw FG (hr.mono (by decide)) rfl T.JQ.mg T.JQ.fn.kp T.JQ.bd .nil aO (ae (pv 0) af)))
   (ah (aF (i:=5) gz.nd rfl (Or.inl rfl) (aN bG ai (aw aW (hr.mono (by decide)) rfl T.cf.mg T.cf.fn.kp T.cf.bd .nil aO (ae (pv 0) (ae (pv 1) af)))))
   (ao (aE (c_ (fk K rfl) rfl T.z_tuple boot_tuple (ae (bW ["_law_k","_law_names_here","_law_box_here","_law_pool_here","_law_room"] [none,some 3,some 0,some 4,some 2] (cZ rfl T.z_range (ae (pv 5) af)) ⟨⟨rfl,rfl,by first | exact .inl rfl | exact .inr rfl⟩,⟨⟨rfl,rfl,by first | exact .inl rfl | exact .inr rfl⟩,⟨⟨rfl,rfl,by first | exact .inl rfl | exact .inr rfl⟩,⟨⟨rfl,rfl,by first | exact .inl rfl | exact .inr rfl⟩,trivial⟩⟩⟩⟩ (fun _ _ _ _=>(aU (i:=0) (by decide+kernel:List.Nodup (["_law_k","_law_names_here","_law_box_here","_law_pool_here","_law_room"]:List Str)) rfl (Or.inl rfl))) (fun _ _ _ _=>cV) (fun _ _ _ _=>(aZ (ae (aJ (ba K rfl) (pv 1) (pv 0) (fun _ _=>rfl)) (ae (aw (FH 8) (hr.mono (by decide)) rfl T.tK.mg T.tK.fn.kp T.tK.bd .nil aO (ae (pv 2) (ae (bJ (kl K rfl) (pv 1) ef (bC (pv 0))) (ae (pv 3) (ae (pv 4) (ae ai af)))))) af))))) af))))))),?_⟩
 obtain ⟨b,rfl,hb,q⟩:=h
 have hs:(100000:Nat)<sizeLine:=by decide
 refine ⟨_,rfl,_,rfl,b,3,rfl,hb,by omega,fun np ns H1 nn1 nb MN hlen a_ Kt Ba s1=>?_⟩
 refine ⟨_,rfl,b,rfl,Ba,fun l H2 hl FF cG Dp il s2=>?_⟩
 refine ⟨_,rfl,_,rfl,b,3,rfl,il,by omega,by omega,fun m H3 hm j1 s3=>⟨_,_,rfl,rfl,?_⟩⟩
 have Wd:=s3 _ _ (s2 _ _ MN nb) nb
 refine ⟨_,rfl,_,rfl,by omega,by omega,?_⟩
 have en:((1:Int)+(m:Int)).toNat=1+m:=by omega
 rw[en]
 refine fh (n:=1+m) (fun i acc H'=>bw H' b/\aD b H H'/\H' np=some (.lst (bz ns))/\ ∃ks:List Rw,acc=jN ks/\ks.length=i/\(∀k∈ks,AA H' k/\eI k.t)/\cA ks=ns.take i/\ ∀(j:Nat) (k:Rw),ks[j]? =some k-> ∀s∈gE k.t,s∈ns.take j) (by omega)
  ⟨j1,(s1.trans s2).trans s3,Wd,[],rfl,rfl,by simp,rfl,by simp⟩ ?_ ?_
 ·rintro i acc H4 Nx hi WE ⟨uc,s4,OL,ks,rfl,wb,M9,M_,JU⟩ nx
  have QS:i<ns.length:=by omega
  refine ⟨⟨rfl,rfl,rfl,rfl,trivial⟩,bY ?_⟩
  refine ⟨_,rfl,_,rfl,np,_,_,_,rfl,rfl,bt.of OL,by rw[Int.zero_add];exact aH (Cf QS),?_⟩
  refine ⟨_,rfl,_,rfl,_,rfl,_,rfl,np,_,rfl,bt.of OL,fun kp nk=>?_⟩
  rw[Int.zero_add,s_]
  have s5:=ar.upd (o:=HO.lst (bz (ns.take i))) nk
  have h5:upd H4 kp (HO.lst (bz (ns.take i))) kp=some (HO.lst (bz (ns.take i))):=ag
  have Zr:kp≠b:=uc.ne nk
  generalize upd H4 kp (HO.lst (bz (ns.take i)))=H5 at s5 h5 ⊢
  have A_:=uc.same s5
  refine ⟨_,rfl,_,rfl,b,kp,ns.take i,l,9,5,rfl,A_,Zr,h5,by rw[List.length_take];omega,fun s hs=>(a_ s (List.mem_of_mem_take hs)).ok,hl,FF,cG,Dp,by omega,by omega,fun a t H6 ht hd ho WG AZ s6=>?_⟩
  refine ⟨by show 2<=sizeLine;decide,fun p7 n7=>?_⟩
  have s7:=ar.upd (o:=HO.tup [V.str (S ns[i]),V.ref a]) n7
  have h7:upd H6 p7 (HO.tup [V.str (S ns[i]),V.ref a]) p7=some (HO.tup [V.str (S ns[i]),V.ref a]):=ag
  generalize upd H6 p7 (HO.tup [V.str (S ns[i]),V.ref a])=H7 at s7 h7 ⊢
  have QT:aD b H4 H7:=((aD.of s5).trans s6).trans (aD.of s7)
  have ts:=QT.Ck uc
  have Na:ns[i]? =some ns[i]:=List.getElem?_eq_getElem QS
  refine nx _ _ (by simpa using WE) ⟨AZ.same s7,s4.trans QT,QT _ _ OL nb,ks++[⟨p7,a,ns[i],t⟩],vj ks ⟨p7,a,ns[i],t⟩,by simp[wb],fun k hk=>?_,?_,fun j k hk s hs=>?_⟩
  ·rcases List.mem_append.mp hk with z | z
   ·exact ⟨(M9 k z).1.ts ts,(M9 k z).2⟩
   ·rw[List.mem_singleton.mp z]
    exact ⟨⟨h7,ht.same s7,by show dep t<=7;omega,(a_ _ (List.getElem_mem QS)).kD,fun s hs=>(a_ s (List.mem_of_mem_take (WG s hs))).kD⟩,ho⟩
  ·rw[<-take_snoc Na, <-M_];unfold cA;rw[List.map_append];rfl
  ·by_cases z:j<ks.length
   ·rw[List.getElem?_append_left z]at hk
    exact JU j k hk s hs
   ·have hj:j=ks.length:=by
     have:=(List.getElem?_eq_some_iff.mp hk).1
     rw[List.length_append,List.length_singleton]at this
     omega
    subst hj
    rw[List.getElem?_append_right (Nat.le_refl _),Nat.sub_self]at hk
    have:k=⟨p7,a,ns[i],t⟩:=(Option.some.inj hk).symm
    subst this
    rw[wb]
    exact WG s hs
 ·rintro acc H4 D WE ⟨uc,s4,OL,ks,rfl,wb,M9,M_,JU⟩ hD
  refine ⟨D,_,rfl, .inl ⟨bt.of ag,fun p8 n8=>?_⟩⟩
  have s8:=(ar.upd (o:=HO.lst (jN ks)) hD).trans (ar.upd (o:=HO.tup (jN ks)) n8)
  refine q p8 ks _ ⟨⟨ag,fun k hk=>(M9 k hk).1.ts (bq.of s8),by omega⟩,fun k hk=>(M9 k hk).2,?_,fun i k hk s hs=>?_⟩ (fun k hk=>a_ _ (List.mem_of_mem_take (by rw[<-M_];exact List.mem_map.mpr ⟨k,hk,rfl⟩))) (by omega) (by omega) (uc.same s8) (s4.trans (aD.of s8))
  ·rw[M_];exact Kt.sublist (List.take_sublist _ _)
  ·have hi:=(List.getElem?_eq_some_iff.mp hk).1
   have e:cA (ks.take i)=ns.take i:=by
    have e1:cA (ks.take i)=(cA ks).take i:=by unfold cA;rw[List.map_take]
    rw[e1,M_,List.take_take,Nat.min_eq_left (by omega)]
   rw[e]
   exact JU i k hk s hs
theorem mC (T:Txt P w K mg f0 f1 f2 f3 f4 f5 f6 f7 f8 f9 eR fF eS fG fH fI fJ fK fL fM fN eN fO fP fQ fR fS fT fU eU fV fW fX fZ aq ak ax ay aG d0 d1 d2 d3 d4 d5 d6 d7 d8 d9 gi gF gj gG gH gI gJ gK gL gM gN f_ gO gP gQ gR gS gT gU gk gW gX gY gZ aB):bE P w K mg base eK 1 f5 d5 ["term"] (mq K):=by
 refine T.F5.fn.ok vJ (fun vs H Q E h=>sW h) (fun cN A outer s H vs Q E hr h=>?_)
 refine ⟨_,(ah (aX (az cM (aJ (aM K rfl) (pv 0) ai (fun _ _=>rfl)) (bg [116,104,101,110] (by decide+kernel)) (aL _)) (ao (aE (bL (ae (aJ (aM K rfl) (pv 0) ai (fun _ _=>rfl)) (ae (aJ (aM K rfl) (pv 0) ai (fun _ _=>rfl)) af))))) aI)
   (ah (aX (az cM (aJ (aM K rfl) (pv 0) ai (fun _ _=>rfl)) (bg [98,97,99,107] (by decide+kernel)) (aL _)) (ao (aE (bL (ae (aJ (aM K rfl) (pv 0) ai (fun _ _=>rfl)) af)))) aI)
   (ah (aX (az cM (aJ (aM K rfl) (pv 0) ai (fun _ _=>rfl)) (bg [97,103,97,105,110] (by decide+kernel)) (aL _)) (ao (aE (bL (ae (aJ (aM K rfl) (pv 0) ai (fun _ _=>rfl)) af)))) aI)
   (ah (aX (az cM (aJ (aM K rfl) (pv 0) ai (fun _ _=>rfl)) (bg [102,111,114] (by decide+kernel)) (aL _)) (ao (aE (bL (ae (aJ (aM K rfl) (pv 0) ai (fun _ _=>rfl)) (ae (aJ (aM K rfl) (pv 0) ai (fun _ _=>rfl)) af))))) aI)
   (ao (aE (bL af))))))),?_⟩
 obtain ⟨a,t,rfl,hT,q⟩:=h
 have hs:(100000:Nat)<sizeLine:=by decide
 cases t with
 | walk w=>
  have h:H a=some (.tup [.str (S dA), .str (S w)]):=hT
  refine ⟨_,rfl,a,_,0,_,rfl,rfl,bp.of h,rfl,_,_,rfl,rfl,_,rfl,bo (by decide) ?_⟩
  refine ⟨_,rfl,a,_,0,_,rfl,rfl,bp.of h,rfl,_,_,rfl,rfl,_,rfl,bo (by decide) ?_⟩
  refine ⟨_,rfl,a,_,0,_,rfl,rfl,bp.of h,rfl,_,_,rfl,rfl,_,rfl,bo (by decide) ?_⟩
  refine ⟨_,rfl,a,_,0,_,rfl,rfl,bp.of h,rfl,_,_,rfl,rfl,_,rfl,bo (by decide) ?_⟩
  exact ⟨by show 0<=sizeLine;decide,fun p np=>q p [] _ np ag trivial (ar.upd np)⟩
 | name w=>
  have h:H a=some (.tup [.str (S dN), .str (S w)]):=hT
  refine ⟨_,rfl,a,_,0,_,rfl,rfl,bp.of h,rfl,_,_,rfl,rfl,_,rfl,bo (by decide) ?_⟩
  refine ⟨_,rfl,a,_,0,_,rfl,rfl,bp.of h,rfl,_,_,rfl,rfl,_,rfl,bo (by decide) ?_⟩
  refine ⟨_,rfl,a,_,0,_,rfl,rfl,bp.of h,rfl,_,_,rfl,rfl,_,rfl,bo (by decide) ?_⟩
  refine ⟨_,rfl,a,_,0,_,rfl,rfl,bp.of h,rfl,_,_,rfl,rfl,_,rfl,bo (by decide) ?_⟩
  exact ⟨by show 0<=sizeLine;decide,fun p np=>q p [] _ np ag trivial (ar.upd np)⟩
 | back t=>
  obtain ⟨b,h,g⟩:=hT
  refine ⟨_,rfl,a,_,0,_,rfl,rfl,bp.of h,rfl,_,_,rfl,rfl,_,rfl,bo (by decide) ?_⟩
  refine ⟨_,rfl,a,_,0,_,rfl,rfl,bp.of h,rfl,_,_,rfl,rfl,_,rfl,eP (by decide) ?_⟩
  exact ⟨_,rfl,a,_,1,_,rfl,rfl,bp.of h,rfl,by show 1<=sizeLine;decide,fun p np=>q p [b] _ np ag ⟨g.same (ar.upd np),trivial⟩ (ar.upd np)⟩
 | again k t=>
  obtain ⟨b,h,g⟩:=hT
  refine ⟨_,rfl,a,_,0,_,rfl,rfl,bp.of h,rfl,_,_,rfl,rfl,_,rfl,bo (by decide) ?_⟩
  refine ⟨_,rfl,a,_,0,_,rfl,rfl,bp.of h,rfl,_,_,rfl,rfl,_,rfl,bo (by decide) ?_⟩
  refine ⟨_,rfl,a,_,0,_,rfl,rfl,bp.of h,rfl,_,_,rfl,rfl,_,rfl,eP (by decide) ?_⟩
  exact ⟨_,rfl,a,_,2,_,rfl,rfl,bp.of h,rfl,by show 1<=sizeLine;decide,fun p np=>q p [b] _ np ag ⟨g.same (ar.upd np),trivial⟩ (ar.upd np)⟩
 | aS x y=>
  obtain ⟨b,c,h,g1,g2⟩:=hT
  refine ⟨_,rfl,a,_,0,_,rfl,rfl,bp.of h,rfl,_,_,rfl,rfl,_,rfl,eP (by decide) ?_⟩
  exact ⟨_,rfl,a,_,1,_,rfl,rfl,bp.of h,rfl,_,rfl,a,_,2,_,rfl,rfl,bp.of h,rfl,by show 2<=sizeLine;decide,fun p np=>q p [b,c] _ np ag ⟨g1.same (ar.upd np),g2.same (ar.upd np),trivial⟩ (ar.upd np)⟩
 | fr l x y=>
  obtain ⟨b,c,h,g1,g2⟩:=hT
  refine ⟨_,rfl,a,_,0,_,rfl,rfl,bp.of h,rfl,_,_,rfl,rfl,_,rfl,bo (by decide) ?_⟩
  refine ⟨_,rfl,a,_,0,_,rfl,rfl,bp.of h,rfl,_,_,rfl,rfl,_,rfl,bo (by decide) ?_⟩
  refine ⟨_,rfl,a,_,0,_,rfl,rfl,bp.of h,rfl,_,_,rfl,rfl,_,rfl,bo (by decide) ?_⟩
  refine ⟨_,rfl,a,_,0,_,rfl,rfl,bp.of h,rfl,_,_,rfl,rfl,_,rfl,eP (by decide) ?_⟩
  exact ⟨_,rfl,a,_,2,_,rfl,rfl,bp.of h,rfl,_,rfl,a,_,3,_,rfl,rfl,bp.of h,rfl,by show 2<=sizeLine;decide,fun p np=>q p [b,c] _ np ag ⟨g1.same (ar.upd np),g2.same (ar.upd np),trivial⟩ (ar.upd np)⟩
theorem mD (T:Txt P w K mg f0 f1 f2 f3 f4 f5 f6 f7 f8 f9 eR fF eS fG fH fI fJ fK fL fM fN eN fO fP fQ fR fS fT fU eU fV fW fX fZ aq ak ax ay aG d0 d1 d2 d3 d4 d5 d6 d7 d8 d9 gi gF gj gG gH gI gJ gK gL gM gN f_ gO gP gQ gR gS gT gU gk gW gX gY gZ aB):bE P w K mg base eK 1 f2 d2 ["letter"] (mj K):=by
 refine T.F2.fn.ok vI (fun vs H Q E h=>sM h) (fun cN A outer s H vs Q E hr h=>?_)
 refine ⟨_,(ah (aX (fc (gr K rfl PySem.F.plainAttrs_str PySem.F.slot_str_islower PySem.F.type_str_islower wR (pv 0))) (ao (aE (gr K rfl PySem.F.plainAttrs_str PySem.F.slot_str_upper PySem.F.type_str_upper uA (pv 0)))) aI)
   (ao (aE (gr K rfl PySem.F.plainAttrs_str PySem.F.slot_str_lower PySem.F.type_str_lower BA (pv 0))))),?_⟩
 obtain ⟨c,rfl,hc,q⟩:=h
 refine ⟨_,rfl,rfl,c,rfl,rfl,hc,_,rfl,cj (fun e=>?_) (fun e=>?_)⟩
 ·refine ⟨_,rfl,rfl,c,rfl,rfl,hc,?_⟩
  have z:dw c=PyProof.Rows.up1 c:=if_pos e
  rw[<-z]
  exact q
 ·refine ⟨_,rfl,rfl,c,rfl,rfl,hc,?_⟩
  have z:dw c=PyProof.Rows.lo1 c:=if_neg e
  rw[<-z]
  exact q
theorem kZ (T:Txt P w K mg f0 f1 f2 f3 f4 f5 f6 f7 f8 f9 eR fF eS fG fH fI fJ fK fL fM fN eN fO fP fQ fR fS fT fU eU fV fW fX fZ aq ak ax ay aG d0 d1 d2 d3 d4 d5 d6 d7 d8 d9 gi gF gj gG gH gI gJ gK gL gM gN f_ gO gP gQ gR gS gT gU gk gW gX gY gZ aB):bE P w K mg base eK 2 f4 d4 ["word"] (kF K):=by
 have j2:=mD (P:=P) (w:=w) (base:=base) T
 refine T.F4.fn.ok iH (fun vs H Q E h=>qa h) (fun cN A outer s H vs Q E hr h=>?_)
 refine ⟨_,(ah (aF (i:=1) iH.nd rfl (Or.inl rfl) (bL af))
   (ah (iy PassesOwn.never rfl (r_ (pv 0)) (aU (i:=2) iH.nd rfl (Or.inl rfl)) (ao (aX (PW.pt (lh (D0 K rfl (pv 1)) (jm (az cM (aJ (ba K rfl) (pv 1) (Bl wo ai) (fun _ _=>rfl)) (aw j2 (hr.mono (by decide)) rfl T.F2.mg T.F2.fn.kp T.F2.bd .nil aO (ae (pv 2) af)) (aL _))))) (ao (gp (gr K rfl PySem.F.plainAttrs_list PySem.F.slot_list_pop PySem.F.type_list_pop HV (pv 1)))) (ao (gp (bQ K rfl PySem.F.plainAttrs_list PySem.F.slot_list_append PySem.F.type_list_append g9 (pv 1) (ae (pv 2) af)))))))
   (ao (aE (bQ K rfl PySem.F.plainAttrs_str PySem.F.slot_str_join PySem.F.type_str_join (ei K rfl) (bg [] (by decide+kernel)) (ae (pv 1) af)))))),?_⟩
 obtain ⟨l,rfl,hl,hz,q⟩:=h
 have hs:(100000:Nat)<sizeLine:=by decide
 (repeat (first | refine ⟨_,rfl,?_⟩ | refine ⟨_,_,rfl,rfl,?_⟩ | refine ⟨rfl,?_⟩ | refine And.intro (by first | decide | omega | assumption | exact Nat.le_of_ble_eq_true rfl | exact .inl ⟨by decide,by decide⟩ | exact .inr ⟨by decide,by decide⟩ | exact ⟨by decide,by decide⟩ | exact ⟨by omega,by omega⟩) ?_))
 intro p1 n1
 refine ⟨_,rfl,l,rfl,?_⟩
 refine yj (xs:=cI l) (fun i σ H'=> ∃lv,σ=[some (.str (S l)),some (.ref p1),lv]/\H' p1=some (.lst (cI (red (l.take i))))/\aD p1 H H') ⟨none,rfl,ag,aD.of (ar.upd n1)⟩ ?_ ?_
 ·rintro i x σ H1 hx ⟨lv,rfl,hp,s1⟩
  obtain ⟨c,hc,rfl⟩:=ki hx
  have hi:i<l.length:=(List.getElem?_eq_some_iff.mp hc).1
  have h8:c<128:=(hl c (List.mem_of_getElem? hc)).lt
  have QU:(red (l.take i)).length<=10000:=Nat.le_trans (sR _) (by rw[List.length_take];omega)
  have fin: ∀st,st=bS (red (l.take i)) c-> ∃lv,[some (V.str (S l)),some (V.ref p1),some (V.str (S [c]))]=[some (V.str (S l)),some (.ref p1),lv]/\(upd H1 p1 (.lst (cI st))) p1=some (.lst (cI (red (l.take (i+1)))))/\aD p1 H (upd H1 p1 (.lst (cI st))):=fun st e=>
   ⟨_,rfl,by rw[ag,Cj hc,e],fun b o e z=>by rw[aA z];exact s1 b o e z⟩
  refine ⟨_,rfl,p1,_,rfl,bt.of hp,?_⟩
  rcases snoc_cases (red (l.take i)) with e | ⟨m,a,e⟩
  ·rw[e]at hp ⊢
   refine bo rfl ?_
   refine wK ?_
   refine ⟨_,rfl, .inl ⟨rfl,_,bt.of hp⟩,_,rfl,p1,_,_,rfl,rfl,hp,by rw[bV];exact (by decide:(0:Nat)<sizeLine),?_⟩
   rw[cS]
   refine fin _ ?_
   rw[e]
   unfold bS
   rw[if_neg (by simp)]
  ·rw[e]at hp QU ⊢
   have V8:m.length<=10000:=by simp at QU;omega
   rw[<-cS]at hp ⊢
   refine eP (by simp) ?_
   refine ⟨_,rfl,_,rfl,p1,_,_,_,rfl,rfl,bt.of hp,Br _ _,_,rfl,c,rfl,h8,[a],[dw c],rfl,rfl,_,rfl,cj (fun z=>?_) (fun z=>?_)⟩
   ·have ea:a=dw c:=by simpa using of_decide_eq_true z
    refine ⟨_,rfl, .inl ⟨rfl,_,bt.of hp⟩,p1,_,V.str (S [a]),rfl,rfl,hp,by simp,?_⟩
    rw[List.dropLast_concat]
    refine fin _ ?_
    rw[e]
    unfold bS
    rw[if_pos (by simp[ea]),List.dropLast_concat]
   ·have ea:a≠dw c:=fun w=>z (decide_eq_true (by rw[w]))
    refine ⟨_,rfl, .inl ⟨rfl,_,bt.of hp⟩,_,rfl,p1,_,_,rfl,rfl,hp,by rw[List.length_append,bV];show m.length+1<sizeLine;omega,?_⟩
    rw[cS,cS]
    refine fin _ ?_
    rw[e]
    unfold bS
    rw[if_neg (by simpa using ea)]
 ·rintro σ H1 ⟨lv,rfl,hp,s1⟩
  rw[Ce]at hp
  refine ⟨rfl,_,rfl,p1,(red l).map fun c=>[c],rfl,rfl,bt.of (by rw[<-dR];exact hp),?_,?_⟩
  ·rw[ve]
   have:=sR l
   omega
  ·rw[ml]
   exact q _ (fun b o e=>s1 b o e (aC e n1))
theorem rD (T:Txt P w K mg f0 f1 f2 f3 f4 f5 f6 f7 f8 f9 eR fF eS fG fH fI fJ fK fL fM fN eN fO fP fQ fR fS fT fU eU fV fW fX fZ aq ak ax ay aG d0 d1 d2 d3 d4 d5 d6 d7 d8 d9 gi gF gj gG gH gI gJ gK gL gM gN f_ gO gP gQ gR gS gT gU gk gW gX gY gZ aB):bE P w K mg base eK 2 f3 d3 ["word"] (qZ K):=by
 have j2:=mD (P:=P) (w:=w) (base:=base) T
 refine T.F3.fn.ok AW (fun vs H Q E h=>xj h) (fun cN A outer s H vs Q E hr h=>?_)
 refine ⟨_,(ao (aE (bQ K rfl PySem.F.plainAttrs_str PySem.F.slot_str_join PySem.F.type_str_join (ei K rfl) (bg [] (by decide+kernel)) (ae (bW ["letter"] [none] (Ij rfl T.z_reversed (ae (pv 0) af)) trivial (fun _ _ _ _=>(aU (i:=0) (by decide+kernel:List.Nodup (["letter"]:List Str)) rfl (Or.inl rfl))) (fun _ _ _ _=>cV) (fun _ _ _ _=>(aw j2 (hr.mono (by decide)) rfl T.F2.mg T.F2.fn.kp T.F2.bd .nil aO (ae (pv 0) af)))) af)))),?_⟩
 obtain ⟨l,rfl,hc,hz,q⟩:=h
 have hs:(1000:Nat)<sizeLine:=by decide
 refine ⟨rfl,_,rfl,l,rfl,by omega,?_⟩
 rw[E7]
 refine kj (xs:=cI l.reverse) (fun i acc H'=>ar H H'/\acc=cI ((l.reverse.take i).map dw)) (by rw[bV,List.length_reverse];omega) ⟨ar.refl H,rfl⟩ ?_ ?_
 ·rintro i x acc H1 Nx hi hx hl ⟨s1,rfl⟩ nx
  obtain ⟨c,qv,rfl⟩:=ki hx
  refine ⟨trivial,bY ⟨_,rfl,c,rfl,hc c (List.mem_reverse.mp (List.mem_of_getElem? qv)),nx _ _ (by simpa using hl) ⟨s1,?_⟩⟩⟩
  rw[cS, <-take_snoc qv,List.map_append]
  rfl
 ·rintro acc H1 D hl ⟨s1,rfl⟩ hD
  refine ⟨D,(cR l).map fun c=>[c],rfl,rfl,bt.of ?_,?_,?_⟩
  ·rw[ag, <-dR,bV,List.take_of_length_le (Nat.le_refl _),List.map_reverse]
   rfl
  ·rw[ve]
   unfold cR
   rw[List.length_reverse,List.length_map]
   omega
  ·rw[ml]
   exact q _ (s1.trans (ar.upd hD))
theorem xA (T:Txt P w K mg f0 f1 f2 f3 f4 f5 f6 f7 f8 f9 eR fF eS fG fH fI fJ fK fL fM fN eN fO fP fQ fR fS fT fU eU fV fW fX fZ aq ak ax ay aG d0 d1 d2 d3 d4 d5 d6 d7 d8 d9 gi gF gj gG gH gI gJ gK gL gM gN f_ gO gP gQ gR gS gT gU gk gW gX gY gZ aB):bE P w K mg base eK 3 f8 d8 ["letter","word","other"] (oM K):=by
 have pz:=rD (P:=P) (w:=w) (base:=base) T
 refine T.F8.fn.ok oZ (fun vs H Q E h=>vq h) (fun cN A outer s H vs Q E hr h=>?_)
 refine ⟨_,(ah (aF (i:=3) oZ.nd rfl (Or.inr rfl) (Ef (uH (pv 0) (pv 2) (uH (gr K rfl PySem.F.plainAttrs_str PySem.F.slot_str_upper PySem.F.type_str_upper uA (pv 0)) (aw pz (hr.mono (by decide)) rfl T.F3.mg T.F3.fn.kp T.F3.bd .nil aO (ae (pv 2) af)) Ed)) rfl rfl (by simp) (by decide)))
   (ao (aE (bQ K rfl PySem.F.plainAttrs_str PySem.F.slot_str_join PySem.F.type_str_join (ei K rfl) (bg [] (by decide+kernel)) (ae (bW ["each","places"] [none,some 3] (r_ (pv 1)) ⟨⟨rfl,rfl,by first | exact .inl rfl | exact .inr rfl⟩,trivial⟩ (fun _ _ _ _=>(aU (i:=0) (by decide+kernel:List.Nodup (["each","places"]:List Str)) rfl (Or.inl rfl))) (fun _ _ _ _=>cV) (fun _ _ _ _=>(BO (qH hr) (pv 1) (pv 0) (pv 0) ⟨rfl,rfl,rfl,rfl⟩))) af))))),?_⟩
 obtain ⟨c,x,y,rfl,hc,hx,hy,q⟩:=h
 have hs:(100000:Nat)<sizeLine:=by decide
 obtain ⟨c1,c2,c3,c4⟩:=AE c hc
 intro p np
 refine ⟨_,rfl,_,rfl,_,rfl,rfl,c,rfl,rfl,c4,_,rfl,y,rfl,fun e he=>(hy.1 e he).lt,Nat.le_trans hy.2 (by decide),fun H1 s1=>?_⟩
 refine ⟨s1 _ _ ag,[(kS [c], .str (S y)),(kS [up1 c], .str (S (cR y)))],rfl,(by show 2<=15;decide),?_⟩
 have z9:kS [c]≠kS [up1 c]:=fun z=>by
  have:=lP z
  rw[c2]at this
  exact c3 (List.cons.inj this).1.symm
 have em:lH [] [(kS [c],V.str (S y)),(kS [up1 c], .str (S (cR y)))]=[(kS [c], .str (S y)),(kS [up1 c], .str (S (cR y)))]:=by
  show putK (putK [] (kS [c]) (.str (S y))) (kS [up1 c]) (.str (S (cR y)))=_
  have e1:putK [] (kS [c]) (V.str (S y))=[(kS [c],V.str (S y))]:=rfl
  rw[e1,oa _ (by rw[bf z9];rfl)]
  rfl
 rw[em]
 have sH:aD p H H1:=fun b o e z=>s1 b o (by rw[aA z];exact e)
 have hp:upd H1 p (.dK [(kS [c], .str (S y)),(kS [up1 c], .str (S (cR y)))]) p=some (.dK [(kS [c], .str (S y)),(kS [up1 c], .str (S (cR y)))]):=ag
 have sA:ar H (upd H1 p (.dK [(kS [c], .str (S y)),(kS [up1 c], .str (S (cR y)))])):=fun b o e=>by rw[aA (aC e np)];exact sH b o e (aC e np)
 generalize upd H1 p (.dK [(kS [c], .str (S y)),(kS [up1 c], .str (S (cR y)))])=H2 at hp sA ⊢
 refine ⟨rfl,_,rfl,x,rfl,?_⟩
 refine kj (xs:=cI x) (fun i acc H'=>H'=H2/\acc=bz ((x.take i).map (fu c y))) (by rw[bV];have:=hx.2;omega) ⟨rfl,rfl⟩ ?_ ?_
 ·rintro i e acc H3 Nx hi he hl ⟨rfl,rfl⟩ nx
  obtain ⟨d,hd,rfl⟩:=ki he
  refine ⟨⟨rfl,trivial⟩,bY ⟨_,rfl,p,rfl, .inl ⟨_, .inl hp⟩,_,rfl,_,rfl,_,jH.k (k:=kS [d]) hp,?_⟩⟩
  have ev:(cQ [(kS [c],V.str (S y)),(kS [up1 c],V.str (S (cR y)))] (kS [d])).getD (V.str (S [d]))=V.str (S (fu c y d)):=by
   unfold fu
   by_cases z:d=c
   ·rw[if_pos z,z,bF rfl];rfl
   ·rw[if_neg z,bf (fun w=>z (List.cons.inj (lP w)).1.symm)]
    by_cases z2:d=dw c
    ·rw[if_pos z2,bF (by rw[c2,z2])];rfl
    ·rw[if_neg z2,bf (fun w=>z2 (by rw[<-c2];exact (List.cons.inj (lP w)).1.symm))];rfl
  rw[ev]
  refine nx _ _ (by simpa using hl) ⟨rfl,?_⟩
  rw[eE, <-take_snoc hd,List.map_append]
  rfl
 ·rintro acc H3 D hl ⟨rfl,rfl⟩ hD
  rw[bV,List.take_length]
  have hsz:=(kG (c:=c) hy hx.1).2
  refine ⟨D,x.map (fu c y),rfl,rfl,bt.of ag,?_,q _ (sA.trans (ar.upd hD))⟩
  have:((x.map (fu c y)).map List.length).sum=(bM c y x).length:=by unfold bM;rw[List.length_flatten]
  rw[this]
  have:=hx.2
  omega
theorem xB (T:Txt P w K mg f0 f1 f2 f3 f4 f5 f6 f7 f8 f9 eR fF eS fG fH fI fJ fK fL fM fN eN fO fP fQ fR fS fT fU eU fV fW fX fZ aq ak ax ay aG d0 d1 d2 d3 d4 d5 d6 d7 d8 d9 gi gF gj gG gH gI gJ gK gL gM gN f_ gO gP gQ gR gS gT gU gk gW gX gY gZ aB):bE P w K mg base eK 4 f9 d9 ["term","words","known"] (oK K):=by
 have pz:=rD (P:=P) (w:=w) (base:=base) T
 have A0:=xA (P:=P) (w:=w) (base:=base) T
 refine T.F9.fn.ok xx (fun vs H Q E h=>vo h) (fun cN A outer s H vs Q E hr h=>?_)
 refine ⟨_,(ah (aX (az cM (aJ (aM K rfl) (pv 0) ai (fun _ _=>rfl)) (bg [119,97,108,107] (by decide+kernel)) (aL _)) (ao (aE (aJ (aM K rfl) (pv 0) ai (fun _ _=>rfl)))) aI)
   (ah (aX (az cM (aJ (aM K rfl) (pv 0) ai (fun _ _=>rfl)) (bg [110,97,109,101] (by decide+kernel)) (aL _)) (ao (aE (Ea (qH hr) (pv 2) (aJ (aM K rfl) (pv 0) ai (fun _ _=>rfl)) (fun _ _=>rfl)))) aI)
   (ah (aX (az cM (aJ (aM K rfl) (pv 0) ai (fun _ _=>rfl)) (bg [116,104,101,110] (by decide+kernel)) (aL _)) (ao (aE (aN cC (aJ (ba K rfl) (pv 1) ai (fun _ _=>rfl)) (aJ (ba K rfl) (pv 1) ai (fun _ _=>rfl))))) aI)
   (ah (aX (az cM (aJ (aM K rfl) (pv 0) ai (fun _ _=>rfl)) (bg [98,97,99,107] (by decide+kernel)) (aL _)) (ao (aE (aw pz (hr.mono (by decide)) rfl T.F3.mg T.F3.fn.kp T.F3.bd .nil aO (ae (aJ (ba K rfl) (pv 1) ai (fun _ _=>rfl)) af)))) aI)
   (ah (aX (az cM (aJ (aM K rfl) (pv 0) ai (fun _ _=>rfl)) (bg [97,103,97,105,110] (by decide+kernel)) (aL _)) (ao (aE (aN D4 (aJ (ba K rfl) (pv 1) ai (fun _ _=>rfl)) (aJ (aM K rfl) (pv 0) ai (fun _ _=>rfl))))) aI)
   (ao (aE (aw A0 (hr.mono (by decide)) rfl T.F8.mg T.F8.fn.kp T.F8.bd .nil aO (ae (aJ (aM K rfl) (pv 0) ai (fun _ _=>rfl)) (ae (aJ (ba K rfl) (pv 1) ai (fun _ _=>rfl)) (ae (aJ (ba K rfl) (pv 1) ai (fun _ _=>rfl)) af))))))))))),?_⟩
 obtain ⟨a,wp,d,t,ws,kvs,rfl,hT,JV,hw,hl,FI,OM,v9,q⟩:=h
 have hs:(100000:Nat)<sizeLine:=by decide
 cases t with
 | walk w=>
  have h:H a=some (.tup [.str (S dA), .str (S w)]):=hT
  refine ⟨_,rfl,a,_,0,_,rfl,rfl,bp.of h,rfl,_,_,rfl,rfl,_,rfl,eP (by decide) ?_⟩
  exact ⟨_,rfl,a,_,1,_,rfl,rfl,bp.of h,rfl,q _ (ar.refl _)⟩
 | name s=>
  have h:H a=some (.tup [.str (S dN), .str (S s)]):=hT
  refine ⟨_,rfl,a,_,0,_,rfl,rfl,bp.of h,rfl,_,_,rfl,rfl,_,rfl,bo (by decide) ?_⟩
  refine ⟨_,rfl,a,_,0,_,rfl,rfl,bp.of h,rfl,_,_,rfl,rfl,_,rfl,eP (by decide) ?_⟩
  exact ⟨_,rfl,_,rfl,a,_,1,_,rfl,rfl,bp.of h,rfl,d,_,rfl,(by show jH H d (V.str (S s)) (some (V.str (S (kn kvs s))));rw[<-MR (v9.has s List.mem_cons_self)];exact jH.k (k:=kS s) OM),q _ (ar.refl _)⟩
 | aS x y=>
  obtain ⟨b,c,h,g1,g2⟩:=hT
  obtain ⟨u,v,rfl⟩:=ni (show ws.length=2 from hl)
  have hu:=FI u List.mem_cons_self
  have hv:=FI v (List.mem_cons_of_mem _ List.mem_cons_self)
  have Zs:=hu.2
  have hv2:=hv.2
  refine ⟨_,rfl,a,_,0,_,rfl,rfl,bp.of h,rfl,_,_,rfl,rfl,_,rfl,bo (by decide) ?_⟩
  refine ⟨_,rfl,a,_,0,_,rfl,rfl,bp.of h,rfl,_,_,rfl,rfl,_,rfl,bo (by decide) ?_⟩
  refine ⟨_,rfl,a,_,0,_,rfl,rfl,bp.of h,rfl,_,_,rfl,rfl,_,rfl,eP (by decide) ?_⟩
  exact ⟨_,rfl,wp,_,0,_,rfl,rfl,bt.of hw,rfl,_,rfl,wp,_,1,_,rfl,rfl,bt.of hw,rfl,u,v,rfl,rfl,by omega,q _ (ar.refl _)⟩
 | back t=>
  obtain ⟨b,h,g⟩:=hT
  obtain ⟨u,rfl⟩: ∃x,ws=[x]:=List.length_eq_one_iff.mp hl
  have hu:=FI u List.mem_cons_self
  refine ⟨_,rfl,a,_,0,_,rfl,rfl,bp.of h,rfl,_,_,rfl,rfl,_,rfl,bo (by decide) ?_⟩
  refine ⟨_,rfl,a,_,0,_,rfl,rfl,bp.of h,rfl,_,_,rfl,rfl,_,rfl,bo (by decide) ?_⟩
  refine ⟨_,rfl,a,_,0,_,rfl,rfl,bp.of h,rfl,_,_,rfl,rfl,_,rfl,bo (by decide) ?_⟩
  refine ⟨_,rfl,a,_,0,_,rfl,rfl,bp.of h,rfl,_,_,rfl,rfl,_,rfl,eP (by decide) ?_⟩
  exact ⟨_,rfl,wp,_,0,_,rfl,rfl,bt.of hw,rfl,u,rfl,fun c hc=>(hu.1 c hc).lt,Nat.le_trans hu.2 (by decide),fun H' s'=>q _ s'⟩
 | again k t=>
  obtain ⟨b,h,g⟩:=hT
  obtain ⟨u,rfl⟩: ∃x,ws=[x]:=List.length_eq_one_iff.mp hl
  have hu:=FI u List.mem_cons_self
  have QR:k<=6:=JV.1
  have:=Nat.mul_le_mul hu.2 QR
  refine ⟨_,rfl,a,_,0,_,rfl,rfl,bp.of h,rfl,_,_,rfl,rfl,_,rfl,bo (by decide) ?_⟩
  refine ⟨_,rfl,a,_,0,_,rfl,rfl,bp.of h,rfl,_,_,rfl,rfl,_,rfl,bo (by decide) ?_⟩
  refine ⟨_,rfl,a,_,0,_,rfl,rfl,bp.of h,rfl,_,_,rfl,rfl,_,rfl,bo (by decide) ?_⟩
  refine ⟨_,rfl,a,_,0,_,rfl,rfl,bp.of h,rfl,_,_,rfl,rfl,_,rfl,bo (by decide) ?_⟩
  refine ⟨_,rfl,a,_,0,_,rfl,rfl,bp.of h,rfl,_,_,rfl,rfl,_,rfl,eP (by decide) ?_⟩
  exact ⟨_,rfl,wp,_,0,_,rfl,rfl,bt.of hw,rfl,_,rfl,a,_,1,_,rfl,rfl,bp.of h,rfl,u,(k:Int),rfl,rfl,by omega,by rw[Int.toNat_natCast];omega,by rw[Int.toNat_natCast];exact q _ (ar.refl _)⟩
 | fr c x y=>
  obtain ⟨b,e,h,g1,g2⟩:=hT
  obtain ⟨u,v,rfl⟩:=ni (show ws.length=2 from hl)
  have hu:=FI u List.mem_cons_self
  have hv:=FI v (List.mem_cons_of_mem _ List.mem_cons_self)
  refine ⟨_,rfl,a,_,0,_,rfl,rfl,bp.of h,rfl,_,_,rfl,rfl,_,rfl,bo (by decide) ?_⟩
  refine ⟨_,rfl,a,_,0,_,rfl,rfl,bp.of h,rfl,_,_,rfl,rfl,_,rfl,bo (by decide) ?_⟩
  refine ⟨_,rfl,a,_,0,_,rfl,rfl,bp.of h,rfl,_,_,rfl,rfl,_,rfl,bo (by decide) ?_⟩
  refine ⟨_,rfl,a,_,0,_,rfl,rfl,bp.of h,rfl,_,_,rfl,rfl,_,rfl,bo (by decide) ?_⟩
  refine ⟨_,rfl,a,_,0,_,rfl,rfl,bp.of h,rfl,_,_,rfl,rfl,_,rfl,bo (by decide) ?_⟩
  exact ⟨_,rfl,a,_,1,_,rfl,rfl,bp.of h,rfl,_,rfl,wp,_,0,_,rfl,rfl,bt.of hw,rfl,_,rfl,wp,_,1,_,rfl,rfl,bt.of hw,rfl,c,u,v,rfl,JV.1,hu,hv,fun H' s'=>q _ s'⟩
theorem tN:aQ ["self","name"] ["self","name"] (au dt):=⟨rfl,rfl,rfl,by decide+kernel,rfl,by decide+kernel,by decide+kernel⟩
theorem tO (T:Txt P w K mg f0 f1 f2 f3 f4 f5 f6 f7 f8 f9 eR fF eS fG fH fI fJ fK fL fM fN eN fO fP fQ fR fS fT fU eU fV fW fX fZ aq ak ax ay aG d0 d1 d2 d3 d4 d5 d6 d7 d8 d9 gi gF gj gG gH gI gJ gK gL gM gN f_ gO gP gQ gR gS gT gU gk gW gX gY gZ aB):bE P w K mg base eK 1 ax aB ["self","name"] (yA aq "name"):=by
 refine T.AU.ok tN (fun vs H Q E h=>I_ h) (fun cN A outer s H vs Q E hr h=>?_)
 refine ⟨_,(ah (gp (BX T.xb rfl T.vH (ae (pv 0) (ae (pv 1) af)))) (ao (Er (pv 0) (pv 1) rfl))),?_⟩
 obtain ⟨e,v,rfl,he,q⟩:=h
 exact ⟨_,rfl,_,rfl,e,aq,none,[v],rfl,by show 1<=sizeLine;decide,he,T.ig,_,rfl,_,rfl,e,aq,rfl,T.ig,T.n_TooLong_name, .inl ⟨he,q⟩⟩
theorem tP (T:Txt P w K mg f0 f1 f2 f3 f4 f5 f6 f7 f8 f9 eR fF eS fG fH fI fJ fK fL fM fN eN fO fP fQ fR fS fT fU eU fV fW fX fZ aq ak ax ay aG d0 d1 d2 d3 d4 d5 d6 d7 d8 d9 gi gF gj gG gH gI gJ gK gL gM gN f_ gO gP gQ gR gS gT gU gk gW gX gY gZ aB) (n:Nat) (ih:bE P w K mg base (yy P w K) (5+n) eR gi ["name","term","known"] (fA K aq n)):bE P w K mg base (yy P w K) (5+n+1) eR gi ["name","term","known"] (fA K aq (n+1)):=by
 have j3:=mC (P:=P) (w:=w) (base:=base) T
 have jh:=kZ (P:=P) (w:=w) (base:=base) T
 have A1:=xB (P:=P) (w:=w) (base:=base) T
 have vO:=tO (P:=P) (w:=w) (base:=base) T
 refine T.Df.fn.VL j0 (fun vs H Q E h=>vm h) (fun cN A outer s H vs Q E hr h=>?_)
 refine ⟨_,(ah (B3 (E:=E) (i:=3) ["part","name","known"] [none,some 0,some 2] Ms ⟨rfl,rfl⟩ rfl j0.nd rfl (Or.inl rfl) (i3 K rfl (aw j3 (hr.mono (by omega)) rfl T.F5.mg T.F5.fn.kp T.F5.bd .nil aO (ae (pv 1) af))) ⟨⟨rfl,rfl,by first | exact .inl rfl | exact .inr rfl⟩,⟨⟨rfl,rfl,by first | exact .inl rfl | exact .inr rfl⟩,trivial⟩⟩ (fun _ _ _ _ _ _=>(aU (i:=0) (by decide+kernel:List.Nodup (["part","name","known"]:List Str)) rfl (Or.inl rfl))) (fun _ _ _ _ _ _=>cV) (fun _ _ _ _ _ _ Qy=>(om ih hr rfl T.Df.mg T.Df.fn.kp T.Df.bd .nil Qy (ae (pv 1) (ae (pv 0) (ae (pv 2) af))))))
   (ah (aF (i:=4) j0.nd rfl (Or.inl rfl) (aw jh (hr.mono (by omega)) rfl T.F4.mg T.F4.fn.kp T.F4.bd .nil aO (ae (aw A1 (hr.mono (by omega)) rfl T.F9.mg T.F9.fn.kp T.F9.bd .nil aO (ae (pv 1) (ae (pv 3) (ae (pv 2) af)))) af)))
   (ah (aX (az qy (aV da rfl T.z_len PySem.boot_len (ae (pv 4) af)) (Gm 60 rfl T.g_LONGEST) (aL _)) (ao (Ad K H rfl rfl hr.hd IJ (BW T.AS vO (hr.mono (by omega)) rfl T.rB T.AV (ae (pv 0) af)))) aI)
   (ao (aE (pv 4)))))),?_⟩
 obtain ⟨nm,a,d,t,kvs,rfl,ht,JV,Nb,hn,OM,v9,q1,q2⟩:=h
 have hs:(100000:Nat)<sizeLine:=by decide
 refine ⟨_,rfl,a,t,rfl,ht,fun qp as H1 nq hq has s1=>⟨qp,rfl,⟨_,bt.of hq⟩,?_⟩⟩
 have hlen:=has.len
 have Ei:(subs t).length<=2:=by cases t<;>simp[subs]
 refine lE (K:=K) (a:=qp) (xs:=j5 as) (fun i acc H'=>ar H1 H'/\ ∃ws,acc=bz ws/\vals kvs ((subs t).take i)=some ws) (by rw[eg];omega) (fun i acc H' h=>bt.of (h.1 _ _ hq)) ⟨ar.refl _,[],rfl,by rfl⟩ ?_ ?_
 ·rintro i x acc H2 Nx hi hx lA ⟨s2,ws,rfl,hv⟩ nx
  obtain ⟨b,hb,rfl⟩:=sV hx
  obtain ⟨u,hu,Zt⟩:=has.get hb
  have Kg:u∈subs t:=List.mem_of_getElem? hu
  have Dq:=s1.trans s2
  refine ⟨⟨rfl,rfl,trivial⟩,bY ?_⟩
  refine ⟨_,rfl,_,rfl,_,rfl,nm,b,d,u,kvs,rfl,Zt.same s2,yW JV Kg,hV Nb Kg,by omega,Dq _ _ OM,v9.sub Kg,fun x hx H3 s3=>?_,fun hx e H3 he s3=>?_⟩
  ·refine nx _ _ (by simpa using lA) ⟨s2.trans s3,ws++[x],eE _ _,?_⟩
   rw[<-take_snoc hu]
   exact q9 hx hv
  ·intro D acc hD
   refine q2 (by rw[val_eq,q_ hx Kg];rfl) e _ (by rw[aA (aC he hD)];exact he) ((Dq.trans s3).trans (ar.upd hD))
 ·rintro acc H2 D lA ⟨s2,ws,rfl,hv⟩ hD
  rw[eg,hlen,List.take_length]at hv
  have GW:=(s1.trans s2).trans (ar.upd (o:=HO.lst (bz ws)) hD)
  obtain ⟨m1,m2⟩:=vt hv
  have FI: ∀x∈ws,q8 x:=fun x hx=>by
   obtain ⟨u,hu,e⟩:=m2 x hx
   exact jd u (yW JV hu) (v9.sub hu) e
  have QV:=Fg JV v9 m1 FI
  refine ⟨_,rfl,_,rfl,_,rfl,a,D,d,t,ws,kvs,rfl,ht.same GW,JV,ag,m1,FI,GW _ _ OM,v9,fun H4 s4=>?_⟩
  refine ⟨jc kvs t ws,rfl,QV.1,QV.2,fun H5 s5=>?_⟩
  have GV:=(GW.trans s4).trans s5
  have QU:(red (jc kvs t ws)).length<=10000:=Nat.le_trans (sR _) QV.2
  have Nd:val kvs t=mQ (red (jc kvs t ws)):=by rw[val_eq,hv];rfl
  refine ⟨_,rfl,red (jc kvs t ws),rfl,by omega,_,_,rfl,rfl,_,rfl,cj (fun g=>?_) (fun g=>?_)⟩
  ·have g':(60:Int)<((red (jc kvs t ws)).length:Int):=of_decide_eq_true g
   have yG:val kvs t=none:=by rw[Nd];unfold mQ;rw[if_pos (by omega)]
   exact ⟨_,rfl,BZ T.ig GV fun d' H6 zx s6=>q2 yG d' _ zx (GV.trans s6)⟩
  ·have g': ¬(60:Int)<((red (jc kvs t ws)).length:Int):=fun z=>g (decide_eq_true z)
   have Nf:val kvs t=some (red (jc kvs t ws)):=by rw[Nd];unfold mQ;rw[if_neg (by omega)]
   exact ⟨_,rfl,q1 _ Nf _ GV⟩
theorem pA (T:Txt P w K mg f0 f1 f2 f3 f4 f5 f6 f7 f8 f9 eR fF eS fG fH fI fJ fK fL fM fN eN fO fP fQ fR fS fT fU eU fV fW fX fZ aq ak ax ay aG d0 d1 d2 d3 d4 d5 d6 d7 d8 d9 gi gF gj gG gH gI gJ gK gL gM gN f_ gO gP gQ gR gS gT gU gk gW gX gY gZ aB): ∀n,bE P w K mg base (yy P w K) (5+n) eR gi ["name","term","known"] (fA K aq n)
 | 0=>i8 fun vs H Q E h=>vn h
 | n+1=>tP T n (pA T n)
theorem A2 (T:Txt P w K mg f0 f1 f2 f3 f4 f5 f6 f7 f8 f9 eR fF eS fG fH fI fJ fK fL fM fN eN fO fP fQ fR fS fT fU eU fV fW fX fZ aq ak ax ay aG d0 d1 d2 d3 d4 d5 d6 d7 d8 d9 gi gF gj gG gH gI gJ gK gL gM gN f_ gO gP gQ gR gS gT gU gk gW gX gY gZ aB):bE P w K mg base (yy P w K) 14 fF gF ["program"] (rf K aq):=by
 have A3:=pA (P:=P) (w:=w) (base:=base) T
 refine T.JF.fn.VL jD (fun vs H Q E h=>xo h) (fun cN A outer s H vs Q E hr h=>?_)
 refine ⟨_,(ah (aF (i:=1) jD.nd rfl (Or.inl rfl) uG)
   (ah (iy (PassesOwn.leaving) rfl (jo K rfl (pv 0)) (m6 (n:=2) K rfl rfl (cF (aU (i:=2) jD.nd rfl (Or.inl rfl)) (cF (aU (i:=3) jD.nd rfl (Or.inl rfl)) j7))) (ao (yq (qH hr) (pv 1) (pv 2) (om (A3 8) (hr.mono (by decide)) rfl T.Df.mg T.Df.fn.kp T.Df.bd .nil Me (ae (pv 2) (ae (pv 3) (ae (pv 1) af)))) rfl)))
   (ao (aE (c_ (pX rfl) rfl T.z_list boot_list (ae (gr K rfl PySem.F.plainAttrs_dict PySem.F.slot_dict_values PySem.F.type_dict_values z0 (pv 1)) af)))))),?_⟩
 obtain ⟨p,ks,rfl,hp,q1,q2⟩:=h
 have hs:(100000:Nat)<sizeLine:=by decide
 have QW:=hp.at_.fw
 intro d nd
 refine ⟨_,rfl,p,rfl,⟨_,bp.of (ar.upd nd _ _ hp.at_.tp)⟩,?_⟩
 refine xV (K:=K) (a:=p) (xs:=jN ks) (fun i σ H'=> ∃(nv tv:Option V) (kvs:List (List Nat×List Nat)),σ=[some (.ref p),some (.ref d),nv,tv]/\H' d=some (.dK (yV kvs))/\kvs.map (·.1)=cA (ks.take i)/\(∀q∈kvs,q8 q.2)/\dI [] (lR ks)=dI kvs (lR (ks.drop i))/\aD d H H')
  ⟨none,none,[],rfl,ag,rfl,by simp,rfl,aD.of (ar.upd nd)⟩ (fun i σ H' _ ⟨_,_,_,_,_,_,_,_,s⟩=>bp.of (s _ _ hp.at_.tp (aC hp.at_.tp nd))) ?_ ?_
 ·rintro i x σ H2 hx ⟨nv,tv,kvs,rfl,hd2,Kv,QX,hm,s2⟩
  obtain ⟨k,hk,rfl⟩:=ng hx
  have ts:bq H H2:=fun c xs e=>s2 c _ e (aC e nd)
  have JW:=List.mem_of_getElem? hk
  have FJ:=(hp.at_.rw k JW).ts ts
  have hi:=(List.getElem?_eq_some_iff.mp hk).1
  have wb:kvs.length<=8:=by have:=congrArg List.length Kv;unfold cA at this;rw[List.length_map,List.length_map,List.length_take]at this;omega
  rw[AG ks i k _ hk]at hm
  have sH:ar H H2:=fun c o e=>s2 c o e (aC e nd)
  have v9:vk kvs k.t:=⟨QX,fun s hs=>Cn (by rw[Kv];exact hp.AF i k hk s hs)⟩
  refine ⟨k.r,_,rfl,bp.of FJ.tp,rfl,_,_,rfl,_,_,rfl,rfl,?_⟩
  refine ⟨_,rfl,_,rfl,_,rfl,k.nm,k.a,d,k.t,kvs,rfl,FJ.tm,hp.ok k JW,Nat.le_trans FJ.dp (by decide),by decide,hd2,v9,fun x hx H3 s3=>?_,fun hx e H3 he s3=>?_⟩
  ·rw[hx]at hm
   refine ⟨_,rfl,_,rfl,d,_,rfl,zW.k (k:=kS k.nm) (s3 _ _ hd2) (by unfold yV;rw[List.length_map];omega),?_⟩
   have ek:cA (ks.take (i+1))=cA (ks.take i)++[k.nm]:=by rw[<-take_snoc hk];unfold cA;rw[List.map_append];rfl
   refine ⟨_,_,kvs++[(k.nm,x)],rfl,?_,by rw[List.map_append,Kv,ek];rfl,fun q hq=>?_,hm,fun c o z w=>by rw[aA w];exact s3 _ _ (s2 c o z w)⟩
   ·rw[ag,oa _ (rg (by rw[Kv];exact Cq hk hp.nd)),Cp]
   ·rcases List.mem_append.mp hq with z | z
    ·exact QX q z
    ·rw[List.mem_singleton.mp z];exact jd k.t (hp.ok k JW) v9 hx
  ·rw[hx]at hm
   exact q2 _ hm e _ he (sH.trans s3)
 ·rintro σ H2 ⟨nv,tv,kvs,rfl,hd2,Kv,QX,hm,s2⟩
  rw[dD,List.drop_length]at hm
  have sH:ar H H2:=fun c o e=>s2 c o e (aC e nd)
  have wb:kvs.length<=8:=by have:=congrArg List.length Kv;unfold cA at this;rw[List.length_map,List.length_map,List.length_take,dD]at this;omega
  refine ⟨_,rfl, .inr (.inr (.inl ⟨rfl, .inl ⟨_,hd2⟩⟩)),d,_,rfl,rfl,hd2,fun vp QY=>?_⟩
  refine ⟨vp,d,_,rfl,ag,by rw[aA (aC hd2 QY)];exact hd2,by unfold yV;rw[List.length_map];omega,fun l nl=>?_⟩
  rw[Co]
  have sl:=(sH.trans (ar.upd QY)).trans (ar.upd (o:=HO.lst (bz (kvs.map (·.2)))) nl)
  refine q1 kvs hm l _ ?_ ag sl
  cases e:H l with
  | none=>rfl
  | some o=>rw[(sH.trans (ar.upd QY)) _ _ e]at nl;cases nl
theorem CP (T:Txt P w K mg f0 f1 f2 f3 f4 f5 f6 f7 f8 f9 eR fF eS fG fH fI fJ fK fL fM fN eN fO fP fQ fR fS fT fU eU fV fW fX fZ aq ak ax ay aG d0 d1 d2 d3 d4 d5 d6 d7 d8 d9 gi gF gj gG gH gI gJ gK gL gM gN f_ gO gP gQ gR gS gT gU gk gW gX gY gZ aB):bE P w K mg base eK 15 fW gX ["_law_program_here"] (vw K):=by
 have CQ:=A2 (P:=P) (w:=w) (base:=base) T
 refine T.Dk.fn.ok kY (fun vs H Q E h=>AK h) (fun cN A outer s H vs Q E hr h=>?_)
 refine ⟨_,(ah (IV (n:=2) T.ig rfl T.rB kY.nd rfl rfl rfl rfl rfl (fun pn W E hth Qd=>(ah (aF (i:=1) kY.nd rfl (Or.inl rfl) (om CQ (hr.mono (by decide)) rfl T.JF.mg T.JF.fn.kp T.JF.bd .nil Qd (ae (pv 0) af)))
   (ao (aX (rK (fc (aV (iB K rfl) rfl T.z_isinstance boot_isinstance (ae (pv 1) (ae (mX (v:= .ty "list") rfl T.z_list boot_list rfl) af))))) (ao (aF (i:=1) kY.nd rfl (Or.inl rfl) (bg [101,108,115,101] (by decide+kernel)))) aI)))) (fun ev=>(ao (aE (aZ (ae (bg [108,111,110,103] (by decide+kernel)) (ae (B0 K rfl (pv 2) rfl) af)))))))
   (ao (aE (pv 1)))),?_⟩
 obtain ⟨p,ks,rfl,hp,q1,q2⟩:=h
 refine ⟨_,rfl,p,ks,rfl,hp,fun kvs e q H2 nq hq s2=>?_,fun nm e d H2 hd s2=>?_⟩
 ·exact ⟨_,rfl,_,rfl, .inl ⟨q,_,rfl,hq,_,rfl,bo rfl ⟨_,rfl,q1 kvs e q H2 nq hq s2⟩⟩⟩
 ·refine ⟨aq,rfl,T.s_TooLong,fun d' z=>⟨_,by cases z;exact hd⟩,fun x nx=>?_⟩
  have sx:=ar.upd (o:=dv false x aq (some d)) nx
  have hx:upd H2 x (dv false x aq (some d)) x=some (dv false x aq (some d)):=ag
  have hd2:=sx _ _ hd
  generalize upd H2 x (dv false x aq (some d))=H3 at sx hx hd2 ⊢
  refine ⟨_,rfl,x,_,_,d,_,_,rfl,hx,T.ig,T.n_TooLong_name,hd2,rfl,?_⟩
  exact ⟨by show 2<=sizeLine;decide,fun p5 n5=>q2 nm e p5 _ ag ((s2.trans sx).trans (ar.upd n5))⟩
theorem CS (T:Txt P w K mg f0 f1 f2 f3 f4 f5 f6 f7 f8 f9 eR fF eS fG fH fI fJ fK fL fM fN eN fO fP fQ fR fS fT fU eU fV fW fX fZ aq ak ax ay aG d0 d1 d2 d3 d4 d5 d6 d7 d8 d9 gi gF gj gG gH gI gJ gK gL gM gN f_ gO gP gQ gR gS gT gU gk gW gX gY gZ aB):bE P w K mg base eK 2 fX gY ["_law_box_here","_law_known","_law_letter"] (vF K):=by
 have aW:=gf (P:=P) (w:=w) (base:=base) T
 refine T.Dl.fn.ok ij (fun vs H Q E h=>AN h) (fun cN A outer s H vs Q E hr h=>?_)
 refine ⟨_,(ah (wg (bW ["_law_k","_law_known","_law_box_here"] [none,some 1,some 0] (cZ rfl T.z_range (ae ai af)) ⟨⟨rfl,rfl,by first | exact .inl rfl | exact .inr rfl⟩,⟨⟨rfl,rfl,by first | exact .inl rfl | exact .inr rfl⟩,trivial⟩⟩ (fun _ _ _ _=>(aU (i:=0) (by decide+kernel:List.Nodup (["_law_k","_law_known","_law_box_here"]:List Str)) rfl (Or.inl rfl))) (fun _ _ _ _=>cV) (fun _ _ _ _=>(aZ (ae (bg [110,97,109,101] (by decide+kernel)) (ae (aJ (ba K rfl) (pv 1) (aw aW (hr.mono (by decide)) rfl T.cf.mg T.cf.fn.kp T.cf.bd .nil aO (ae (pv 2) (ae (aV (bD K rfl) rfl T.z_len PySem.boot_len (ae (pv 1) af)) af))) (fun _ _=>rfl)) af))))) (Eh (n:=3) K rfl rfl (cF (aU (i:=3) ij.nd rfl (Or.inl rfl)) (cF (aU (i:=4) ij.nd rfl (Or.inl rfl)) (cF (aU (i:=5) ij.nd rfl (Or.inl rfl)) j7)))))
   (ah (aF (i:=6) ij.nd rfl (Or.inl rfl) (aw aW (hr.mono (by decide)) rfl T.cf.mg T.cf.fn.kp T.cf.bd .nil aO (ae (pv 0) (ae ai af))))
   (ah (aX (az fj (pv 6) ai (aL _)) (ao (aE (bL (ae (pv 3) (ae (aZ (ae (bg [98,97,99,107] (by decide+kernel)) (ae (aZ (ae (bg [98,97,99,107] (by decide+kernel)) (ae (pv 3) af))) af))) af))))) aI)
   (ah (aX (az fj (pv 6) ai (aL _)) (ao (aE (bL (ae (aZ (ae (bg [98,97,99,107] (by decide+kernel)) (ae (aZ (ae (bg [116,104,101,110] (by decide+kernel)) (ae (pv 3) (ae (pv 4) af)))) af))) (ae (aZ (ae (bg [116,104,101,110] (by decide+kernel)) (ae (aZ (ae (bg [98,97,99,107] (by decide+kernel)) (ae (pv 4) af))) (ae (aZ (ae (bg [98,97,99,107] (by decide+kernel)) (ae (pv 3) af))) af)))) af))))) aI)
   (ah (aX (az fj (pv 6) ai (aL _)) (ao (aE (bL (ae (aZ (ae (bg [97,103,97,105,110] (by decide+kernel)) (ae ai (ae (pv 3) af)))) (ae (aZ (ae (bg [116,104,101,110] (by decide+kernel)) (ae (pv 3) (ae (aZ (ae (bg [116,104,101,110] (by decide+kernel)) (ae (pv 3) (ae (pv 3) af)))) af)))) af))))) aI)
   (ah (aX (az fj (pv 6) ai (aL _)) (ah (aF (i:=7) ij.nd rfl (Or.inl rfl) (aZ (ae (bg [116,104,101,110] (by decide+kernel)) (ae (aZ (ae (bg [102,111,114] (by decide+kernel)) (ae (pv 2) (ae (pv 3) (ae (pv 5) af))))) (ae (aZ (ae (bg [102,111,114] (by decide+kernel)) (ae (pv 2) (ae (pv 4) (ae (pv 5) af))))) af)))))
   (ao (aE (bL (ae (aZ (ae (bg [102,111,114] (by decide+kernel)) (ae (pv 2) (ae (aZ (ae (bg [116,104,101,110] (by decide+kernel)) (ae (pv 3) (ae (pv 4) af)))) (ae (pv 5) af))))) (ae (pv 7) af)))))) aI)
   (ah (aX (az fj (pv 6) ai (aL _)) (ao (aE (bL (ae (aZ (ae (bg [102,111,114] (by decide+kernel)) (ae (pv 2) (ae (pv 3) (ae (aZ (ae (bg [119,97,108,107] (by decide+kernel)) (ae (pv 2) af))) af))))) (ae (pv 3) af))))) aI)
   (ao (aE (bL (ae (aZ (ae (bg [116,104,101,110] (by decide+kernel)) (ae (pv 3) (ae (aZ (ae (bg [98,97,99,107] (by decide+kernel)) (ae (pv 3) af))) af)))) (ae (aZ (ae (bg [119,97,108,107] (by decide+kernel)) (ae (bg [] (by decide+kernel)) af))) af)))))))))))),?_⟩
 obtain ⟨b,kp,known,c,rfl,hb,zh,hk,ub,Zu,hc,q⟩:=h
 have hs:(100000:Nat)<sizeLine:=by decide
 refine ⟨_,rfl,by omega,by omega,?_⟩
 refine fh (n:=3) (fun i acc H'=>bw H' b/\aD b H H'/\H' kp=some (.lst (bz known))/\ ∃(as:List Addr) (ss:List (List Nat)),acc=j5 as/\as.length=i/\dB H' as (ss.map Tm.name)/\ ∀s∈ss,s∈known) (by omega) ⟨hb,aD.refl _ _,hk,[],[],rfl,rfl,trivial,by simp⟩ ?_ ?_
 ·rintro i acc H2 Nx hi lA ⟨il,s2,me,as,ss,rfl,mi,Cb,Ng⟩ nx
  refine ⟨⟨rfl,rfl,trivial⟩,bY ?_⟩
  refine ⟨_,rfl,_,rfl,_,rfl,kp,_,rfl, .inl (bt.of me),?_⟩
  rw[bO]
  refine ⟨b,(known.length:Nat),rfl,il,by omega,by omega,fun r4 H4 qm uc s4=>?_⟩
  have Ku:=s4 _ _ me zh
  have Dn:r4<known.length:=by omega
  refine ⟨kp,_,_,_,rfl,rfl,bt.of Ku,aH (Cf Dn),by show 2<=sizeLine;decide,fun p5 n5=>?_⟩
  have s5:=ar.upd (o:=HO.tup [V.str (S dN),V.str (S known[r4])]) n5
  refine nx _ _ (by simpa using lA) ⟨uc.same s5,(s2.trans s4).trans (aD.of s5),s5 _ _ Ku,as++[p5],ss++[known[r4]],Cs as p5,by simp[mi],?_,fun s iS=>?_⟩
  ·rw[List.map_append]
   exact oR (show bA _ p5 (.name known[r4]) from ag) ((Cb.ts (s4.Ck il)).ts (bq.of s5))
  ·rcases List.mem_append.mp iS with z | z
   ·exact Ng s z
   ·rw[List.mem_singleton.mp z];exact List.getElem_mem Dn
 ·rintro acc H2 D lA ⟨il,s2,me,as,ss,rfl,mi,Cb,Ng⟩ hD
  obtain ⟨a1,a2,a3,rfl⟩: ∃a1 a2 a3,as=[a1,a2,a3]:=by
   match as,mi with
   | [a1,a2,a3],_=>exact ⟨a1,a2,a3,rfl⟩
  have Ei:ss.length=3:=by have:=Cb.len;simpa using this.symm
  obtain ⟨x,y,z,rfl⟩: ∃x y z,ss=[x,y,z]:=by
   match ss,Ei with
   | [x,y,z],_=>exact ⟨x,y,z,rfl⟩
  have hx:=Ng x (by simp)
  have hy:=Ng y (by simp)
  have hz:=Ng z (by simp)
  have sD:=ar.upd (o:=HO.lst (j5 [a1,a2,a3])) hD
  have WH:upd H2 D (HO.lst (j5 [a1,a2,a3])) D=some (HO.lst (j5 [a1,a2,a3])):=ag
  obtain ⟨t1,t2,t3,_⟩:=Cb.ts (bq.of sD)
  have j1:=il.same sD
  have s3:aD b H _:=s2.trans (aD.of sD)
  generalize upd H2 D (HO.lst (j5 [a1,a2,a3]))=H3 at sD WH t1 t2 t3 j1 s3 ⊢
  refine ⟨D,_,rfl,bt.of WH,rfl,_,_,rfl,_,_,rfl,_,_,rfl,rfl,?_⟩
  refine ⟨_,rfl,b,6,rfl,j1,by omega,by omega,fun lW H4 hf uc s4=>?_⟩
  have zj:=t1.ts (s4.Ck j1)
  have ON:=t2.ts (s4.Ck j1)
  have QZ:=t3.ts (s4.Ck j1)
  have Zv:=s3.trans s4
  have z2:(2:Nat)<=sizeLine:=by decide
  have z3:(3:Nat)<=sizeLine:=by decide
  have z4:(4:Nat)<=sizeLine:=by decide
  -- a new tuple is a term,Hv was there stays
  have fin: ∀(H5:Hp) (u v:Addr) (T1 T2:Tm),ar H4 H5->bA H5 u T1->bA H5 v T2->cY known c T1 T2-> ∀p,H5 p=none->Q (.ref p) (upd H5 p (.lst [.ref u, .ref v])):=fun H5 u v T1 T2 sm h1 h2 hp p np=>
   q p u v T1 T2 _ ag ((uc.same sm).ne np) (h1.same (ar.upd np)) (h2.same (ar.upd np)) hp ((uc.same sm).same (ar.upd np)) (Zv.trans (aD.of (sm.trans (ar.upd np))))
  refine ⟨_,rfl,_,_,rfl,rfl,_,rfl,cj (fun _=>?_) (fun _=>?_)⟩
  ·refine ⟨_,rfl,_,rfl,z2,fun p1 n1=>⟨z2,fun p2 n2=>⟨z2,fun p3 n3=>?_⟩⟩⟩
   have s1:=ar.upd (o:=HO.tup [V.str (S bT),V.ref a1]) n1
   have b1:bA (upd H4 p1 (HO.tup [V.str (S bT),V.ref a1])) p1 (.back (.name x)):=⟨a1,ag,zj.same s1⟩
   have s2:=ar.upd (o:=HO.tup [V.str (S bT),V.ref p1]) n2
   exact fin _ a1 p2 _ _ (s1.trans s2) (zj.same (s1.trans s2)) (show bA _ p2 (.back (.back (.name x))) from ⟨p1,ag,b1.same s2⟩) (.p0 hx) p3 n3
  refine ⟨_,rfl,_,_,rfl,rfl,_,rfl,cj (fun _=>?_) (fun _=>?_)⟩
  ·refine ⟨_,rfl,_,rfl,z3,fun p1 n1=>⟨z2,fun p2 n2=>⟨_,rfl,z2,fun p3 n3=>⟨_,rfl,z2,fun p4 n4=>⟨z3,fun p5 n5=>⟨z2,fun p6 n6=>?_⟩⟩⟩⟩⟩⟩
   have s1:=ar.upd (o:=HO.tup [V.str (S bU),V.ref a1,V.ref a2]) n1
   have b1:bA _ p1 (.aS (.name x) (.name y)):=⟨a1,a2,ag,zj.same s1,ON.same s1⟩
   have s2:=ar.upd (o:=HO.tup [V.str (S bT),V.ref p1]) n2
   have b2:bA _ p2 (.back (.aS (.name x) (.name y))):=⟨p1,ag,b1.same s2⟩
   have tQ:=s1.trans s2
   have s3:=ar.upd (o:=HO.tup [V.str (S bT),V.ref a2]) n3
   have b3:bA _ p3 (.back (.name y)):=⟨a2,ag,ON.same (tQ.trans s3)⟩
   have GX:=tQ.trans s3
   have s4:=ar.upd (o:=HO.tup [V.str (S bT),V.ref a1]) n4
   have b4:bA _ p4 (.back (.name x)):=⟨a1,ag,zj.same (GX.trans s4)⟩
   have A4:=GX.trans s4
   have s5:=ar.upd (o:=HO.tup [V.str (S bU),V.ref p3,V.ref p4]) n5
   exact fin _ p2 p5 _ _ (A4.trans s5) (b2.same ((s3.trans s4).trans s5)) (show bA _ p5 (.aS (.back (.name y)) (.back (.name x))) from ⟨p3,p4,ag,b3.same (s4.trans s5),b4.same s5⟩) (.p1 hx hy) p6 n6
  refine ⟨_,rfl,_,_,rfl,rfl,_,rfl,cj (fun _=>?_) (fun _=>?_)⟩
  ·refine ⟨_,rfl,z3,fun p1 n1=>⟨_,rfl,_,rfl,_,rfl,z3,fun p2 n2=>⟨z3,fun p3 n3=>⟨z2,fun p4 n4=>?_⟩⟩⟩⟩
   have s1:=ar.upd (o:=HO.tup [V.str (S bH),V.int 3,V.ref a1]) n1
   have b1:bA _ p1 (.again 3 (.name x)):=⟨a1,ag,zj.same s1⟩
   have s2:=ar.upd (o:=HO.tup [V.str (S bU),V.ref a1,V.ref a1]) n2
   have b2:bA _ p2 (.aS (.name x) (.name x)):=⟨a1,a1,ag,zj.same (s1.trans s2),zj.same (s1.trans s2)⟩
   have tQ:=s1.trans s2
   have s3:=ar.upd (o:=HO.tup [V.str (S bU),V.ref a1,V.ref p2]) n3
   exact fin _ p1 p3 _ _ (tQ.trans s3) (b1.same (s2.trans s3)) (show bA _ p3 (.aS (.name x) (.aS (.name x) (.name x))) from ⟨a1,p2,ag,zj.same (tQ.trans s3),b2.same s3⟩) (.p2 hx) p4 n4
  refine ⟨_,rfl,_,_,rfl,rfl,_,rfl,cj (fun _=>?_) (fun _=>?_)⟩
  ·refine ⟨_,rfl,_,rfl,_,rfl,z4,fun p1 n1=>⟨_,rfl,_,rfl,_,rfl,z4,fun p2 n2=>⟨z3,fun p3 n3=>⟨_,rfl,_,rfl,_,rfl,z3,fun p4 n4=>⟨_,rfl,z4,fun p5 n5=>⟨_,rfl,z2,fun p6 n6=>?_⟩⟩⟩⟩⟩⟩
   have s1:=ar.upd (o:=HO.tup [V.str (S kFor),V.str (S [c]),V.ref a1,V.ref a3]) n1
   have b1:bA _ p1 (.fr c (.name x) (.name z)):=⟨a1,a3,ag,zj.same s1,QZ.same s1⟩
   have s2:=ar.upd (o:=HO.tup [V.str (S kFor),V.str (S [c]),V.ref a2,V.ref a3]) n2
   have tQ:=s1.trans s2
   have b2:bA _ p2 (.fr c (.name y) (.name z)):=⟨a2,a3,ag,ON.same tQ,QZ.same tQ⟩
   have s3:=ar.upd (o:=HO.tup [V.str (S bU),V.ref p1,V.ref p2]) n3
   have GX:=tQ.trans s3
   have b3:bA _ p3 (.aS (.fr c (.name x) (.name z)) (.fr c (.name y) (.name z))):=⟨p1,p2,ag,b1.same (s2.trans s3),b2.same s3⟩
   have s4:=ar.upd (o:=HO.tup [V.str (S bU),V.ref a1,V.ref a2]) n4
   have A4:=GX.trans s4
   have b4:bA _ p4 (.aS (.name x) (.name y)):=⟨a1,a2,ag,zj.same A4,ON.same A4⟩
   have s5:=ar.upd (o:=HO.tup [V.str (S kFor),V.str (S [c]),V.ref p4,V.ref a3]) n5
   exact fin _ p5 p3 _ _ (A4.trans s5) (show bA _ p5 (.fr c (.aS (.name x) (.name y)) (.name z)) from ⟨p4,a3,ag,b4.same s5,QZ.same (A4.trans s5)⟩) (b3.same (s4.trans s5)) (.p3 hx hy hz) p6 n6
  refine ⟨_,rfl,_,_,rfl,rfl,_,rfl,cj (fun _=>?_) (fun _=>?_)⟩
  ·refine ⟨_,rfl,_,rfl,_,rfl,z2,fun p1 n1=>⟨z4,fun p2 n2=>⟨_,rfl,z2,fun p3 n3=>?_⟩⟩⟩
   have s1:=ar.upd (o:=HO.tup [V.str (S dA),V.str (S [c])]) n1
   have b1:bA (upd H4 p1 (HO.tup [V.str (S dA),V.str (S [c])])) p1 (.walk [c]):=ag
   have s2:=ar.upd (o:=HO.tup [V.str (S kFor),V.str (S [c]),V.ref a1,V.ref p1]) n2
   exact fin _ p2 a1 _ _ (s1.trans s2) (show bA _ p2 (.fr c (.name x) (.walk [c])) from ⟨a1,p1,ag,zj.same (s1.trans s2),b1.same s2⟩) (zj.same (s1.trans s2)) (.p4 hx) p3 n3
  ·refine ⟨_,rfl,_,rfl,z2,fun p1 n1=>⟨z3,fun p2 n2=>⟨z2,fun p3 n3=>⟨z2,fun p4 n4=>?_⟩⟩⟩⟩
   have s1:=ar.upd (o:=HO.tup [V.str (S bT),V.ref a1]) n1
   have b1:bA _ p1 (.back (.name x)):=⟨a1,ag,zj.same s1⟩
   have s2:=ar.upd (o:=HO.tup [V.str (S bU),V.ref a1,V.ref p1]) n2
   have tQ:=s1.trans s2
   have b2:bA _ p2 (.aS (.name x) (.back (.name x))):=⟨a1,p1,ag,zj.same tQ,b1.same s2⟩
   have s3:=ar.upd (o:=HO.tup [V.str (S dA),V.str (S [])]) n3
   exact fin _ p2 p3 _ _ (tQ.trans s3) (b2.same s3) (show bA _ p3 (.walk []) from ag) (.p5 hx) p4 n4
theorem qo (T:Txt P w K mg f0 f1 f2 f3 f4 f5 f6 f7 f8 f9 eR fF eS fG fH fI fJ fK fL fM fN eN fO fP fQ fR fS fT fU eU fV fW fX fZ aq ak ax ay aG d0 d1 d2 d3 d4 d5 d6 d7 d8 d9 gi gF gj gG gH gI gJ gK gL gM gN f_ gO gP gQ gR gS gT gU gk gW gX gY gZ aB) (n:Nat) (ih:bE P w K mg base eK (2+n) f6 d6 ["term"] (eG K n)):bE P w K mg base eK (2+n+1) f6 d6 ["term"] (eG K (n+1)):=by
 have j3:=mC (P:=P) (w:=w) (base:=base) T
 refine T.F6.fn.ok jf (fun vs H Q E h=>sX h) (fun cN A outer s H vs Q E hr h=>?_)
 refine ⟨_,(ah (aX (az cM (aJ (aM K rfl) (pv 0) ai (fun _ _=>rfl)) (bg [110,97,109,101] (by decide+kernel)) (aL _)) (ao (aE (bL (ae (aJ (aM K rfl) (pv 0) ai (fun _ _=>rfl)) af)))) aI)
   (ah (aF (i:=1) jf.nd rfl (Or.inl rfl) (bL af))
   (ah (iy PassesOwn.never rfl (i3 K rfl (aw j3 (hr.mono (by omega)) rfl T.F5.mg T.F5.fn.kp T.F5.bd .nil aO (ae (pv 0) af))) (aU (i:=2) jf.nd rfl (Or.inl rfl)) (ao (gp (bQ K rfl PySem.F.plainAttrs_list PySem.F.slot_list_extend PySem.F.type_list_extend zN (pv 1) (ae (aw ih hr rfl T.F6.mg T.F6.fn.kp T.F6.bd .nil aO (ae (pv 2) af)) af)))))
   (ao (aE (pv 1)))))),?_⟩
 obtain ⟨a,t,rfl,hT,Nb,hn,q⟩:=h
 have hs:(100000:Nat)<sizeLine:=by decide
 have Zw:2 ^ (n+1)<=1024:=Nat.pow_le_pow_right (by decide) hn
 have Ac:=gv t (n+1) Nb
 obtain ⟨xs,hh⟩:=hT.head
 by_cases GY: ∃s,t= .name s
 ·obtain ⟨s,rfl⟩:=GY
  have h:H a=some (.tup [.str (S dN), .str (S s)]):=hT
  refine ⟨_,rfl,a,_,0,_,rfl,rfl,bp.of h,rfl,_,_,rfl,rfl,_,rfl,eP (by decide) ?_⟩
  exact ⟨_,rfl,a,_,1,_,rfl,rfl,bp.of h,rfl,by show 1<=sizeLine;decide,fun p np=>q p _ np ag (ar.upd np)⟩
 ·have yc: ∀s,t≠ .name s:=fun s z=>GY ⟨s,z⟩
  have hk:OE t≠dN:=by
   cases t with
   | name s=>exact absurd rfl (yc s)
   | _=>simp[OE,dA,dN,bT,bH,bU,kFor]
  refine ⟨_,rfl,a,_,0,_,rfl,rfl,bp.of hh,aH (xs:= .str (S (OE t))::xs) (j:=0) rfl,_,_,rfl,rfl,_,rfl,bo (decide_eq_false hk) ?_⟩
  refine ⟨by show 0<=sizeLine;decide,fun p1 n1=>?_⟩
  refine ⟨_,rfl,a,t,rfl,hT.same (ar.upd n1),fun q2 as H2 nq hq has s2=>?_⟩
  have ql:H2 p1=some (.lst []):=s2 _ _ ag
  have Q0:q2≠p1:=fun z=>by rw[z,ag]at nq;cases nq
  refine ⟨q2,rfl,⟨_,bt.of hq⟩,?_⟩
  have mi:=has.len
  refine uj (K:=K) (a:=q2) (xs:=j5 as) (fun i σ H'=> ∃pv:Option V,σ=[some (.ref a),some (.ref p1),pv]/\H' p1=some (.lst (bz (ja ((subs t).take i))))/\aD p1 H2 H')
   ⟨none,rfl,ql,aD.refl _ _⟩ (fun i σ H' _ ⟨_,_,_,s3⟩=>bt.of (s3 _ _ hq Q0)) ?_ ?_
  ·rintro i x σ H3 hx ⟨pv,rfl,zk,s3⟩
   obtain ⟨b,hb,rfl⟩:=sV hx
   have ts:bq H2 H3:=fun c xs e=>s3 c _ e (fun z=>by rw[z,ql]at e;cases e)
   obtain ⟨u,hu,hU⟩:=has.get hb
   refine ⟨_,rfl, .inl ⟨rfl,_,bt.of zk⟩,_,rfl,b,u,rfl,hU.ts ts,hV Nb (List.mem_of_getElem? hu),by omega,fun q4 H4 WI Zx s4=>?_⟩
   have FK:=s4 _ _ zk
   have h41:p1≠q4:=fun z=>by rw[z]at zk;rw[zk]at WI;cases WI
   have Zs:=gv u n (hV Nb (List.mem_of_getElem? hu))
   have hl:(ja ((subs t).take i)++gE u).length<=1024:=by
    rw[<-mn hu]
    have e:=vi yc
    have:(ja ((subs t).take (i+1))).length<=(gE t).length:=by
     rw[e]
     conv=>rhs;rw[<-List.take_append_drop (i+1) (subs t)]
     unfold ja
     rw[List.flatMap_append,List.length_append]
     omega
    omega
   refine ⟨p1,q4,_,_,rfl,rfl,FK,Zx,by rw[List.length_append]at hl;rw[bO,bO];omega,?_⟩
   refine ⟨_,rfl,?_,fun c o e z=>by rw[aA z];exact s4 _ _ (s3 c o e z)⟩
   rw[ag,mn hu]
   unfold bz
   rw[List.map_append]
  ·rintro σ H3 ⟨pv,rfl,zk,s3⟩
   rw[eg,mi,List.take_length, <-vi yc]at zk
   refine ⟨_,rfl,q p1 _ n1 zk fun c o e=>s3 _ _ (s2 _ _ (ar.upd n1 c o e)) (aC e n1)⟩
theorem mE (T:Txt P w K mg f0 f1 f2 f3 f4 f5 f6 f7 f8 f9 eR fF eS fG fH fI fJ fK fL fM fN eN fO fP fQ fR fS fT fU eU fV fW fX fZ aq ak ax ay aG d0 d1 d2 d3 d4 d5 d6 d7 d8 d9 gi gF gj gG gH gI gJ gK gL gM gN f_ gO gP gQ gR gS gT gU gk gW gX gY gZ aB): ∀n,bE P w K mg base eK (2+n) f6 d6 ["term"] (eG K n)
 | 0=>i8 fun vs H Q E h=>sY h
 | n+1=>qo T n (mE T n)
theorem mT (T:Txt P w K mg f0 f1 f2 f3 f4 f5 f6 f7 f8 f9 eR fF eS fG fH fI fJ fK fL fM fN eN fO fP fQ fR fS fT fU eU fV fW fX fZ aq ak ax ay aG d0 d1 d2 d3 d4 d5 d6 d7 d8 d9 gi gF gj gG gH gI gJ gK gL gM gN f_ gO gP gQ gR gS gT gU gk gW gX gY gZ aB):bE P w K mg base eK 11 f7 d7 ["program"] (iQ K):=by
 have xC:=mE (P:=P) (w:=w) (base:=base) T
 refine T.F7.fn.ok cu (fun vs H Q E h=>lU h) (fun cN A outer s H vs Q E hr h=>?_)
 refine ⟨_,(ah (aF (i:=1) cu.nd rfl (Or.inl rfl) uG)
   (ah (iy PassesOwn.never rfl (jo K rfl (pv 0)) (m6 (n:=2) K rfl rfl (cF (aU (i:=2) cu.nd rfl (Or.inl rfl)) (cF (aU (i:=3) cu.nd rfl (Or.inl rfl)) j7))) (ah (aX (we (Iv (qH hr) (pv 2) (pv 1)) (by with_unfolding_all rfl)) (ao nA) aI)
   (ah (iy PassesOwn.never rfl (i3 K rfl (aw (xC 8) (hr.mono (by decide)) rfl T.F6.mg T.F6.fn.kp T.F6.bd .nil aO (ae (pv 3) af))) (aU (i:=4) cu.nd rfl (Or.inl rfl)) (ao (aX (we (zZ (qH hr) (pv 4) (pv 1)) (by with_unfolding_all rfl)) (ao nA) aI)))
   (ao (yq (qH hr) (pv 1) (pv 2) lY rfl)))))
   (ao (aE lY)))),?_⟩
 obtain ⟨p,ks,rfl,hp,yc,q0⟩:=h
 have hs:(100000:Nat)<sizeLine:=by decide
 have QW:=hp.fw
 intro d nd
 refine ⟨_,rfl,p,rfl,⟨_,bp.of (ar.upd nd _ _ hp.tp)⟩,?_⟩
 refine xV (K:=K) (a:=p) (xs:=jN ks) (fun i σ H'=> ∃nv tv ov:Option V,σ=[some (.ref p),some (.ref d),nv,tv,ov]/\H' d=some (.dK (GI (cA (ks.take i))))/\mr [] (Jw ks)=mr (cA (ks.take i)) (Jw (ks.drop i))/\aD d H H')
  ⟨none,none,none,rfl,ag,rfl,aD.of (ar.upd nd)⟩ (fun i σ H' _ ⟨_,_,_,_,_,_,s⟩=>bp.of (s _ _ hp.tp (aC hp.tp nd))) ?_ ?_
 ·rintro i x σ H2 hx ⟨nv,tv,ov,rfl,hd2,hm,s2⟩
  obtain ⟨k,hk,rfl⟩:=ng hx
  have ts:bq H H2:=fun c xs e=>s2 c _ e (aC e nd)
  have FJ:=(hp.rw k (List.mem_of_getElem? hk)).ts ts
  have hi:=(List.getElem?_eq_some_iff.mp hk).1
  rw[oI ks i k _ hk]at hm
  have sH:ar H H2:=fun c o e=>s2 c o e (aC e nd)
  refine ⟨k.r,_,rfl,bp.of FJ.tp,rfl,_,_,rfl,_,_,rfl,rfl,?_⟩
  refine ⟨_,rfl,_,rfl,d,_,rfl,jH.k (k:=kS k.nm) hd2,_,rfl,cj (fun e=>?_) (fun e=>?_)⟩
  ·rw[jw]at e
   rw[xn (of_decide_eq_true e)]at hm
   rw[yc]at hm;cases hm
  ·rw[jw]at e
   have e':k.nm∉cA (ks.take i):=fun z=>e (decide_eq_true z)
   refine ⟨_,rfl,k.a,k.t,rfl,FJ.tm,Nat.le_trans FJ.dp (by decide),by decide,fun q3 H3 nq3 WJ s3=>?_⟩
   have WK:=s3 _ _ hd2
   refine ⟨q3,rfl,⟨_,bt.of WJ⟩,?_⟩
   refine uj (K:=K) (a:=q3) (xs:=bz (gE k.t)) (fun j σ H'=>H'=H3/\ ∃ov:Option V,σ=[some (.ref p),some (.ref d),some (.str (S k.nm)),some (.ref k.a),ov]/\ ∀u∈(gE k.t).take j,u∈cA (ks.take i))
    ⟨rfl,ov,rfl,fun u hu=>by simp at hu⟩ (fun j σ H' _ h=>by rw[h.1];exact bt.of WJ) ?_ ?_
   ·rintro j x σ H4 hx ⟨rfl,ov,rfl,iY⟩
    obtain ⟨s,Nh,rfl⟩:=kC hx
    refine ⟨_,rfl,_,rfl,d,_,rfl,jH.k (k:=kS s) WK,_,rfl,cj (fun g=>?_) (fun g=>?_)⟩
    ·rw[jw]at g
     have g':s∉cA (ks.take i):=fun z=>by rw[decide_eq_true z]at g;cases g
     rw[AD e' Nh iY g']at hm
     rw[yc]at hm;cases hm
    ·rw[jw]at g
     have g':s∈cA (ks.take i):=by
      by_cases z:s∈cA (ks.take i)
      ·exact z
      ·exact absurd (by rw[decide_eq_false z];rfl) g
     refine ⟨rfl,_,rfl,fun u hu=>?_⟩
     rw[<-take_snoc Nh]at hu
     rcases List.mem_append.mp hu with y | y
     ·exact iY u y
     ·rw[List.mem_singleton.mp y];exact g'
   ·rintro σ H4 ⟨rfl,ov,rfl,iY⟩
    rw[bO,List.take_length]at iY
    rw[mv e' iY]at hm
    have ek:cA (ks.take (i+1))=cA (ks.take i)++[k.nm]:=by rw[<-take_snoc hk];unfold cA;rw[List.map_append];rfl
    have yc:cQ (GI (cA (ks.take i))) (kS k.nm)=none:=by
     have:=jw k.nm (cA (ks.take i))
     rw[decide_eq_false e']at this
     cases h:cQ (GI (cA (ks.take i))) (kS k.nm) with
     | none=>rfl
     | some v=>rw[h]at this;cases this
    refine ⟨_,rfl,_,rfl,d,_,rfl,zW.k (k:=kS k.nm) WK (by unfold GI cA;rw[List.length_map,List.length_map,List.length_take];omega),?_⟩
    refine ⟨_,_,_,rfl,?_,by rw[ek];exact hm,fun c o z w=>by rw[aA w];exact s3 _ _ (s2 c o z w)⟩
    rw[ag,oa _ yc,ek]
    unfold GI
    rw[List.map_append]
    rfl
 ·rintro σ H2 ⟨nv,tv,ov,rfl,hd2,hm,s2⟩
  rw[dD,List.drop_length]at hm
  exact q0 _ fun c o e=>s2 c o e (aC e nd)
theorem tR (T:Txt P w K mg f0 f1 f2 f3 f4 f5 f6 f7 f8 f9 eR fF eS fG fH fI fJ fK fL fM fN eN fO fP fQ fR fS fT fU eU fV fW fX fZ aq ak ax ay aG d0 d1 d2 d3 d4 d5 d6 d7 d8 d9 gi gF gj gG gH gI gJ gK gL gM gN f_ gO gP gQ gR gS gT gU gk gW gX gY gZ aB):bE P w K mg base eK 1 f0 d0 ["sign"] (kB K):=by
 refine T.F0.fn.ok tL (fun vs H Q E h=>p_ h) (fun cN A outer s H vs Q E hr h=>?_)
 refine ⟨_,(ao (aE (rM wQ (pv 0) (km [97,98,99,100,101,102,103,104,105,106,107,108,109,110,111,112,113,114,115,116,117,118,119,120,121,122,65,66,67,68,69,70,71,72,73,74,75,76,77,78,79,80,81,82,83,84,85,86,87,88,89,90] rfl T.g_LETTERS) (by with_unfolding_all rfl)))),?_⟩
 obtain ⟨c,rfl,q⟩:=h
 exact ⟨_,rfl,c,iC,rfl,rfl,q⟩
theorem tS (T:Txt P w K mg f0 f1 f2 f3 f4 f5 f6 f7 f8 f9 eR fF eS fG fH fI fJ fK fL fM fN eN fO fP fQ fR fS fT fU eU fV fW fX fZ aq ak ax ay aG d0 d1 d2 d3 d4 d5 d6 d7 d8 d9 gi gF gj gG gH gI gJ gK gL gM gN f_ gO gP gQ gR gS gT gU gk gW gX gY gZ aB):bE P w K mg base eK 2 fI gI ["row","start"] (kJ K):=by
 have vP:=tR (P:=P) (w:=w) (base:=base) T
 refine T.JH.fn.ok iI (fun vs H Q E h=>qe h) (fun cN A outer s H vs Q E hr h=>?_)
 refine ⟨_,(ah (aF (i:=2) iI.nd rfl (Or.inl rfl) (bQ K rfl PySem.F.plainAttrs_str PySem.F.slot_str_find PySem.F.type_str_find B7 (pv 0) (ae (km [39] rfl T.g_STROKE) (ae (aN bG (pv 1) ai) af))))
   (ah (aF (i:=3) iI.nd rfl (Or.inl rfl) (bJ nN (pv 0) (bC (aN bG (pv 1) ai)) (bC (pv 2))))
   (ah (aX (PW.pt (gn (az j8 (pv 2) ai (aL _)) (gA (rK (fc (aV (qN K rfl rfl) rfl T.z_all boot_all (ae (bW ["sign"] [none] (r_ (pv 3)) trivial (fun _ _ _ _=>(aU (i:=0) (by decide+kernel:List.Nodup (["sign"]:List Str)) rfl (Or.inl rfl))) (fun _ _ _ _=>cV) (fun _ _ _ _=>(aw vP (hr.mono (by decide)) rfl T.F0.mg T.F0.fn.kp T.F0.bd .nil aO (ae (pv 0) af)))) af))))))) (ao (aE cE)) aI)
   (ao (aE (aZ (ae (aZ (ae (bg [119,97,108,107] (by decide+kernel)) (ae (pv 3) af))) (ae (aN bG (pv 2) ai) af)))))))),?_⟩
 obtain ⟨pre,w,post,rfl,hw,hz,q⟩:=h
 have hs:(900001:Nat)<sizeLine:=by decide
 have e0:pre++bN (.walk w)++post=(pre++[39])++(w++39::post):=by simp[bN]
 have e1:(pre++bN (.walk w)++post).drop (pre.length+1)=w++39::post:=by rw[e0];exact iE (by simp)
 have hi:pre.length+1<=(pre++bN (.walk w)++post).length:=by rw[e0];simp
 have Zy:39∉w:=fun z=>QG (hw.1 39 z)
 have hw5:=hw.2
 refine ⟨_,rfl,rfl,_,rfl,_,_,rfl,rfl,_,39,pre.length+1,rfl,rfl,hi,?_⟩
 rw[e1,if_pos (List.mem_append_right _ List.mem_cons_self),yZ Zy]
 have ec:cut (pre++bN (.walk w)++post) (some ((pre.length:Int)+1)) (some ((pre.length+1+w.length:Nat):Int))=w:=by
  have:=oP (pre++bN (.walk w)++post) (pre.length+1) (pre.length+1+w.length) (by omega)
  rw[show (pre.length:Int)+1=((pre.length+1:Nat):Int) from rfl,this,e1,Nat.add_sub_cancel_left,List.take_append_of_le_length (Nat.le_refl _),List.take_length]
 refine ⟨_,rfl,_,rfl,_,_,rfl,rfl,_,rfl,_,rfl,_,rfl,_,rfl,by omega,?_⟩
 rw[ec]
 refine ⟨_,rfl,_,_,rfl,rfl,_,rfl,bo (decide_eq_false (by omega)) ?_⟩
 refine ⟨_,rfl,w,rfl,?_⟩
 refine kj (xs:=cI w) (fun i acc H'=>ar H H'/\acc=(List.replicate i true).map V.bl) (by rw[bV];omega) ⟨ar.refl _,rfl⟩ ?_ ?_
 ·rintro i x acc H1 Nx hi hx hl ⟨s1,rfl⟩ nx
  obtain ⟨c,hc,rfl⟩:=ki hx
  refine ⟨trivial,bY ⟨_,rfl,c,rfl,nx _ _ (by simpa using hl) ⟨s1,?_⟩⟩⟩
  rw[decide_eq_true (hw.1 c (List.mem_of_getElem? hc)).iC]
  exact Cw i
 rintro acc H1 D hl ⟨s1,rfl⟩ nD
 have s2:=s1.trans (ar.upd (o:=HO.lst ((List.replicate (cI w).length true).map V.bl)) nD)
 refine ⟨D,List.replicate (cI w).length true,rfl,bt.of ag,?_⟩
 rw[Fj]
 refine ⟨_,rfl,bo rfl ?_⟩
 generalize upd H1 D (HO.lst ((List.replicate (cI w).length true).map V.bl))=H2 at s2 ⊢
 refine ⟨_,rfl,by show 2<=sizeLine;decide,fun a na=>?_⟩
 have s3:=ar.upd (o:=HO.tup [V.str (S dA),V.str (S w)]) na
 refine ⟨_,rfl,_,_,rfl,rfl,by show 2<=sizeLine;decide,fun t nt=>?_⟩
 have s4:=ar.upd (o:=HO.tup [V.ref a,V.int (((pre.length+1+w.length:Nat):Int)+1)]) nt
 refine q t a _ ?_ ?_ (s2.trans (s3.trans s4))
 ·have e:((pre.length+1+w.length:Nat):Int)+1=((pre.length+(bN (.walk w)).length:Nat):Int):=by
   show _=((pre.length+(39::(w++[39])).length:Nat):Int)
   simp only[List.length_cons,List.length_append,List.length_nil]
   omega
  rw[<-e]
  exact ag
 ·exact s4 _ _ ag
theorem tT (T:Txt P w K mg f0 f1 f2 f3 f4 f5 f6 f7 f8 f9 eR fF eS fG fH fI fJ fK fL fM fN eN fO fP fQ fR fS fT fU eU fV fW fX fZ aq ak ax ay aG d0 d1 d2 d3 d4 d5 d6 d7 d8 d9 gi gF gj gG gH gI gJ gK gL gM gN f_ gO gP gQ gR gS gT gU gk gW gX gY gZ aB):bE P w K mg base eK 1 fK gK ["row","start"] (kL K):=by
 refine T.JJ.fn.ok kU (fun vs H Q E h=>qg h) (fun cN A outer s H vs Q E hr h=>?_)
 refine ⟨_,(ah (iy PassesOwn.never rfl (MA K P w rfl rfl rfl (gm (v:= .ref ay) rfl T.kR rfl)) (aU (i:=2) kU.nd rfl (Or.inl rfl)) (ao (aX (fc (bQ K rfl PySem.F.plainAttrs_str PySem.F.slot_str_startswith PySem.F.type_str_startswith lL (pv 0) (ae (aN cC (aN cC (bg [40] (by decide+kernel)) (pv 2)) (bg [32] (by decide+kernel))) (ae (pv 1) af)))) (ao (aE (aZ (ae (pv 2) (ae (aN bG (aN bG (pv 1) ai) (aV da rfl T.z_len PySem.boot_len (ae (pv 2) af))) af))))) aI)))
   (ao (aE cE))),?_⟩
 obtain ⟨pre,k,post,rfl,hk,hz,q⟩:=h
 have hs:(900001:Nat)<sizeLine:=by decide
 refine ⟨ay,dZ,rfl,T.kT,?_⟩
 refine yj (xs:=bz kinds) (fun i σ H'=> ∃v:Option V,σ=[some (.str (S (pre++((40::k)++32::post)))),some (.int (pre.length:Nat)),v]/\H'=H/\ ∀j,j<i->kinds[j]?≠ some k)
  ⟨none,rfl,rfl,fun j hj=>by omega⟩ ?_ ?_
 ·rintro i x σ H1 hx ⟨v,rfl,rfl,yc⟩
  obtain ⟨kd,De,rfl⟩:=kC hx
  have JW:=List.mem_of_getElem? De
  have wb:kd.length<=5:=by
   simp only[kinds,List.mem_cons,List.not_mem_nil,or_false]at JW
   rcases JW with rfl | rfl | rfl | rfl<;>decide
  refine ⟨_,rfl,rfl,_,rfl,_,_,rfl,rfl,by simp only[List.length_cons,List.length_nil];omega,_,_,rfl,rfl,by simp only[List.length_append,List.length_cons,List.length_nil];omega,?_⟩
  refine ⟨_,rfl,_,_,pre.length,rfl,rfl,?_⟩
  rw[xr hk JW]
  refine ⟨_,rfl,cj (fun z=>?_) (fun z=>?_)⟩
  ·have e:=of_decide_eq_true z
   subst e
   refine ⟨_,rfl,_,rfl,_,_,rfl,rfl,_,rfl,kd,rfl,by omega,_,_,rfl,rfl,by show 2<=sizeLine;decide,fun t nt=>?_⟩
   exact q t _ ag (ar.upd nt)
  ·refine ⟨_,rfl,rfl,fun j hj=>?_⟩
   rcases Nat.lt_or_eq_of_le (Nat.le_of_lt_succ hj) with g | g
   ·exact yc j g
   ·rw[g,De];exact fun e=>z (decide_eq_true (Option.some.inj e))
 ·rintro σ H1 ⟨v,rfl,rfl,yc⟩
  obtain ⟨j,hj⟩:=List.getElem?_of_mem hk
  exact absurd hj (yc j (by have:=(List.getElem?_eq_some_iff.mp hj).1;rw[bO];exact this))
theorem tV (T:Txt P w K mg f0 f1 f2 f3 f4 f5 f6 f7 f8 f9 eR fF eS fG fH fI fJ fK fL fM fN eN fO fP fQ fR fS fT fU eU fV fW fX fZ aq ak ax ay aG d0 d1 d2 d3 d4 d5 d6 d7 d8 d9 gi gF gj gG gH gI gJ gK gL gM gN f_ gO gP gQ gR gS gT gU gk gW gX gY gZ aB):bE P w K mg base eK 1 fL gL ["kind","row","start"] (kM K):=by
 refine T.JK.fn.ok kW (fun vs H Q E h=>qh h) (fun cN A outer s H vs Q E hr h=>?_)
 refine ⟨_,(ah (aF (i:=3) kW.nd rfl (Or.inl rfl) (bJ nN (pv 1) (bC (aN bG (pv 2) ai)) (bC (aN bG (pv 2) ai))))
   (ah (aX (PW.pt (gn (az cM (pv 3) (bg [] (by decide+kernel)) (aL _)) (gA (az DW (pv 3) (sC K P w rfl rfl rfl (gm (v:= .ref aG) rfl T.zg rfl) (pv 0) (fun _ _=>rfl)) (by with_unfolding_all rfl))))) (ao (aE cE)) aI)
   (ao (aE (aZ (ae (uf (az cM (pv 0) (bg [97,103,97,105,110] (by decide+kernel)) (aL _)) (c_ An rfl T.z_int boot_int (ae (pv 3) af)) (pv 3)) (ae (aN bG (pv 2) ai) af))))))),?_⟩
 obtain ⟨pre,k,post,c,v,rfl,hz,hk,q⟩:=h
 have hs:(900001:Nat)<sizeLine:=by decide
 have hlen:pre.length+2<=(pre++([32,c]++post)).length:=by simp
 have ec:cut (pre++([32,c]++post)) (some ((pre.length:Int)+1)) (some ((pre.length:Int)+2))=[c]:=by
  have:=oP (pre++([32,c]++post)) (pre.length+1) (pre.length+2) (by omega)
  rw[show (pre.length:Int)+1=((pre.length+1:Nat):Int) from rfl,show (pre.length:Int)+2=((pre.length+2:Nat):Int) from rfl,this]
  have e:pre++([32,c]++post)=(pre++[32])++(c::post):=by simp
  rw[e,iE (by simp),show pre.length+2 - (pre.length+1)=1 by omega]
  rfl
 refine ⟨_,rfl,_,rfl,_,_,rfl,rfl,_,rfl,_,rfl,_,_,rfl,rfl,_,rfl,_,rfl,by omega,?_⟩
 rw[ec]
 refine ⟨_,rfl,_,_,rfl,rfl,_,rfl,bo rfl ?_⟩
 rcases hk with ⟨rfl,h1,h2,rfl⟩ | ⟨rfl,h1,rfl⟩
 ·refine ⟨_,rfl,_,rfl,aG,eJ,Sum.inr (S bH),_,rfl,T.nu,rfl,bF rfl,?_⟩
  refine ⟨c,_,rfl,rfl,_,rfl,bo (by rw[decide_eq_true (Jy h1 h2)];rfl) ?_⟩
  refine ⟨_,rfl,_,_,rfl,rfl,_,rfl,eP (decide_eq_true rfl) ?_⟩
  refine ⟨_,rfl,c,rfl,h1,by omega,_,rfl,_,_,rfl,rfl,by show 2<=sizeLine;decide,fun t nt=>?_⟩
  exact q t _ ag (ar.upd nt)
 ·refine ⟨_,rfl,_,rfl,aG,eJ,Sum.inr (S kFor),_,rfl,T.nu,rfl,(bf (jI (by decide))).trans (bF rfl),?_⟩
  refine ⟨c,_,rfl,rfl,_,rfl,bo (by show (!decide (c∈aj))=false;rw[decide_eq_true h1];rfl) ?_⟩
  refine ⟨_,rfl,_,_,rfl,rfl,_,rfl,bo (decide_eq_false (by decide)) ?_⟩
  refine ⟨_,rfl,_,rfl,_,_,rfl,rfl,by show 2<=sizeLine;decide,fun t nt=>?_⟩
  exact q t _ ag (ar.upd nt)
theorem qq (T:Txt P w K mg f0 f1 f2 f3 f4 f5 f6 f7 f8 f9 eR fF eS fG fH fI fJ fK fL fM fN eN fO fP fQ fR fS fT fU eU fV fW fX fZ aq ak ax ay aG d0 d1 d2 d3 d4 d5 d6 d7 d8 d9 gi gF gj gG gH gI gJ gK gL gM gN f_ gO gP gQ gR gS gT gU gk gW gX gY gZ aB) (n:Nat) (ih:bE P w K mg base eK (4+3*n) eN f_ ["row","start"] (cn K n)):bE P w K mg base eK (4+3*n+1) fM gM ["count","row","start"] (jO K n):=by
 refine T.JL.fn.ok cy (fun vs H Q E h=>oO h) (fun cN A outer s H vs Q E hr h=>?_)
 refine ⟨_,(ah (aF (i:=3) cy.nd rfl (Or.inl rfl) (bL af))
   (ah (aF (i:=4) cy.nd rfl (Or.inl rfl) (pv 2))
   (ah (iy PassesOwn.never rfl (cZ rfl T.z_range (ae (pv 0) af)) (aU (i:=5) cy.nd rfl (Or.inl rfl)) (ah (aF (i:=6) cy.nd rfl (Or.inl rfl) (uf (az cM (bJ nN (pv 1) (bC (pv 4)) (bC (aN bG (pv 4) ai))) (bg [32] (by decide+kernel)) (aL _)) (aw ih hr rfl T.Di.mg T.Di.fn.kp T.Di.bd .nil aO (ae (pv 1) (ae (aN bG (pv 4) ai) af))) cE))
   (ah (aX (az jS (pv 6) cE (aL _)) (ao (aE cE)) aI)
   (ah (gp (bQ K rfl PySem.F.plainAttrs_list PySem.F.slot_list_append PySem.F.type_list_append g9 (pv 3) (ae (aJ (aM K rfl) (pv 6) ai (fun _ _=>rfl)) af)))
   (ao (aF (i:=4) cy.nd rfl (Or.inl rfl) (aJ (aM K rfl) (pv 6) ai (fun _ _=>rfl))))))))
   (ao (aE (aZ (ae (pv 3) (ae (pv 4) af)))))))),?_⟩
 obtain ⟨pre,post,ts,rfl,ht,hn,hl,hp,hz,q⟩:=h
 have hs:(900001:Nat)<sizeLine:=by decide
 refine ⟨Nat.zero_le _,fun p1 n1=>?_⟩
 have s1:=ar.upd (o:=HO.lst []) n1
 have ql:upd H p1 (HO.lst []) p1=some (HO.lst (j5 [])):=ag
 refine ⟨_,rfl,?_⟩
 refine ⟨_,rfl,_,rfl,by omega,by omega,?_⟩
 refine qx (fun i σ H'=> ∃(as:List Addr) (nv rv:Option V),σ=[some (.int (ts.length:Nat)),some (.str (S (pre++(eQ ts++post)))),some (.int (pre.length:Nat)),some (.ref p1),some (.int ((pre.length+(eQ (ts.take i)).length:Nat):Int)),nv,rv]/\H' p1=some (.lst (j5 as))/\dB H' as (ts.take i)/\ar H H')
  ⟨[],none,none,rfl,ql,trivial,s1⟩ ?_ ?_
 ·rintro i σ H1 hi ⟨as,nv,rv,rfl,Ks,CT,s⟩
  have Ko:i<ts.length:=by omega
  have hg:=List.getElem?_eq_getElem Ko
  have Q1:=ht _ (List.getElem_mem Ko)
  generalize ts[i]=t at hg Q1
  have et:ts=ts.take i++t::ts.drop (i+1):=by
   conv=>lhs;rw[<-List.take_append_drop i ts,List.drop_eq_getElem_cons Ko]
   rw[(List.getElem?_eq_some_iff.mp hg).2]
  have er:pre++(eQ ts++post)=(pre++eQ (ts.take i))++(32::(bN t++(eQ (ts.drop (i+1))++post))):=by
   conv=>lhs;rw[et]
   rw[y0,kO]
   simp
  have hB:(pre++eQ (ts.take i)++[32]).length=pre.length+(eQ (ts.take i)).length+1:=by simp;omega
  have Ni:pre++(eQ ts++post)=(pre++eQ (ts.take i)++[32])++bN t++(eQ (ts.drop (i+1))++post):=by rw[er];simp
  have ec:cut (pre++(eQ ts++post)) (some ((pre.length+(eQ (ts.take i)).length:Nat):Int)) (some (((pre.length+(eQ (ts.take i)).length:Nat):Int)+1))=[32]:=by
   have:=oP (pre++(eQ ts++post)) (pre.length+(eQ (ts.take i)).length) (pre.length+(eQ (ts.take i)).length+1) (by omega)
   rw[show ((pre.length+(eQ (ts.take i)).length:Nat):Int)+1=((pre.length+(eQ (ts.take i)).length+1:Nat):Int) from rfl,this,er,iE (by simp),Nat.add_sub_cancel_left]
   rfl
  refine ⟨_,rfl,_,rfl,_,rfl,_,rfl,_,_,rfl,rfl,_,rfl,_,rfl,by omega,?_⟩
  rw[ec]
  refine ⟨_,_,rfl,rfl,_,rfl,eP (decide_eq_true rfl) ?_⟩
  refine ⟨_,rfl,_,rfl,_,_,rfl,rfl,pre++eQ (ts.take i)++[32],eQ (ts.drop (i+1))++post,t,?_,Q1.1,Q1.2,hn,Fl hp,by rw[<-Ni];exact hz,?_⟩
  ·rw[<-Ni,hB];rfl
  rintro T a H2 hT Bb s2
  have lA:=s2 _ _ Ks
  refine ⟨_,rfl,rfl,_,rfl,bo (decide_eq_false fun z=>nomatch z) ?_⟩
  refine ⟨_,rfl, .inl ⟨rfl,_,bt.of lA⟩,_,rfl,T,_,_,_,rfl,rfl,bp.of hT,aH (j:=0) rfl,p1,_,_,rfl,rfl,lA,?_,?_⟩
  ·have:=CT.len;rw[List.length_take]at this;rw[eg];omega
  have tU:=bq.Io (o:=HO.lst (j5 as++[V.ref a])) lA
  refine ⟨_,rfl,T,_,_,_,rfl,rfl,bp.of (tU _ _ hT),aH (j:=1) rfl,?_⟩
  refine ⟨as++[a],some (.int (0+(i:Int))),some (.ref T),?_,?_,?_,oS (s.trans s2) n1⟩
  ·have e:(pre++eQ (ts.take i)++[32]).length+(bN t).length=pre.length+(eQ (ts.take (i+1))).length:=by
    rw[hB, <-take_snoc hg,y0,kO]
    simp only[List.length_append,List.length_cons,eQ,List.flatMap_nil,List.length_nil]
    omega
   rw[<-e]
   rfl
  ·rw[ag];unfold j5;rw[List.map_append];rfl
  ·rw[<-take_snoc hg]
   exact oR (Bb.ts tU) (CT.ts ((bq.of s2).trans tU))
 ·rintro σ H1 ⟨as,nv,rv,rfl,Ks,CT,s⟩
  have e0:((ts.length:Int)).toNat=ts.length:=by omega
  rw[e0,List.take_length]at CT
  refine ⟨_,rfl,_,rfl,by show 2<=sizeLine;decide,fun t nt=>?_⟩
  rw[e0,List.take_length]
  have s3:=ar.upd (o:=HO.tup [V.ref p1,V.int ((pre.length+(eQ ts).length:Nat):Int)]) nt
  exact q t p1 as _ ag (s3 _ _ Ks) (CT.ts (bq.of s3)) (s.trans s3)
theorem tW (T:Txt P w K mg f0 f1 f2 f3 f4 f5 f6 f7 f8 f9 eR fF eS fG fH fI fJ fK fL fM fN eN fO fP fQ fR fS fT fU eU fV fW fX fZ aq ak ax ay aG d0 d1 d2 d3 d4 d5 d6 d7 d8 d9 gi gF gj gG gH gI gJ gK gL gM gN f_ gO gP gQ gR gS gT gU gk gW gX gY gZ aB) (n:Nat) (ih:bE P w K mg base eK (4+3*n) eN f_ ["row","start"] (cn K n)):bE P w K mg base eK (4+3*n+2) fN gN ["row","start"] (kN K n):=by
 have vQ:=tT (P:=P) (w:=w) (base:=base) T
 have vR:=tV (P:=P) (w:=w) (base:=base) T
 have tX:=qq (P:=P) (w:=w) (base:=base) T n ih
 refine T.JM.fn.ok dG (fun vs H Q E h=>qi h) (fun cN A outer s H vs Q E hr h=>?_)
 refine ⟨_,(ah (aF (i:=2) dG.nd rfl (Or.inl rfl) (aw vQ (hr.mono (by omega)) rfl T.JJ.mg T.JJ.fn.kp T.JJ.bd .nil aO (ae (pv 0) (ae (pv 1) af))))
   (ah (aX (az jS (pv 2) cE (aL _)) (ao (aE cE)) aI)
   (ah (aF (i:=3) dG.nd rfl (Or.inl rfl) (bL (ae (aJ (aM K rfl) (pv 2) ai (fun _ _=>rfl)) af)))
   (ah (aX (we (Jh K P w rfl rfl rfl (aJ (aM K rfl) (pv 2) ai (fun _ _=>rfl)) (gm (v:= .ref aG) rfl T.zg rfl)) (by with_unfolding_all rfl)) (ah (aF (i:=2) dG.nd rfl (Or.inl rfl) (aw vR (hr.mono (by omega)) rfl T.JK.mg T.JK.fn.kp T.JK.bd .nil aO (ae (aJ (aM K rfl) (pv 2) ai (fun _ _=>rfl)) (ae (pv 0) (ae (aJ (aM K rfl) (pv 2) ai (fun _ _=>rfl)) af)))))
   (ah (aX (az jS (pv 2) cE (aL _)) (ao (aE cE)) aI)
   (ao (gp (bQ K rfl PySem.F.plainAttrs_list PySem.F.slot_list_append PySem.F.type_list_append g9 (pv 3) (ae (aJ (aM K rfl) (pv 2) ai (fun _ _=>rfl)) af)))))) aI)
   (ah (aF (i:=2) dG.nd rfl (Or.inl rfl) (aw tX (hr.mono (by omega)) rfl T.JL.mg T.JL.fn.kp T.JL.bd .nil aO (ae (sC K P w rfl rfl rfl (gm (v:= .ref ay) rfl T.kR rfl) (aJ (ba K rfl) (pv 3) ai (fun _ _=>rfl)) (fun _ _=>rfl)) (ae (pv 0) (ae (aJ (aM K rfl) (pv 2) ai (fun _ _=>rfl)) af)))))
   (ah (aX (PW.pt (gn (az jS (pv 2) cE (aL _)) (gA (az nX (bJ nN (pv 0) (bC (aJ (aM K rfl) (pv 2) ai (fun _ _=>rfl))) (bC (aN bG (aJ (aM K rfl) (pv 2) ai (fun _ _=>rfl)) ai))) (bg [41] (by decide+kernel)) (aL _))))) (ao (aE cE)) aI)
   (ao (aE (aZ (ae (c_ (fk K rfl) rfl T.z_tuple boot_tuple (ae (aN nG (pv 3) (aJ (aM K rfl) (pv 2) ai (fun _ _=>rfl))) af)) (ae (aN bG (aJ (aM K rfl) (pv 2) ai (fun _ _=>rfl)) ai) af))))))))))),?_⟩
 obtain ⟨pre,post,t,rfl,hm,ht,hd,hn,hz,q⟩:=h
 have hs:(900001:Nat)<sizeLine:=by decide
 have ex:bN t=(40::cX t)++v_ t++eQ (subs t)++[41]:=Cu hm
 obtain ⟨u,us,JX⟩:=Cz hm
 have Ei:=vy t
 obtain ⟨rest,Nj⟩: ∃rest,v_ t++eQ (subs t)++[41]++post=32::rest:=by
  rcases oU hm ht with ⟨e1,_,_⟩ | ⟨c,v,e1,_,_⟩
  ·rw[e1,JX,kO];exact ⟨_,rfl⟩
  ·rw[e1];exact ⟨_,rfl⟩
 have WL:pre++bN t++post=pre++((40::cX t)++32::rest):=by rw[ex, <-Nj];simp
 have OO:pre++bN t++post=(pre++(40::cX t)++v_ t)++(eQ (subs t)++41::post):=by rw[ex];simp
 have hlen:(pre++bN t++post).length=pre.length+(bN t).length+post.length:=by simp;omega
 refine ⟨_,rfl,_,rfl,pre,cX t,rest,by rw[<-WL];rfl,vx hm,by rw[<-WL];exact hz,fun T0 H1 WM s1=>?_⟩
 refine ⟨_,rfl,rfl,_,rfl,bo (decide_eq_false fun z=>nomatch z) ?_⟩
 refine ⟨_,rfl,T0,_,_,_,rfl,rfl,bp.of WM,aH (j:=0) rfl,by show 1<=sizeLine;decide,fun p1 n1=>?_⟩
 have Q2:=ar.upd (o:=HO.lst [V.str (S (cX t))]) n1
 have ql:upd H1 p1 (HO.lst [V.str (S (cX t))]) p1=some (HO.lst [V.str (S (cX t))]):=ag
 have n0:H p1=none:=ar.free s1 n1
 have FL:=Q2 _ _ WM
 have tQ:=s1.trans Q2
 generalize upd H1 p1 (HO.lst [V.str (S (cX t))])=H2 at Q2 ql FL tQ ⊢
 apply Jz (P:=fun T H'=> ∃x:V,H' T=some (.tup [x, .int (((pre++(40::cX t)++v_ t).length:Nat):Int)])/\H' p1=some (.lst (y6 t))/\ar H H')
 ·intro key
  rcases oU hm ht with ⟨e1,e2,e3⟩ | ⟨c,v,e1,e2,e3⟩
  rotate_left
  ·have Na:(cQ eJ (Sum.inr (S (cX t)))).isSome=true:=by
    rcases e3 with ⟨g,_⟩ | ⟨g,_⟩
    ·rw[g];exact congrArg Option.isSome (bF rfl)
    ·rw[g];exact congrArg Option.isSome ((bf (jI (by decide))).trans (bF rfl))
   refine ⟨_,rfl,T0,_,_,_,rfl,rfl,bp.of FL,aH (j:=0) rfl,aG,eJ,Sum.inr (S (cX t)),rfl,T.nu,rfl,?_⟩
   rw[Na]
   refine ⟨_,rfl,eP rfl ?_⟩
   have Ni:pre++bN t++post=(pre++(40::cX t))++([32,c]++(eQ (subs t)++41::post)):=by rw[OO,e1];simp
   have hB:(pre++(40::cX t)).length=pre.length+1+(cX t).length:=by simp;omega
   refine ⟨_,rfl,T0,_,_,_,rfl,rfl,bp.of FL,aH (j:=0) rfl,_,rfl,_,rfl,T0,_,_,_,rfl,rfl,bp.of FL,aH (j:=1) rfl,?_⟩
   refine ⟨pre++(40::cX t),cX t,eQ (subs t)++41::post,c,v,by rw[<-Ni,hB];rfl,by rw[<-Ni];exact hz,e3,fun T2 H4 WN s4=>?_⟩
   have FK:=s4 _ _ ql
   refine ⟨_,rfl,rfl,_,rfl,bo (decide_eq_false fun z=>nomatch z) ?_⟩
   refine ⟨_,rfl, .inl ⟨rfl,_,bt.of FK⟩,_,rfl,T2,_,_,_,rfl,rfl,bp.of WN,aH (j:=0) rfl,p1,_,_,rfl,rfl,FK,by show 1<sizeLine;decide,?_⟩
   have tU:=bq.Io (o:=HO.lst ([V.str (S (cX t))]++[v])) FK
   have h5:upd H4 p1 (HO.lst ([V.str (S (cX t))]++[v])) p1=some (.lst (y6 t)):=by rw[ag];unfold y6;rw[e2];rfl
   have GV:=oS (o:=HO.lst ([V.str (S (cX t))]++[v])) (tQ.trans s4) n0
   have GZ:=tU _ _ WN
   generalize upd H4 p1 (HO.lst ([V.str (S (cX t))]++[v]))=H5 at tU h5 GV GZ ⊢
   refine key T2 H5 ⟨v,?_,h5,GV⟩
   rw[GZ,e1]
   have e:(pre++(40::cX t)++[32,c]).length=(pre++(40::cX t)).length+2:=by simp;omega
   rw[e]
  ·have Na:(cQ eJ (Sum.inr (S (cX t)))).isSome=false:=by
    rcases e3 with g | g
    ·rw[g];exact congrArg Option.isSome ((bf (jI (by decide))).trans ((bf (jI (by decide))).trans nZ))
    ·rw[g];exact congrArg Option.isSome ((bf (jI (by decide))).trans ((bf (jI (by decide))).trans nZ))
   refine ⟨_,rfl,T0,_,_,_,rfl,rfl,bp.of FL,aH (j:=0) rfl,aG,eJ,Sum.inr (S (cX t)),rfl,T.nu,rfl,?_⟩
   rw[Na]
   refine ⟨_,rfl,bo rfl ?_⟩
   refine key T0 H2 ⟨.str (S (cX t)),?_,by rw[ql];unfold y6;rw[e2],tQ⟩
   rw[FL,e1]
   have e:(pre++(40::cX t)++[]).length=pre.length+1+(cX t).length:=by simp;omega
   rw[e]
 ·rintro T1 H3 ⟨x,MD,zk,s3⟩
  refine ⟨_,rfl,p1,_,_,_,rfl,rfl,bt.of zk,aH (j:=0) rfl,ay,dZ,Sum.inr (S (cX t)),_,rfl,T.kT,rfl,Cy hm,_,rfl,_,rfl,T1,_,_,_,rfl,rfl,bp.of MD,aH (j:=1) rfl,?_⟩
  refine ⟨pre++(40::cX t)++v_ t,41::post,subs t,by rw[<-OO];rfl,fun u hu=>⟨xq ht hu,hV hd hu⟩,hn,Ei,MV _,by rw[<-OO];exact hz,fun T5 l as H5 GZ Zz CT s5=>?_⟩
  have ZC:pre++bN t++post=(pre++(40::cX t)++v_ t++eQ (subs t))++(41::post):=by rw[OO];simp
  have hE:(pre++(40::cX t)++v_ t++eQ (subs t)).length=(pre++(40::cX t)++v_ t).length+(eQ (subs t)).length:=List.length_append
  generalize hGE:(pre++(40::cX t)++v_ t).length+(eQ (subs t)).length=e at GZ hE
  have hR:e+1=pre.length+(bN t).length:=by
   rw[<-hE,ex]
   simp only[List.length_append,List.length_cons,List.length_nil]
   omega
  have ec:cut (pre++bN t++post) (some (e:Int)) (some ((e:Int)+1))=[41]:=by
   have:=oP (pre++bN t++post) e (e+1) (by omega)
   rw[show (e:Int)+1=((e+1:Nat):Int) from rfl,this,ZC,iE hE,Nat.add_sub_cancel_left]
   rfl
  refine ⟨_,rfl,rfl,_,rfl,bo (decide_eq_false fun z=>nomatch z) ?_⟩
  refine ⟨_,rfl,_,rfl,T5,_,_,_,rfl,rfl,bp.of GZ,aH (j:=1) rfl,_,rfl,_,rfl,T5,_,_,_,rfl,rfl,bp.of GZ,aH (j:=1) rfl,_,_,rfl,rfl,_,rfl,_,rfl,by omega,?_⟩
  rw[ec]
  refine ⟨_,_,rfl,rfl,_,rfl,bo (by rw[decide_eq_true rfl];rfl) ?_⟩
  have AX:=s5 _ _ zk
  refine ⟨_,rfl,_,rfl,T5,_,_,_,rfl,rfl,bp.of GZ,aH (j:=0) rfl,p1,l,_,_,rfl,rfl,AX,Zz,?_,fun r nr=>?_⟩
  ·have h1:(y6 t).length<=2:=by
    unfold y6
    rcases oU hm ht with ⟨_,g,_⟩ | ⟨_,_,_,g,_⟩
    ·rw[g];show 1<=2;decide
    ·rw[g];exact Nat.le_refl _
   have h2:=CT.len
   rw[eg]
   omega
  have s6:=ar.upd (o:=HO.lst (y6 t++j5 as)) nr
  refine ⟨r,_,rfl, .inl ⟨bt.of ag,fun tt ZD=>?_⟩⟩
  have s7:=ar.upd (o:=HO.tup (y6 t++j5 as)) ZD
  have CU:=s6.trans s7
  refine ⟨_,rfl,T5,_,_,_,rfl,rfl,bp.of (CU _ _ GZ),aH (j:=1) rfl,_,_,rfl,rfl,by show 2<=sizeLine;decide,fun R nR=>?_⟩
  have s8:=ar.upd (o:=HO.tup [V.ref tt,V.int ((e:Int)+1)]) nR
  refine q R tt _ ?_ (MW hm (s8 _ _ ag) (CT.ts (bq.of (CU.trans s8)))) ((s3.trans s5).trans (CU.trans s8))
  rw[<-hR]
  exact ag
theorem xD (T:Txt P w K mg f0 f1 f2 f3 f4 f5 f6 f7 f8 f9 eR fF eS fG fH fI fJ fK fL fM fN eN fO fP fQ fR fS fT fU eU fV fW fX fZ aq ak ax ay aG d0 d1 d2 d3 d4 d5 d6 d7 d8 d9 gi gF gj gG gH gI gJ gK gL gM gN f_ gO gP gQ gR gS gT gU gk gW gX gY gZ aB):bE P w K mg base eK 1 f1 d1 ["text"] (oN K):=by
 refine T.F1.fn.ok xw (fun vs H Q E h=>vz h) (fun cN A outer s H vs Q E hr h=>?_)
 refine ⟨_,(ao (aE (Bg (Bo Ga Ga ai (aV da rfl T.z_len PySem.boot_len (ae (pv 0) af)) (Gm 6 rfl T.g_LONGEST_NAME)) (Bf (aV (qN K rfl rfl) rfl T.z_all boot_all (ae (bW ["sign"] [none] (r_ (pv 0)) trivial (fun _ _ _ _=>(aU (i:=0) (by decide+kernel:List.Nodup (["sign"]:List Str)) rfl (Or.inl rfl))) (fun _ _ _ _=>cV) (fun _ _ _ _=>(rM wQ (pv 0) (km [97,98,99,100,101,102,103,104,105,106,107,108,109,110,111,112,113,114,115,116,117,118,119,120,121,122] rfl T.g_SMALL) (by with_unfolding_all rfl)))) af)))))),?_⟩
 obtain ⟨l,rfl,hl,q⟩:=h
 have hs:(900001:Nat)<sizeLine:=by decide
 unfold isNm at q
 refine ⟨_,rfl,l,rfl,by omega,_,_,rfl,rfl,_,rfl,cj (fun z1=>?_) (fun z1=>?_)⟩
 rotate_left
 ·have n1: ¬1<=l.length:=fun g=>z1 (decide_eq_true (by omega))
  have:=q H (ar.refl _)
  rw[decide_eq_false n1]at this
  exact ⟨_,rfl,bo rfl this⟩
 have y1:1<=l.length:=by have:=of_decide_eq_true z1;omega
 rw[decide_eq_true y1]at q
 refine ⟨_,_,rfl,rfl,_,rfl,cj (fun z2=>?_) (fun z2=>?_)⟩
 rotate_left
 ·have n2: ¬l.length<=6:=fun g=>z2 (decide_eq_true (by omega))
  have:=q H (ar.refl _)
  rw[decide_eq_false n2]at this
  exact this
 have y2:l.length<=6:=by have:=of_decide_eq_true z2;omega
 rw[decide_eq_true y2]at q
 refine ⟨_,rfl,l,rfl,?_⟩
 refine kj (xs:=cI l) (fun i acc H'=>ar H H'/\acc=((l.take i).map fun c=>decide (c∈aj)).map V.bl) (by rw[bV];omega) ⟨ar.refl _,rfl⟩ ?_ ?_
 ·rintro i x acc H1 Nx hi hx hz ⟨s1,rfl⟩ nx
  obtain ⟨c,hc,rfl⟩:=ki hx
  refine ⟨trivial,bY ⟨_,rfl,c,aj,rfl,rfl,nx _ _ (by simpa using hz) ⟨s1,?_⟩⟩⟩
  rw[<-take_snoc hc,List.map_append,List.map_append]
  rfl
 rintro acc H1 D hz ⟨s1,rfl⟩ nD
 rw[bV,List.take_length]
 refine ⟨D,l.map fun c=>decide (c∈aj),rfl,bt.of ag,?_⟩
 have:=q _ (s1.trans (ar.upd (o:=HO.lst ((l.map fun c=>decide (c∈aj)).map V.bl)) nD))
 have e:(l.map fun c=>decide (c∈aj)).all id=l.all fun c=>decide (c∈aj):=by rw[List.all_map];rfl
 rw[e]
 exact this
theorem jj (T:Txt P w K mg f0 f1 f2 f3 f4 f5 f6 f7 f8 f9 eR fF eS fG fH fI fJ fK fL fM fN eN fO fP fQ fR fS fT fU eU fV fW fX fZ aq ak ax ay aG d0 d1 d2 d3 d4 d5 d6 d7 d8 d9 gi gF gj gG gH gI gJ gK gL gM gN f_ gO gP gQ gR gS gT gU gk gW gX gY gZ aB):bE P w K mg base eK 2 fH gH ["text"] (fD K):=by
 have A5:=xD (P:=P) (w:=w) (base:=base) T
 refine T.Dh.fn.ok o_ (fun vs H Q E h=>mR h) (fun cN A outer s H vs Q E hr h=>?_)
 refine ⟨_,(ao (aE (Bg (aw A5 (hr.mono (by decide)) rfl T.F1.mg T.F1.fn.kp T.F1.bd .nil aO (ae (pv 0) af)) (Bf (Hl (ED K P w rfl rfl rfl (pv 0) (gm (v:= .ref ay) rfl T.kR rfl)) (by with_unfolding_all rfl)))))),?_⟩
 obtain ⟨l,rfl,hl,q⟩:=h
 refine ⟨_,rfl,l,rfl,hl,fun H1 s1=>?_⟩
 have q1:=q H1 s1
 unfold Fh at q1
 refine ⟨_,rfl,cj (fun z=>?_) (fun z=>?_)⟩
 ·refine ⟨_,rfl,ay,dZ,Sum.inr (S l),rfl,T.kT,rfl,?_⟩
  have e:(cQ dZ (Sum.inr (S l))).isSome=decide (l∈kinds):=MT l
  rw[e]
  rw[z]at q1
  by_cases g:l∈kinds
  ·rw[decide_eq_true g];rw[decide_eq_false (fun w=>w g)]at q1;exact q1
  ·rw[decide_eq_false g];rw[decide_eq_true g]at q1;exact q1
 ·rw[Bool.eq_false_iff.mpr z]at q1
  exact q1
theorem tY (T:Txt P w K mg f0 f1 f2 f3 f4 f5 f6 f7 f8 f9 eR fF eS fG fH fI fJ fK fL fM fN eN fO fP fQ fR fS fT fU eU fV fW fX fZ aq ak ax ay aG d0 d1 d2 d3 d4 d5 d6 d7 d8 d9 gi gF gj gG gH gI gJ gK gL gM gN f_ gO gP gQ gR gS gT gU gk gW gX gY gZ aB):bE P w K mg base eK 3 fJ gJ ["row","start"] (kK K):=by
 have g6:=jj (P:=P) (w:=w) (base:=base) T
 refine T.JI.fn.ok iJ (fun vs H Q E h=>qf h) (fun cN A outer s H vs Q E hr h=>?_)
 refine ⟨_,(ah (aF (i:=2) iJ.nd rfl (Or.inl rfl) (pv 1))
   (ah (lF PassesOwn.never (PW.pt (lh (az j8 (pv 2) (aV da rfl T.z_len PySem.boot_len (ae (pv 0) af)) (aL _)) (jm (az wQ (aJ pU (pv 0) (pv 2) (fun _ _=>rfl)) (km [97,98,99,100,101,102,103,104,105,106,107,108,109,110,111,112,113,114,115,116,117,118,119,120,121,122] rfl T.g_SMALL) (by with_unfolding_all rfl))))) (ao (Hr (i:=2) iJ.nd rfl (Or.inl rfl) ai Hs)))
   (ah (aX (rK (fc (aw g6 (hr.mono (by decide)) rfl T.Dh.mg T.Dh.fn.kp T.Dh.bd .nil aO (ae (bJ nN (pv 0) (bC (pv 1)) (bC (pv 2))) af)))) (ao (aE cE)) aI)
   (ao (aE (aZ (ae (aZ (ae (bg [110,97,109,101] (by decide+kernel)) (ae (bJ nN (pv 0) (bC (pv 1)) (bC (pv 2))) af))) (ae (pv 2) af)))))))),?_⟩
 obtain ⟨pre,s,post,rfl,hn,hp,hz,q⟩:=h
 have hs:(900001:Nat)<sizeLine:=by decide
 have hsz:=hn.sz
 have e0:pre++bN (.name s)++post=pre++(s++post):=by show pre++s++post=_;rw[List.append_assoc]
 have Dp:(pre++bN (.name s)++post).length=pre.length+s.length+post.length:=by rw[e0];simp;omega
 have ec:cut (pre++bN (.name s)++post) (some (pre.length:Int)) (some ((pre.length+s.length:Nat):Int))=s:=by
  rw[oP _ _ _ (by omega),e0,iE rfl,Nat.add_sub_cancel_left,List.take_append_of_le_length (Nat.le_refl _),List.take_length]
 refine ⟨_,rfl,?_⟩
 refine ⟨fun m σ H'=> ∃k:Nat,σ=[some (.str (S (pre++bN (.name s)++post))),some (.int (pre.length:Nat)),some (.int ((pre.length+k:Nat):Int))]/\m=s.length - k/\k<=s.length/\H'=H,⟨_,0,rfl,rfl,Nat.zero_le _,rfl⟩,?_⟩
 rintro m σ H2 ⟨k,rfl,rfl,hk,rfl⟩
 have fin:k=s.length->Dw (KZ (KU (tB (Gb (fD K) [] E0 (qB (Pj Ih (rJ 0) (uu (rJ 1)) (uu (rJ 2))) DE)))) (Hm (tC V.cT)) FX) (Hm (HE (qB (HE (qB (tC (V.str (S [110,97,109,101]))) (qB (Pj Ih (rJ 0) (uu (rJ 1)) (uu (rJ 2))) DE))) (qB (rJ 2) DE)))) { nx:=fun x H'=>Q V.cT H',rt:=Q } [some (.str (S (pre++bN (.name s)++post))),some (.int (pre.length:Nat)),some (.int ((pre.length+k:Nat):Int))] H2:=fun ek=>by
  subst ek
  refine ⟨_,rfl,_,rfl,_,rfl,_,rfl,_,rfl,_,rfl,by omega,?_⟩
  rw[ec]
  refine ⟨s,rfl,by omega,fun H3 s3=>?_⟩
  rw[hn.is]
  refine ⟨_,rfl,bo rfl ?_⟩
  refine ⟨_,rfl,_,rfl,_,rfl,_,rfl,_,rfl,_,rfl,by omega,?_⟩
  rw[ec]
  refine ⟨by show 2<=sizeLine;decide,fun a na=>?_⟩
  have s4:=ar.upd (o:=HO.tup [V.str (S dN),V.str (S s)]) na
  refine ⟨_,rfl,by show 2<=sizeLine;decide,fun t nt=>?_⟩
  have s5:=ar.upd (o:=HO.tup [V.ref a,V.int ((pre.length+s.length:Nat):Int)]) nt
  exact q t a _ ag (s5 _ _ ag) (s3.trans (s4.trans s5))
 have at_:(pre++bN (.name s)++post)[pre.length+k]? =(s++post)[k]?:= by
  rw[e0,List.getElem?_append_right (by omega),Nat.add_sub_cancel_left]
 rcases Nat.lt_or_eq_of_le hk with g | g
 ·have hg:=List.getElem?_eq_getElem g
  have hc:=hn.lt _ (List.getElem_mem g)
  generalize s[k]=c at hg hc
  rw[List.getElem?_append_left g,hg]at at_
  refine ⟨_,rfl,_,rfl,_,rfl,by omega,_,_,rfl,rfl,_,rfl,eP (decide_eq_true (by omega)) ?_⟩
  refine ⟨_,rfl,_,rfl,_,_,c,rfl,rfl,by omega,aH at_,c,aj,rfl,rfl,_,rfl,eP (decide_eq_true hc) ?_⟩
  refine ⟨_,rfl,_,_,rfl,rfl,_,?_,k+1,?_,rfl,by omega,rfl⟩
  ·omega
  ·rw[show ((pre.length+(k+1):Nat):Int)=((pre.length+k:Nat):Int)+1 by omega];rfl
 ·by_cases Kw:post=[]
  ·have Ks:(pre++bN (.name s)++post).length=pre.length+k:=by rw[Dp,Kw,g];rfl
   refine ⟨_,rfl,_,rfl,_,rfl,by omega,_,_,rfl,rfl,_,rfl,bo (decide_eq_false (by omega)) ?_⟩
   exact bo rfl (fin g)
  ·obtain ⟨d,ds,Kw⟩:=List.exists_cons_of_ne_nil Kw
   have hd:d∉aj:=hp d (by rw[Kw];rfl)
   have Ks:pre.length+k<(pre++bN (.name s)++post).length:=by rw[Dp,Kw,g];simp
   have at2:(s++post)[k]? =some d:=by rw[List.getElem?_append_right (by omega),g,Nat.sub_self,Kw];rfl
   rw[at2]at at_
   refine ⟨_,rfl,_,rfl,_,rfl,by omega,_,_,rfl,rfl,_,rfl,eP (decide_eq_true (by omega)) ?_⟩
   refine ⟨_,rfl,_,rfl,_,_,d,rfl,rfl,by omega,aH at_,d,aj,rfl,rfl,_,rfl,bo (decide_eq_false hd) ?_⟩
   exact fin g
theorem pB (T:Txt P w K mg f0 f1 f2 f3 f4 f5 f6 f7 f8 f9 eR fF eS fG fH fI fJ fK fL fM fN eN fO fP fQ fR fS fT fU eU fV fW fX fZ aq ak ax ay aG d0 d1 d2 d3 d4 d5 d6 d7 d8 d9 gi gF gj gG gH gI gJ gK gL gM gN f_ gO gP gQ gR gS gT gU gk gW gX gY gZ aB) (n:Nat) (ih:bE P w K mg base eK (4+3*n) eN f_ ["row","start"] (cn K n)):bE P w K mg base eK (4+3*n+3) eN f_ ["row","start"] (cn K (n+1)):=by
 have vS:=tS (P:=P) (w:=w) (base:=base) T
 have vT:=tW (P:=P) (w:=w) (base:=base) T n ih
 have vU:=tY (P:=P) (w:=w) (base:=base) T
 refine T.Di.fn.ok tM (fun vs H Q E h=>qj h) (fun cN A outer s H vs Q E hr h=>?_)
 refine ⟨_,(ah (aX (fc (bQ K rfl PySem.F.plainAttrs_str PySem.F.slot_str_startswith PySem.F.type_str_startswith lL (pv 0) (ae (km [39] rfl T.g_STROKE) (ae (pv 1) af)))) (ao (aE (aw vS (hr.mono (by omega)) rfl T.JH.mg T.JH.fn.kp T.JH.bd .nil aO (ae (pv 0) (ae (pv 1) af))))) aI)
   (ah (aX (fc (bQ K rfl PySem.F.plainAttrs_str PySem.F.slot_str_startswith PySem.F.type_str_startswith lL (pv 0) (ae (bg [40] (by decide+kernel)) (ae (pv 1) af)))) (ao (aE (aw vT (hr.mono (by omega)) rfl T.JM.mg T.JM.fn.kp T.JM.bd .nil aO (ae (pv 0) (ae (pv 1) af))))) aI)
   (ao (aE (aw vU (hr.mono (by omega)) rfl T.JI.mg T.JI.fn.kp T.JI.bd .nil aO (ae (pv 0) (ae (pv 1) af))))))),?_⟩
 obtain ⟨pre,post,t,rfl,ht,hd,hn,hp,hz,q⟩:=h
 have hs:(900001:Nat)<sizeLine:=by decide
 have ea:S (pre++bN t++post)=S (pre++(bN t++post)):=by rw[List.append_assoc]
 refine ⟨_,rfl,rfl,_,rfl,pre++(bN t++post),[39],pre.length,by rw[<-ea],rfl,?_⟩
 rw[oQ]
 by_cases hm:made t
 ·obtain ⟨r,hr⟩:=Fm hm
  refine ⟨_,rfl,bo (by rw[hr];exact decide_eq_false fun z=>absurd (List.cons.inj z).1 (by decide)) ?_⟩
  refine ⟨_,rfl,rfl,_,rfl,pre++(bN t++post),[40],pre.length,by rw[<-ea],rfl,?_⟩
  rw[oQ]
  refine ⟨_,rfl,eP (by rw[hr];exact decide_eq_true rfl) ?_⟩
  exact ⟨_,rfl,_,rfl,pre,post,t,rfl,hm,ht,by omega,by omega,hz,q⟩
 ·cases t with
  | walk w=>
   refine ⟨_,rfl,eP (by show decide ((39::(w++[39])++post).take 1=[39])=true;exact decide_eq_true rfl) ?_⟩
   exact ⟨_,rfl,_,rfl,pre,w,post,rfl,ht,hz,q⟩
  | name s=>
   obtain ⟨c,r,e,hc⟩:=Fn ht
   have n1:c≠39:=fun z=>by rw[z]at hc;revert hc;decide
   have n2:c≠40:=fun z=>by rw[z]at hc;revert hc;decide
   refine ⟨_,rfl,bo (by show decide ((s++post).take 1=[39])=false;rw[e];exact decide_eq_false fun z=>n1 (List.cons.inj z).1) ?_⟩
   refine ⟨_,rfl,rfl,_,rfl,pre++(bN (.name s)++post),[40],pre.length,by rw[<-ea],rfl,?_⟩
   rw[oQ]
   refine ⟨_,rfl,bo (by show decide ((s++post).take 1=[40])=false;rw[e];exact decide_eq_false fun z=>n2 (List.cons.inj z).1) ?_⟩
   exact ⟨_,rfl,_,rfl,pre,s,post,rfl,ht,hp,hz,q⟩
  | back t=>exact absurd trivial hm
  | again k t=>exact absurd trivial hm
  | aS a b=>exact absurd trivial hm
  | fr c a b=>exact absurd trivial hm
theorem k_ (T:Txt P w K mg f0 f1 f2 f3 f4 f5 f6 f7 f8 f9 eR fF eS fG fH fI fJ fK fL fM fN eN fO fP fQ fR fS fT fU eU fV fW fX fZ aq ak ax ay aG d0 d1 d2 d3 d4 d5 d6 d7 d8 d9 gi gF gj gG gH gI gJ gK gL gM gN f_ gO gP gQ gR gS gT gU gk gW gX gY gZ aB): ∀n,bE P w K mg base eK (4+3*n) eN f_ ["row","start"] (cn K n)
 | 0=>i8 fun vs H Q E h=>qk h
 | n+1=>pB T n (k_ T n)
theorem vV (T:Txt P w K mg f0 f1 f2 f3 f4 f5 f6 f7 f8 f9 eR fF eS fG fH fI fJ fK fL fM fN eN fO fP fQ fR fS fT fU eU fV fW fX fZ aq ak ax ay aG d0 d1 d2 d3 d4 d5 d6 d7 d8 d9 gi gF gj gG gH gI gJ gK gL gM gN f_ gO gP gQ gR gS gT gU gk gW gX gY gZ aB):bE P w K mg base eK 29 fO gO ["row"] (mw K):=by
 have vW:=k_ (P:=P) (w:=w) (base:=base) T
 have g6:=jj (P:=P) (w:=w) (base:=base) T
 refine T.JN.fn.ok jg (fun vs H Q E h=>tF h) (fun cN A outer s H vs Q E hr h=>?_)
 refine ⟨_,(ah (aF (i:=1) jg.nd rfl (Or.inl rfl) (bQ K rfl PySem.F.plainAttrs_str PySem.F.slot_str_partition PySem.F.type_str_partition B8 (pv 0) (ae (km [32,61,32] rfl T.g_IS) af)))
   (ah (aF (i:=2) jg.nd rfl (Or.inl rfl) (aw (vW 8) (hr.mono (by decide)) rfl T.Di.mg T.Di.fn.kp T.Di.bd .nil aO (ae (aJ (aM K rfl) (pv 1) ai (fun _ _=>rfl)) (ae ai af))))
   (ah (aX (PW.pt (gn (rK (fc (aw g6 (hr.mono (by decide)) rfl T.Dh.mg T.Dh.fn.kp T.Dh.bd .nil aO (ae (aJ (aM K rfl) (pv 1) ai (fun _ _=>rfl)) af)))) (gn (az jS (pv 2) cE (aL _)) (gA (az j8 (aJ (aM K rfl) (pv 2) ai (fun _ _=>rfl)) (aV da rfl T.z_len PySem.boot_len (ae (aJ (aM K rfl) (pv 1) ai (fun _ _=>rfl)) af)) (aL _)))))) (ao (aE cE)) aI)
   (ao (aE (aZ (ae (aJ (aM K rfl) (pv 1) ai (fun _ _=>rfl)) (ae (aJ (aM K rfl) (pv 2) ai (fun _ _=>rfl)) af)))))))),?_⟩
 obtain ⟨nm,t,rfl,hn,ht,hd,q⟩:=h
 have hs:(900001:Nat)<sizeLine:=by decide
 have hsz:=hn.sz
 have hl:=tE ht hd (by decide)
 have ZE:32∉nm:=fun z=>by have:=hn.lt 32 z;revert this;decide
 have er:fB (nm,t)=nm++(32::[61,32])++bN t:=rfl
 have lA:(nm++(32::[61,32])++bN t).length=nm.length+3+(bN t).length:=by simp;omega
 rw[er]
 refine ⟨_,rfl,rfl,nm,bN t,[61,32],32,rfl,rfl,ZE,by omega,fun T nT=>?_⟩
 have s1:=ar.upd (o:=HO.tup [V.str (S nm),V.str (S (32::[61,32])),V.str (S (bN t))]) nT
 have hT:upd H T (HO.tup [V.str (S nm),V.str (S (32::[61,32])),V.str (S (bN t))]) T=some (HO.tup [V.str (S nm),V.str (S (32::[61,32])),V.str (S (bN t))]):=ag
 generalize upd H T (HO.tup [V.str (S nm),V.str (S (32::[61,32])),V.str (S (bN t))])=H1 at s1 hT ⊢
 refine ⟨_,rfl,T,_,_,_,rfl,rfl,bp.of hT,aH (j:=2) rfl,?_⟩
 refine ⟨[],[],t,by simp,ht,by omega,by decide,QH,by simp;omega,?_⟩
 intro R a H2 hR Bb s2
 have FL:=s2 _ _ hT
 refine ⟨_,rfl,T,_,_,_,rfl,rfl,bp.of FL,aH (j:=0) rfl,nm,rfl,by omega,fun H3 s3=>?_⟩
 rw[hn.is]
 refine ⟨_,rfl,bo rfl ?_⟩
 refine ⟨_,rfl,rfl,_,rfl,bo (decide_eq_false fun z=>nomatch z) ?_⟩
 have WO:=s3 _ _ FL
 have WQ:=s3 _ _ hR
 refine ⟨_,rfl,R,_,_,_,rfl,rfl,bp.of WQ,aH (j:=1) rfl,_,rfl,T,_,_,_,rfl,rfl,bp.of WO,aH (j:=2) rfl,bN t,rfl,by omega,_,_,rfl,rfl,_,rfl,bo (decide_eq_false (by simp)) ?_⟩
 refine ⟨_,rfl,T,_,_,_,rfl,rfl,bp.of WO,aH (j:=0) rfl,_,rfl,R,_,_,_,rfl,rfl,bp.of WQ,aH (j:=0) rfl,by show 2<=sizeLine;decide,fun r nr=>?_⟩
 have s4:=ar.upd (o:=HO.tup [V.str (S nm),V.ref a]) nr
 exact q r a _ ag (Bb.ts (bq.of (s3.trans s4))) (s1.trans (s2.trans (s3.trans s4)))
theorem mU (T:Txt P w K mg f0 f1 f2 f3 f4 f5 f6 f7 f8 f9 eR fF eS fG fH fI fJ fK fL fM fN eN fO fP fQ fR fS fT fU eU fV fW fX fZ aq ak ax ay aG d0 d1 d2 d3 d4 d5 d6 d7 d8 d9 gi gF gj gG gH gI gJ gK gL gM gN f_ gO gP gQ gR gS gT gU gk gW gX gY gZ aB):bE P w K mg base eK 30 fP gP ["text"] (iO K):=by
 have xE:=vV (P:=P) (w:=w) (base:=base) T
 refine T.JO.fn.ok cv (fun vs H Q E h=>lT h) (fun cN A outer s H vs Q E hr h=>?_)
 refine ⟨_,(ah (aF (i:=1) cv.nd rfl (Or.inl rfl) (bL af))
   (ah (iy PassesOwn.never rfl (BL K rfl rfl T.z_enumerate (ae (bQ K rfl PySem.F.plainAttrs_str PySem.F.slot_str_split PySem.F.type_str_split (Ae 10) (pv 0) (ae (bg [10] (by decide+kernel)) af)) af)) (m6 (n:=2) K rfl rfl (cF (aU (i:=2) cv.nd rfl (Or.inl rfl)) (cF (aU (i:=3) cv.nd rfl (Or.inl rfl)) j7))) (ah (aF (i:=4) cv.nd rfl (Or.inl rfl) (aw xE (hr.mono (by decide)) rfl T.JN.mg T.JN.fn.kp T.JN.bd .nil aO (ae (pv 3) af)))
   (ah (aX (az jS (pv 4) cE (aL _)) (ao nA) aI)
   (ao (gp (bQ K rfl PySem.F.plainAttrs_list PySem.F.slot_list_append PySem.F.type_list_append g9 (pv 1) (ae (pv 4) af)))))))
   (ao (aE (c_ (fk K rfl) rfl T.z_tuple boot_tuple (ae (pv 1) af)))))),?_⟩
 obtain ⟨rs,rfl,Wz,hz,q⟩:=h
 have hs:(900001:Nat)<sizeLine:=by decide
 obtain ⟨z9,QW,iY⟩:=Wz
 have ZF:(mh 10 (Fi rs)).map (fun l=>V.str (S l))=bz (rs.map fB):=by
  unfold Fi
  rw[uQ (by simpa using z9) fun p hp=>by
   obtain ⟨r,hr,rfl⟩:=List.mem_map.mp hp
   exact MZ (iY r hr).1 (iY r hr).2.1]
  rfl
 refine ⟨Nat.zero_le _,fun p1 n1=>?_⟩
 have s1:=ar.upd (o:=HO.lst []) n1
 refine ⟨_,rfl,rfl,_,rfl,rfl,by omega,fun pl Kx=>?_⟩
 rw[ZF]
 have s2:=ar.upd (o:=HO.lst (bz (rs.map fB))) Kx
 have j4:upd (upd H p1 (HO.lst [])) pl (HO.lst (bz (rs.map fB))) pl=some (HO.lst (bz (rs.map fB))):=ag
 have ql:=s2 p1 _ ag
 have Q3:pl≠p1:=fun z=>by rw[z]at Kx;rw[ag]at Kx;cases Kx
 have tQ:=s1.trans s2
 generalize upd (upd H p1 (HO.lst [])) pl (HO.lst (bz (rs.map fB)))=H2 at s2 j4 ql tQ ⊢
 refine ⟨pl,rfl,⟨_,bt.of j4⟩,?_⟩
 refine zV (K:=K) (a:=pl) (xs:=bz (rs.map fB)) (fun i σ H'=> ∃(ks:List Rw) (nv rv xv:Option V),σ=[some (.str (S (Fi rs))),some (.ref p1),nv,rv,xv]/\H' p1=some (.lst (jN ks))/\jW ks=rs.take i/\(∀k∈ks,GJ H' k)/\H' pl=some (.lst (bz (rs.map fB)))/\ar H H')
  ⟨[],none,none,none,rfl,ql,rfl,fun _ h=>absurd h List.not_mem_nil,j4,tQ⟩ (fun i σ H' _ ⟨_,_,_,_,_,_,_,_,h,_⟩=>bt.of h) ?_ ?_
 ·rintro i x σ H3 T0 hx ⟨ks,nv,rv,xv,rfl,zk,GG,Bc,Nk,s3⟩ nT
  obtain ⟨l,hl,rfl⟩:=kC hx
  rw[List.getElem?_map]at hl
  obtain ⟨r,hr,rfl⟩:=Option.map_eq_some_iff.mp hl
  have Ky:=iY r (List.mem_of_getElem? hr)
  have hi:i<rs.length:=(List.getElem?_eq_some_iff.mp hr).1
  have sT:=ar.upd (o:=HO.tup [V.int (i:Nat),V.str (S (fB r))]) nT
  refine ⟨T0,_,rfl,bp.of ag,rfl,_,_,rfl,_,_,rfl,rfl,?_⟩
  refine ⟨_,rfl,r.1,r.2,rfl,Ky.1,Ky.2.1,Ky.2.2,fun R a H4 hR Bb s4=>?_⟩
  have OP:=sT.trans s4
  have FK:=OP _ _ zk
  refine ⟨_,rfl,rfl,_,rfl,bo (decide_eq_false fun z=>nomatch z) ?_⟩
  have wb:ks.length=i:=by
   have:=congrArg List.length GG
   unfold jW at this
   rw[List.length_map,List.length_take]at this
   omega
  refine ⟨_,rfl, .inl ⟨rfl,_,bt.of FK⟩,_,rfl,p1,_,_,rfl,rfl,FK,by rw[dD];omega,?_⟩
  rw[vj ks ⟨R,a,r.1,r.2⟩]
  have tU:=bq.Io (o:=HO.lst (jN (ks++[⟨R,a,r.1,r.2⟩]))) FK
  refine ⟨ks++[⟨R,a,r.1,r.2⟩],_,_,_,rfl,ag,?_,fun k hk=>?_,by rw[aA Q3];exact OP _ _ Nk,oS (s3.trans OP) n1⟩
  ·rw[y7,GG, <-take_snoc hr];rfl
  ·rcases List.mem_append.mp hk with g | g
   ·exact (Bc k g).ts ((bq.of OP).trans tU)
   ·rw[List.mem_singleton.mp g]
    exact ⟨tU _ _ hR,Bb.ts tU,Ky.2.2,Ky.1,Ky.2.1⟩
 ·rintro σ H3 ⟨ks,nv,rv,xv,rfl,zk,GG,Bc,Nk,s3⟩
  rw[bO,List.length_map,List.take_length]at GG
  have wb:ks.length=rs.length:=by have:=congrArg List.length GG;unfold jW at this;rwa [List.length_map]at this
  refine ⟨_,rfl,p1,_,rfl, .inl ⟨bt.of zk,fun t nt=>?_⟩⟩
  have s5:=ar.upd (o:=HO.tup (jN ks)) nt
  exact q t ks _ ⟨ag,fun k hk=>(Bc k hk).ts (bq.of s5),fun z=>z9 (by rw[z]at wb;exact List.length_eq_zero_iff.mp wb.symm),by omega⟩ GG (s3.trans s5)
theorem pE (T:Txt P w K mg f0 f1 f2 f3 f4 f5 f6 f7 f8 f9 eR fF eS fG fH fI fJ fK fL fM fN eN fO fP fQ fR fS fT fU eU fV fW fX fZ aq ak ax ay aG d0 d1 d2 d3 d4 d5 d6 d7 d8 d9 gi gF gj gG gH gI gJ gK gL gM gN f_ gO gP gQ gR gS gT gU gk gW gX gY gZ aB) (n:Nat) (ih:bE P w K mg base eK (1+n) eS gj ["term"] (dF K n)):bE P w K mg base eK (1+n+1) eS gj ["term"] (dF K (n+1)):=by
 refine T.Dg.fn.ok eV (fun vs H Q E h=>qb h) (fun cN A outer s H vs Q E hr h=>?_)
 refine ⟨_,(ah (aX (az cM (aJ (aM K rfl) (pv 0) ai (fun _ _=>rfl)) (bg [119,97,108,107] (by decide+kernel)) (aL _)) (ao (aE (aN cC (aN cC (km [39] rfl T.g_STROKE) (aJ (aM K rfl) (pv 0) ai (fun _ _=>rfl))) (km [39] rfl T.g_STROKE)))) aI)
   (ah (aX (az cM (aJ (aM K rfl) (pv 0) ai (fun _ _=>rfl)) (bg [110,97,109,101] (by decide+kernel)) (aL _)) (ao (aE (aJ (aM K rfl) (pv 0) ai (fun _ _=>rfl)))) aI)
   (ah (aF (i:=1) eV.nd rfl (Or.inl rfl) (sC K P w rfl rfl rfl (gm (v:= .ref ay) rfl T.kR rfl) (aJ (aM K rfl) (pv 0) ai (fun _ _=>rfl)) (fun _ _=>rfl)))
   (ah (uB (i:=2) ["part"] [none] eV.nd rfl (Or.inl rfl) (jo K rfl (bJ yM (pv 0) (bC (Bl wo (pv 1))) ef)) trivial (fun _ _ _ _=>(aU (i:=0) (by decide+kernel:List.Nodup (["part"]:List Str)) rfl (Or.inl rfl))) (fun _ _ _ _=>cV) (fun _ _ _ _=>(aw ih hr rfl T.Dg.mg T.Dg.fn.kp T.Dg.bd .nil aO (ae (pv 0) af))))
   (ah (uB (i:=3) ["sign"] [none] eV.nd rfl (Or.inl rfl) (jo K rfl (bJ yM (pv 0) (bC ai) (bC (Bl wo (pv 1))))) trivial (fun _ _ _ _=>(aU (i:=0) (by decide+kernel:List.Nodup (["sign"]:List Str)) rfl (Or.inl rfl))) (fun _ _ _ _=>cV) (fun _ _ _ _=>(c_ Am rfl T.z_str boot_str (ae (pv 0) af))))
   (ao (aE (aN cC (aN cC (bg [40] (by decide+kernel)) (bQ K rfl PySem.F.plainAttrs_str PySem.F.slot_str_join PySem.F.type_str_join (uR K 32 rfl) (bg [32] (by decide+kernel)) (ae (aN nG (aN nG (bL (ae (aJ (aM K rfl) (pv 0) ai (fun _ _=>rfl)) af)) (pv 3)) (pv 2)) af))) (bg [41] (by decide+kernel)))))))))),?_⟩
 obtain ⟨a,t,rfl,Bb,ht,hd,hn,q⟩:=h
 have hs:(900001:Nat)<sizeLine:=by decide
 by_cases hm:made t
 ·obtain ⟨as,ha,CT⟩:=MX hm Bb
  obtain ⟨n1,n2⟩:=MY hm
  have mi:=CT.len
  obtain ⟨u,us,JX⟩:=Cz hm
  have Ei:=vy t
  have Nl:j5 as≠[]:=fun z=>by
   have:=congrArg List.length z
   rw[eg,mi,JX]at this
   simp at this
  have ZG:y6 t= .str (S (cX t))::A9 t:=rfl
  have AY:rP (y6 t++j5 as) 0=some (.str (S (cX t))):=aH (j:=0) rfl
  refine ⟨_,rfl,a,_,_,_,rfl,rfl,bp.of ha,AY,_,_,rfl,rfl,_,rfl,bo (decide_eq_false n1) ?_⟩
  refine ⟨_,rfl,a,_,_,_,rfl,rfl,bp.of ha,AY,_,_,rfl,rfl,_,rfl,bo (decide_eq_false n2) ?_⟩
  refine ⟨_,rfl,a,_,_,_,rfl,rfl,bp.of ha,AY,ay,dZ,Sum.inr (S (cX t)),_,rfl,T.kT,rfl,Cy hm,?_⟩
  refine ⟨_,rfl,_,rfl,?_⟩
  have Q5:ka (y6 t++j5 as) (some (-((subs t).length:Int))) none=j5 as:=by
   rw[<-mi, <-eg as];exact Fo _ _ Nl
  have Nm:ka (y6 t++j5 as) (some 1) (some (-((subs t).length:Int)))=A9 t:=by
   rw[<-mi, <-eg as,ZG];exact CB _ _ _ Nl
  have WR:=tE ht hd (by omega)
  refine ⟨_,rfl,_,rfl,a,_,rfl,ha,fun p1 H1 s1 ql=>?_⟩
  rw[Q5]at ql
  replace s1:ar H H1:=s1
  have Q6:=CT.ts (bq.of s1)
  refine ⟨p1,rfl,⟨_,bp.of ql⟩,?_⟩
  refine ko (K:=K) (a:=p1) (xs:=j5 as) (fun i acc H'=>ar H1 H'/\acc=bz (((subs t).take i).map bN)) (by rw[eg];omega) (fun i acc H' h=>bp.of (h.1 _ _ ql)) ⟨ar.refl _,rfl⟩ ?_ ?_
  ·rintro i x acc H2 Nx hi hx hz ⟨s2,rfl⟩ nx
   obtain ⟨a',ZH,rfl⟩:=sV hx
   obtain ⟨v,hv,ZI⟩:=Q6.get ZH
   have WS:=List.mem_of_getElem? hv
   refine ⟨trivial,bY ?_⟩
   refine ⟨_,rfl,a',v,rfl,ZI.same s2,xq ht WS,hV hd WS,by omega,fun H3 s3=>nx _ _ (by simpa using hz) ⟨s2.trans s3,?_⟩⟩
   rw[eE, <-take_snoc hv,List.map_append]
   rfl
  rintro acc H2 P1 hz2 ⟨s2,rfl⟩ ZJ
  rw[eg,mi,List.take_length]
  have sP:=ar.upd (o:=HO.lst (bz ((subs t).map bN))) ZJ
  have WT:upd H2 P1 (HO.lst (bz ((subs t).map bN))) P1=some (HO.lst (bz ((subs t).map bN))):=ag
  have GX:=s1.trans (s2.trans sP)
  generalize upd H2 P1 (HO.lst (bz ((subs t).map bN)))=H3 at sP WT GX ⊢
  have ZK:=GX _ _ ha
  refine ⟨_,rfl,1,rfl,_,rfl,_,rfl,_,rfl,a,_,rfl,ZK,fun p2 H4 s4 wX=>?_⟩
  replace s4:ar H3 H4:=s4
  rw[Nm]at wX
  obtain ⟨l1,l2⟩:=JB hm ht
  refine ⟨p2,rfl,⟨_,bp.of wX⟩,?_⟩
  refine ko (K:=K) (a:=p2) (xs:=A9 t) (fun i acc H'=>ar H4 H'/\acc=bz ((oV t).take i)) (by omega) (fun i acc H' h=>bp.of (h.1 _ _ wX)) ⟨ar.refl _,rfl⟩ ?_ ?_
  ·rintro i x acc H5 Nx hi hx hz ⟨s5,rfl⟩ nx
   obtain ⟨l,hl,WR⟩:=JA hm ht hx
   have fin:bz ((oV t).take i)++[V.str (S l)]=bz ((oV t).take (i+1)):=by rw[eE, <-take_snoc hl]
   refine ⟨trivial,bY ?_⟩
   rcases WR with ⟨m,rfl,Q7,ZL⟩ | rfl
   ·refine ⟨_,rfl, .inl ⟨m,rfl,Q7,nx _ _ (by simpa using hz) ⟨s5,?_⟩⟩⟩
    rw[ZL];exact fin
   ·exact ⟨_,rfl, .inr ⟨l,rfl,nx _ _ (by simpa using hz) ⟨s5,fin⟩⟩⟩
  rintro acc H5 P2 hz5 ⟨s5,rfl⟩ ZM
  rw[<-l1,List.take_length]
  have sQ:=ar.upd (o:=HO.lst (bz (oV t))) ZM
  have WU:upd H5 P2 (HO.lst (bz (oV t))) P2=some (HO.lst (bz (oV t))):=ag
  have Q8:=s4.trans (s5.trans sQ)
  generalize upd H5 P2 (HO.lst (bz (oV t)))=H6 at sQ WU Q8 ⊢
  have WV:=GX.trans Q8
  have Q9:=Q8 _ _ WT
  have ZN:=WV _ _ ha
  refine ⟨rfl,_,rfl,a,_,_,_,rfl,rfl,bp.of ZN,AY,by show 1<=sizeLine;decide,fun pl Kx=>?_⟩
  have s7:=ar.upd (o:=HO.lst (bz [cX t])) Kx
  refine ⟨_,rfl,pl,P2,bz [cX t],_,rfl,rfl,ag,s7 _ _ WU,by rw[bO,bO];show 1+_<=_;omega,fun r1 ZO=>?_⟩
  rw[y9]
  have s8:=ar.upd (o:=HO.lst (bz ([cX t]++oV t))) ZO
  refine ⟨_,rfl,r1,P1,_,_,rfl,rfl,ag,s8 _ _ (s7 _ _ Q9),?_,fun r2 ZP=>?_⟩
  ·rw[bO,bO,List.length_append,List.length_map];show 1+_+_<=_;omega
  rw[y9]
  have s9:=ar.upd (o:=HO.lst (bz ([cX t]++oV t++(subs t).map bN))) ZP
  have hjl:=CC hm ht hd (by omega)
  refine ⟨r2,[cX t]++oV t++(subs t).map bN,rfl,rfl,bt.of ag,?_,?_⟩
  ·have hb:=y8 (b:=614400) (ps:=[cX t]++oV t++(subs t).map bN) fun l hl=>by
    rcases List.mem_append.mp hl with g | g
    ·rcases List.mem_append.mp g with g | g
     ·rw[List.mem_singleton.mp g]
      have:=vx hm
      simp only[kinds,List.mem_cons,List.not_mem_nil,or_false]at this
      rcases this with e | e | e | e<;>rw[e]<;>decide
     ·rcases tG hm ht with ⟨e1,_⟩ | ⟨k,_,e1,_⟩ | ⟨c,e1,_⟩
      ·rw[e1]at g;cases g
      ·rw[e1]at g;rw[List.mem_singleton.mp g];show 1<=_;decide
      ·rw[e1]at g;rw[List.mem_singleton.mp g];show 1<=_;decide
    ·obtain ⟨v,hv,rfl⟩:=List.mem_map.mp g
     exact tE (xq ht hv) (hV hd hv) (by omega)
   have FF:([cX t]++oV t++(subs t).map bN).length<=4:=by
    rw[List.length_append,List.length_append,List.length_map]
    show 1+_+_<=4
    omega
   omega
  refine ⟨_,_,rfl,rfl,by simp only[List.length_cons,List.length_nil];omega,_,_,rfl,rfl,by simp only[List.length_append,List.length_cons,List.length_nil];omega,?_⟩
  rw[CA hm]
  exact q _ (WV.trans (s7.trans (s8.trans s9)))
 ·cases t with
  | walk w=>
   have hw:=ht.2
   refine ⟨_,rfl,a,_,_,_,rfl,rfl,bp.of Bb,aH (j:=0) rfl,_,_,rfl,rfl,_,rfl,eP (decide_eq_true rfl) ?_⟩
   refine ⟨_,rfl,a,_,_,_,rfl,rfl,bp.of Bb,aH (j:=1) rfl,_,_,rfl,rfl,by simp only[List.length_cons,List.length_nil];omega,_,_,rfl,rfl,by simp only[List.length_append,List.length_cons,List.length_nil];omega,?_⟩
   exact q _ (ar.refl _)
  | name s=>
   refine ⟨_,rfl,a,_,_,_,rfl,rfl,bp.of Bb,aH (j:=0) rfl,_,_,rfl,rfl,_,rfl,bo (decide_eq_false (by decide)) ?_⟩
   refine ⟨_,rfl,a,_,_,_,rfl,rfl,bp.of Bb,aH (j:=0) rfl,_,_,rfl,rfl,_,rfl,eP (decide_eq_true rfl) ?_⟩
   exact ⟨_,rfl,a,_,_,_,rfl,rfl,bp.of Bb,aH (j:=1) rfl,q _ (ar.refl _)⟩
  | back t=>exact absurd trivial hm
  | again k t=>exact absurd trivial hm
  | aS a b=>exact absurd trivial hm
  | fr c a b=>exact absurd trivial hm
theorem la (T:Txt P w K mg f0 f1 f2 f3 f4 f5 f6 f7 f8 f9 eR fF eS fG fH fI fJ fK fL fM fN eN fO fP fQ fR fS fT fU eU fV fW fX fZ aq ak ax ay aG d0 d1 d2 d3 d4 d5 d6 d7 d8 d9 gi gF gj gG gH gI gJ gK gL gM gN f_ gO gP gQ gR gS gT gU gk gW gX gY gZ aB): ∀n,bE P w K mg base eK (1+n) eS gj ["term"] (dF K n)
 | 0=>i8 fun vs H Q E h=>qc h
 | n+1=>pE T n (la T n)
theorem mV (T:Txt P w K mg f0 f1 f2 f3 f4 f5 f6 f7 f8 f9 eR fF eS fG fH fI fJ fK fL fM fN eN fO fP fQ fR fS fT fU eU fV fW fX fZ aq ak ax ay aG d0 d1 d2 d3 d4 d5 d6 d7 d8 d9 gi gF gj gG gH gI gJ gK gL gM gN f_ gO gP gQ gR gS gT gU gk gW gX gY gZ aB):bE P w K mg base eK 10 fG gG ["program"] (iN K):=by
 have vX:=la (P:=P) (w:=w) (base:=base) T
 refine T.JG.fn.ok mS (fun vs H Q E h=>lS h) (fun cN A outer s H vs Q E hr h=>?_)
 refine ⟨_,(ao (aE (bQ K rfl PySem.F.plainAttrs_str PySem.F.slot_str_join PySem.F.type_str_join (uR K 10 rfl) (bg [10] (by decide+kernel)) (ae (bW ["row"] [none] (jo K rfl (pv 0)) trivial (fun _ _ _ _=>(aU (i:=0) (by decide+kernel:List.Nodup (["row"]:List Str)) rfl (Or.inl rfl))) (fun _ _ _ _=>cV) (fun _ _ _ _=>(aN cC (aN cC (aJ (aM K rfl) (pv 0) ai (fun _ _=>rfl)) (km [32,61,32] rfl T.g_IS)) (aw (vX 8) (hr.mono (by decide)) rfl T.Dg.mg T.Dg.fn.kp T.Dg.bd .nil aO (ae (aJ (aM K rfl) (pv 0) ai (fun _ _=>rfl)) af))))) af)))),?_⟩
 obtain ⟨p,ks,rfl,hp,q⟩:=h
 have hs:(900001:Nat)<sizeLine:=by decide
 have QW:=hp.fw
 refine ⟨rfl,_,rfl,p,rfl,⟨_,bp.of hp.tp⟩,?_⟩
 refine ko (K:=K) (a:=p) (xs:=jN ks) (fun i acc H'=>ar H H'/\acc=bz ((jW (ks.take i)).map fB)) (by rw[dD];omega) (fun i acc H' h=>bp.of (h.1 _ _ hp.tp)) ⟨ar.refl _,rfl⟩ ?_ ?_
 ·rintro i x acc H1 Nx hi hx mi ⟨s1,rfl⟩ nx
  obtain ⟨k,hk,rfl⟩:=ng hx
  have Bc:=(hp.rw k (List.mem_of_getElem? hk)).ts (bq.of s1)
  have hsz:=Bc.nf.sz
  have hl:=tE Bc.tf Bc.dp (by decide)
  refine ⟨trivial,bY ?_⟩
  refine ⟨_,rfl,k.r,_,_,_,rfl,rfl,bp.of Bc.tp,aH (j:=0) rfl,_,_,rfl,rfl,by simp only[List.length_cons,List.length_nil];omega,?_⟩
  refine ⟨_,rfl,k.r,_,_,_,rfl,rfl,bp.of Bc.tp,aH (j:=1) rfl,k.a,k.t,rfl,Bc.tm,Bc.tf,by have:=Bc.dp;omega,by decide,fun H2 s2=>?_⟩
  refine ⟨_,_,rfl,rfl,by simp only[List.length_append,List.length_cons,List.length_nil];omega,nx _ _ (by simpa using mi) ⟨s1.trans s2,?_⟩⟩
  rw[eE, <-take_snoc hk,y7,List.map_append]
  rfl
 rintro acc H1 D mi ⟨s1,rfl⟩ nD
 rw[dD,List.take_length]
 refine ⟨D,(jW ks).map fB,rfl,rfl,bt.of ag,?_,?_⟩
 ·have:=y8 (b:=76800) (ps:=(jW ks).map fB) fun l hl=>by
   obtain ⟨r,hr,rfl⟩:=List.mem_map.mp hl
   obtain ⟨k,hk,rfl⟩:=List.mem_map.mp hr
   exact vB (hp.rw k hk).nf (hp.rw k hk).tf (hp.rw k hk).dp
  have e:((jW ks).map fB).length=ks.length:=by unfold jW;rw[List.length_map,List.length_map]
  rw[e]at this ⊢
  omega
 exact q _ (s1.trans (ar.upd nD))
theorem JY (T:Txt P w K mg f0 f1 f2 f3 f4 f5 f6 f7 f8 f9 eR fF eS fG fH fI fJ fK fL fM fN eN fO fP fQ fR fS fT fU eU fV fW fX fZ aq ak ax ay aG d0 d1 d2 d3 d4 d5 d6 d7 d8 d9 gi gF gj gG gH gI gJ gK gL gM gN f_ gO gP gQ gR gS gT gU gk gW gX gY gZ aB):bE P w K mg base eK 31 fZ gZ ["_law_script"] (lB K):=by
 have JZ:=FC (P:=P) (w:=w) (base:=base) T
 have xF:=vN (P:=P) (w:=w) (base:=base) T
 have zm:=CP (P:=P) (w:=w) (base:=base) T
 have aW:=gf (P:=P) (w:=w) (base:=base) T
 have zo:=CS (P:=P) (w:=w) (base:=base) T
 have pq:=rC (P:=P) (w:=w) (base:=base) T
 have pF:=mT (P:=P) (w:=w) (base:=base) T
 have pG:=mU (P:=P) (w:=w) (base:=base) T
 have pI:=mV (P:=P) (w:=w) (base:=base) T
 have jh:=kZ (P:=P) (w:=w) (base:=base) T
 refine T.OH.fn.ok dH (fun vs H Q E h=>E6 h) (fun cN A outer s H vs Q E hr h=>?_)
 refine ⟨_,(ah (iy PassesOwn.never rfl (cZ rfl T.z_range (ae (aV (zE rfl) rfl T.z_max boot_max (ae ai (ae (aV (zF rfl) rfl T.z_min boot_min (ae ai (ae (aV (bD K rfl) rfl T.z_len PySem.boot_len (ae (pv 0) af)) af))) af))) af)) (aU (i:=1) dH.nd rfl (Or.inl rfl)) (ah (aF (i:=2) dH.nd rfl (Or.inl rfl) (aw JZ (hr.mono (by decide)) rfl T.JP.mg T.JP.fn.kp T.JP.bd .nil aO (ae (pv 0) (ae (pv 1) af))))
   (ah (aF (i:=3) dH.nd rfl (Or.inl rfl) (aw xF (hr.mono (by decide)) rfl T.JS.mg T.JS.fn.kp T.JS.bd .nil aO (ae (pv 2) (ae ai (ae ai af)))))
   (ah (aF (i:=4) dH.nd rfl (Or.inr rfl) (bW ["_law_name","_law_term_here"] [none,none] (jo K rfl (pv 3)) trivial (fun _ _ _ _=>(m6 (n:=2) K rfl rfl (cF (aU (i:=0) (by decide+kernel:List.Nodup (["_law_name","_law_term_here"]:List Str)) rfl (Or.inl rfl)) (cF (aU (i:=1) (by decide+kernel:List.Nodup (["_law_name","_law_term_here"]:List Str)) rfl (Or.inl rfl)) j7)))) (fun _ _ _ _=>cV) (fun _ _ _ _=>(pv 0))))
   (ah (aF (i:=5) dH.nd rfl (Or.inl rfl) (aw zm (hr.mono (by decide)) rfl T.Dk.mg T.Dk.fn.kp T.Dk.bd .nil aO (ae (pv 3) af)))
   (ah (aF (i:=6) dH.nd rfl (Or.inl rfl) (c_ (wO rfl) rfl T.z_list boot_list (ae (bg [97,98,99,100,101,102,103,104,105,106,107,108,109,110,111,112,113,114,115,116,117,118,119,120,121,122] (by decide+kernel)) af)))
   (se (aX (PW.pt (lh (fc (aV (iB K rfl) rfl T.z_isinstance boot_isinstance (ae (pv 5) (ae (mX (v:= .ty "list") rfl T.z_list boot_list rfl) af)))) (jm (az qy (aw aW (hr.mono (by decide)) rfl T.cf.mg T.cf.fn.kp T.cf.bd .nil aO (ae (pv 2) (ae ai af))) ai (aL _))))) (ao (aF (i:=6) dH.nd rfl (Or.inl rfl) (aN nG (aV (p9 rfl) rfl T.z_sorted boot_sorted (ae (gr K rfl PySem.F.plainAttrs_str PySem.F.slot_str_lower PySem.F.type_str_lower Av (bQ K rfl PySem.F.plainAttrs_str PySem.F.slot_str_join PySem.F.type_str_join (ei K rfl) (bg [] (by decide+kernel)) (ae (pv 5) af))) af)) (bL (ae (bg [120] (by decide+kernel)) af))))) aI)
   (ah (aF (i:=7) dH.nd rfl (Or.inl rfl) (aJ (ba K rfl) (pv 6) (aw aW (hr.mono (by decide)) rfl T.cf.mg T.cf.fn.kp T.cf.bd .nil aO (ae (pv 2) (ae (aV (bD K rfl) rfl T.z_len PySem.boot_len (ae (pv 6) af)) af))) (fun _ _=>rfl)))
   (ah (aF (i:=8) dH.nd rfl (Or.inl rfl) (aN nG (aw zo (hr.mono (by decide)) rfl T.Dl.mg T.Dl.fn.kp T.Dl.bd .nil aO (ae (pv 2) (ae (pv 4) (ae (pv 7) af)))) (aw zo (hr.mono (by decide)) rfl T.Dl.mg T.Dl.fn.kp T.Dl.bd .nil aO (ae (pv 2) (ae (pv 4) (ae (pv 7) af))))))
   (ah (aF (i:=9) dH.nd rfl (Or.inl rfl) (bJ (kl K rfl) (bW ["_law_name","_law_known"] [none,some 4] (i3 K rfl (aw pq (hr.mono (by decide)) rfl T.Dj.mg T.Dj.fn.kp T.Dj.bd .nil aO (ae (pv 2) (ae ai af)))) ⟨⟨rfl,rfl,by first | exact .inl rfl | exact .inr rfl⟩,trivial⟩ (fun _ _ _ _=>(aU (i:=0) (by decide+kernel:List.Nodup (["_law_name","_law_known"]:List Str)) rfl (Or.inl rfl))) (fun _ _ _ _=>(Bx (az (D3 K rfl) (pv 0) (pv 1) (by with_unfolding_all rfl)))) (fun _ _ _ _=>(pv 0))) ef (bC ai)))
   (ah (aF (i:=10) dH.nd rfl (Or.inl rfl) (aN (BM K rfl) (pv 3) (Ap K rfl rfl rfl T.z_tuple rfl T.z_zip (ae (pv 9) (ae (pv 8) af)))))
   (se (aX (PW.pt (gn (az D5 (aw pF (hr.mono (by decide)) rfl T.F7.mg T.F7.fn.kp T.F7.bd .nil aO (ae (pv 10) af)) lY (aL _)) (gA (az (nY K rfl hr) (aw pG (hr.mono (by decide)) rfl T.JO.mg T.JO.fn.kp T.JO.bd .nil aO (ae (aw pI (hr.mono (by decide)) rfl T.JG.mg T.JG.fn.kp T.JG.bd .nil aO (ae (pv 10) af)) af)) (pv 10) (aL _))))) (ao (aE lY)) aI)
   (ah (aF (i:=11) dH.nd rfl (Or.inl rfl) (aw zm (hr.mono (by decide)) rfl T.Dk.mg T.Dk.fn.kp T.Dk.bd .nil aO (ae (pv 10) af)))
   (ao (aX (fc (aV (iB K rfl) rfl T.z_isinstance boot_isinstance (ae (pv 11) (ae (mX (v:= .ty "list") rfl T.z_list boot_list rfl) af)))) (ah (aF (i:=12) dH.nd rfl (Or.inl rfl) (bJ (kl K rfl) (pv 11) (bC (aV (bD K rfl) rfl T.z_len PySem.boot_len (ae (pv 3) af))) ef))
   (se (aX (PW.pt (gn (az (nY K rfl hr) (bJ (kl K rfl) (pv 11) ef (bC (aV (bD K rfl) rfl T.z_len PySem.boot_len (ae (pv 3) af)))) (pv 5) (aL _)) (gn (az nX (aJ (ba K rfl) (pv 12) ai (fun _ _=>rfl)) (aJ (ba K rfl) (pv 12) ai (fun _ _=>rfl)) (aL _)) (gA (az nX (aJ (ba K rfl) (pv 12) ai (fun _ _=>rfl)) (aJ (ba K rfl) (pv 12) ai (fun _ _=>rfl)) (aL _)))))) (ao (aE lY)) aI)
   (ao (aX (az (nY K rfl hr) (bW ["_law_word"] [none] (i3 K rfl (pv 11)) trivial (fun _ _ _ _=>(aU (i:=0) (by decide+kernel:List.Nodup (["_law_word"]:List Str)) rfl (Or.inl rfl))) (fun _ _ _ _=>(Bx (az nX (aw jh (hr.mono (by decide)) rfl T.F4.mg T.F4.fn.kp T.F4.bd .nil aO (ae (pv 0) af)) (pv 0) (aL _)))) (fun _ _ _ _=>(pv 0))) (bL af) (aL _)) (ao (aE lY)) aI)))) (ao (aX (PW.pt (gn (az jS (pv 11) cE (aL _)) (gn (az nX (aJ (aM K rfl) (pv 11) ai (fun _ _=>rfl)) (bg [108,111,110,103] (by decide+kernel)) (aL _)) (gA (PW.pt (lh (fc (aV (vc K rfl) rfl T.z_isinstance boot_isinstance (ae (pv 5) (ae (mX (v:= .ty "tuple") rfl T.z_tuple boot_tuple rfl) af)))) (jm (az (nY K rfl hr) (pv 11) (pv 5) (aL _))))))))) (ao (aE lY)) aI)))))))))))))))))
   (ao (aE lY))),?_⟩
 obtain ⟨a,ns,rfl,hS,hl,q⟩:=h
 have hs:(900001:Nat)<sizeLine:=by decide
 refine ⟨_,rfl,a,_,rfl, .inl hS,?_⟩
 refine ⟨_,_,rfl,_,_,rfl,?_⟩
 have mm: ∀L:Int,0<=L-> ∃m:Nat,(if (if L<8 then L else 8)>3 then (if L<8 then L else 8) else 3)=(m:Int)/\m<=8:=fun L h0=>by
  by_cases c1:L<8
  ·rw[if_pos c1]
   by_cases c2:L>3
   ·rw[if_pos c2];exact ⟨L.toNat,by omega,by omega⟩
   ·rw[if_neg c2];exact ⟨3,rfl,by decide⟩
  ·rw[if_neg c1,if_pos (by decide)];exact ⟨8,rfl,by decide⟩
 obtain ⟨M,hM,hM2⟩:=mm ((ns.map V.int).length:Int) (by omega)
 rw[hM]
 refine ⟨_,rfl,by omega,by omega,?_⟩
 refine qx (fun i σ H'=>ar H H'/\ ∃o1 o2 o3 o4 o5 o6 o7 o8 o9 G0 G3 FN:Option V,σ=[some (.ref a),o1,o2,o3,o4,o5,o6,o7,o8,o9,G0,G3,FN]) ⟨ar.refl _,none,none,none,none,none,none,none,none,none,none,none,none,rfl⟩ ?_ ?_
 ·rintro i σ H1 hi ⟨s1,o1,o2,o3,o4,o5,o6,o7,o8,o9,G0,G3,FN,rfl⟩
  refine ⟨_,rfl,_,rfl,a,ns,i,by rw[Int.zero_add];rfl,s1.seq hS,by omega,fun b H2 nb bx s2=>?_⟩
  refine ⟨_,rfl,b,rfl,bx,fun p ks H3 G4 WW ub EO WX s3=>?_⟩
  refine ⟨_,rfl,p,rfl,⟨_,bp.of G4.at_.tp⟩,?_⟩
  refine ko (K:=K) (a:=p) (xs:=jN ks) (fun j acc H'=>ar H3 H'/\acc=bz (cA (ks.take j))) (by rw[dD];omega) (fun j acc H' h=>bp.of (h.1 _ _ G4.at_.tp)) ⟨ar.refl _,rfl⟩ ?_ ?_
  ·rintro j x acc H4 Nx hj hx mi ⟨s4,rfl⟩ nx
   obtain ⟨k,hk,rfl⟩:=ng hx
   have FJ:=(G4.at_.rw k (List.mem_of_getElem? hk)).ts (bq.of s4)
   refine ⟨k.r,_,rfl,bp.of FJ.tp,rfl,_,_,rfl,_,_,rfl,rfl,⟨trivial,bY ?_⟩⟩
   refine ⟨_,rfl,nx _ _ (by simpa using mi) ⟨s4,?_⟩⟩
   rw[<-take_snoc hk]
   unfold cA bz
   rw[List.map_append,List.map_append]
   rfl
  rintro acc H4 D mi ⟨s4,rfl⟩ nD
  rw[dD,List.take_length]
  have sD:=ar.upd (o:=HO.lst (bz (cA ks))) nD
  have hD:upd H4 D (HO.lst (bz (cA ks))) D=some (HO.lst (bz (cA ks))):=ag
  have OQ:=s4.trans sD
  have EA:D≠b:=(WX.same s4).ne nD
  generalize upd H4 D (HO.lst (bz (cA ks)))=H5 at sD hD OQ ⊢
  have WY:=WX.same OQ
  have FO:=G4.ts (bq.of OQ)
  refine Jz (P:=fun fq H6=>ar H5 H6/\AO H6 fq (lR ks)) (fun key=>⟨_,rfl,p,ks,rfl,FO,fun kvs e q H6 nq hq s6=>key q H6 ⟨s6, .inl ⟨kvs,e,hq⟩⟩,fun nm e q H6 hq s6=>key q H6 ⟨s6, .inr ⟨nm,e,hq⟩⟩⟩) ?_
  rintro fq H6 ⟨s6,Q_⟩
  refine ⟨aj,rfl,by decide,fun lp WZ=>?_⟩
  have s7:=ar.upd (o:=HO.lst (cI aj)) WZ
  have Ra:upd H6 lp (HO.lst (cI aj)) lp=some (HO.lst (cI aj)):=ag
  have Rb:lp≠b:=(WY.same s6).ne WZ
  have CU:=s6.trans s7
  have CV:=Q_.same s7
  generalize upd H6 lp (HO.lst (cI aj))=H7 at s7 Ra CU CV ⊢
  have Nn:=WY.same CU
  have OR:fq≠b:=M0 CV Nn
  have ZQ:Wm H7 lp:=⟨aj,Ra,by decide,by decide,fun c hc=>hc⟩
  refine ⟨fun σ' H'=> ∃lq,σ'=[some (.ref a),some (.int (0+i)),some (.ref b),some (.ref p),some (.ref D),some (.ref fq),some (.ref lq),o7,o8,o9,G0,G3,FN]/\Wm H' lq/\lq≠b/\bw H' b/\aD b H7 H',?_,?_⟩
  ·rcases id CV with ⟨kvs,er,Kz⟩ | ⟨nm,er,Kz⟩
   ·refine ⟨_,rfl,_,rfl, .inl ⟨fq,_,rfl,Kz,_,rfl,eP rfl ?_⟩⟩
    refine ⟨_,rfl,b,3,rfl,Nn,by omega,by omega,fun r H8 hr Np s8=>⟨_,_,rfl,rfl,_,rfl,cj (fun _=>?_) (fun _=>?_)⟩⟩
    ·obtain ⟨Rc,l0,ZR,ZU⟩:=nj QJ (tJ G4) er
     have wb:kvs.length<=3:=by
      have:=congrArg List.length ZU
      rw[List.length_map,List.length_map]at this
      have e2:(lR ks).length=ks.length:=by unfold lR;rw[List.length_map]
      have e3:kvs=l0:=by simpa using ZR
      rw[e3];omega
     have ZV:=GO Rc
     have Mq:=vG (kvs.map (·.2))
     have Rf:=s8 _ _ Kz OR
     refine ⟨rfl,_,rfl,fq,List.map (fun x:List Nat×List Nat=>x.2) kvs,rfl,rfl,bt.of Rf,by omega,?_⟩
     refine ⟨rfl,_,rfl,rfl,fun c hc=>(ze Rc c hc).lt,by omega,?_⟩
     refine ⟨_,rfl,by rw[List.length_map];omega,fun sq l' ZW yS=>?_⟩
     have t1:=ar.upd (o:=HO.lst (cI l')) ZW
     refine ⟨by show 1<=sizeLine;decide,fun xp ZX=>?_⟩
     have t2:=ar.upd (o:=HO.lst [V.str (S [120])]) ZX
     have FF:l'.length<=180:=by rw[yS.length_eq,List.length_map];omega
     refine ⟨sq,xp,_,_,rfl,rfl,t2 _ _ ag,ag,by rw[bV];show l'.length+1<=sizeLine;omega,fun lq W0=>?_⟩
     have t3:=ar.upd (o:=HO.lst (cI l'++[V.str (S [120])])) W0
     have W2:=(t1.trans t2).trans t3
     refine ⟨lq,rfl,⟨l'++[120],by rw[ag];unfold cI;rw[List.map_append];rfl,by simp,by simp;omega,fun c hc=>?_⟩,((Np.same t1).same t2).ne W0,Np.same W2,s8.trans (aD.of W2)⟩
     rcases List.mem_append.mp hc with z | z
     ·obtain ⟨d,hd,rfl⟩:=List.mem_map.mp (yS.mem_iff.mp z)
      exact AQ d (ze Rc d hd).iC
     ·rw[List.mem_singleton.mp z];decide
    ·exact ⟨lp,rfl,⟨aj,s8 _ _ Ra Rb,by decide,by decide,fun c hc=>hc⟩,Rb,Np,s8⟩
   ·refine ⟨_,rfl,_,rfl, .inr (.inl ⟨fq,_,rfl,Kz,_,rfl,wK ?_⟩)⟩
    exact ⟨lp,rfl,ZQ,Rb,Nn,aD.refl _ _⟩
  ·rintro σ' H8 ⟨lq,rfl,⟨L,hL,Rg,hLl,ZY⟩,ZZ,Np,Z0⟩
   refine ⟨_,rfl,_,rfl,_,rfl,lq,_,rfl, .inl (bt.of hL),?_⟩
   rw[bV]
   have hLp:=List.length_pos_iff.mpr Rg
   refine ⟨b,(L.length:Nat),rfl,Np,by omega,by omega,fun r9 H9 hr9 Z1 s9=>?_⟩
   have Nq:r9<L.length:=by omega
   refine ⟨lq,_,_,_,rfl,rfl,bt.of (s9 _ _ hL ZZ),aH (Ju Nq),?_⟩
   have hc:L[r9]∈aj:=ZY _ (List.getElem_mem Nq)
   generalize L[r9]=c at hc ⊢
   have W3:=Z0.trans s9
   have W4:=W3 _ _ (CU _ _ hD) EA
   have Ac:(cA ks).length=ks.length:=by unfold cA;rw[List.length_map]
   refine ⟨_,rfl,_,rfl,_,rfl,b,D,cA ks,c,rfl,Z1,EA,W4,by omega,by omega,hc,fun q1 a1 a2 t1 t2 H10 Q0 Z2 Z3 OK ql J0 W5=>?_⟩
   have Nr:=W5 _ _ W4 EA
   refine ⟨_,rfl,_,rfl,_,rfl,b,D,cA ks,c,rfl,J0,EA,Nr,by omega,by omega,hc,fun q2 a3 a4 t3 t4 Rh Z4 q2b Z5 Z6 wX Nt Nu=>?_⟩
   have Ri:=Nu _ _ Nr EA
   have Rj:=Z3.ts (Nu.Ck J0)
   have Rk:=OK.ts (Nu.Ck J0)
   refine ⟨q1,q2,_,_,rfl,rfl,Nu _ _ Q0 Z2,Z4,by show 4<=sizeLine;decide,fun tp W6=>?_⟩
   have Dq:=ar.upd (o:=HO.lst [V.ref a1,V.ref a2,V.ref a3,V.ref a4]) W6
   have Ov:upd Rh tp (HO.lst [V.ref a1,V.ref a2,V.ref a3,V.ref a4]) tp=some (HO.lst [V.ref a1,V.ref a2,V.ref a3,V.ref a4]):=ag
   have Z7:tp≠b:=Nt.ne W6
   have Rl:aD b H7 _:=((W3.trans W5).trans Nu).trans (aD.of Dq)
   have u1:=Rj.same Dq
   have u2:=Rk.same Dq
   have u3:=Z5.same Dq
   have u4:=Z6.same Dq
   have Nv:=Nt.same Dq
   have Rm:=Dq _ _ Ri
   change Dw _ _ _ [some (.ref a),some (.int (0+i)),some (.ref b),some (.ref p),some (.ref D),some (.ref fq),some (.ref lq),some (.str (S [c])),some (.ref tp),o9,G0,G3,FN] (upd Rh tp (HO.lst [V.ref a1,V.ref a2,V.ref a3,V.ref a4]))
   generalize upd Rh tp (HO.lst [V.ref a1,V.ref a2,V.ref a3,V.ref a4])=W7 at*
   refine ⟨_,rfl,b,7,rfl,Nv,by omega,fun nq KA Z8 nnq nqb W8 Z9 Rn Nw Z_ GW=>?_⟩
   refine ⟨nq,rfl,⟨_,bt.of W8⟩,?_⟩
   have Ro:=GW _ _ Rm EA
   refine lE (K:=K) (a:=nq) (xs:=bz KA) (fun j acc H'=>ar Z8 H'/\acc=bz ((KA.take j).filter fun s=>decide (s∉cA ks))) (by rw[bO];omega) (fun j acc H' h=>bt.of (h.1 _ _ W8)) ⟨ar.refl _,rfl⟩ ?_ ?_
   ·rintro j x acc OS Nx hj hx mi ⟨Ny,rfl⟩ nx
    obtain ⟨s,Nh,rfl⟩:=kC hx
    refine ⟨⟨rfl,trivial⟩,?_⟩
    refine ⟨_,rfl,_,rfl,D,_,rfl, .inl (bt.of (Ny _ _ Ro)),rfl,ft _,_,rfl,?_⟩
    rw[if_pos rfl,dE]
    refine cj (fun g0=>?_) (fun g0=>?_)
    ·have g:s∉cA ks:=by simpa using g0
     refine ⟨_,rfl,nx _ _ (by simpa using mi) ⟨Ny,?_⟩⟩
     rw[rq Nh,if_pos (by simp[g])]
     unfold bz
     rw[List.map_append]
     rfl
    ·have g:s∈cA ks:=by simpa using g0
     refine nx _ _ (Nat.le_succ_of_le mi) ⟨Ny,?_⟩
     rw[rq Nh,if_neg (by simp[g]),List.append_nil]
   rintro acc OS E mi ⟨Ny,rfl⟩ nE
   rw[bO,List.take_length]
   have Mq:=CI (K:=cA ks) Nw
   have hFn: ∀s∈KA.filter (fun s=>decide (s∉cA ks)),pN s/\s∉cA ks:=fun s iS=>⟨Rn s (List.mem_filter.mp iS).1,of_decide_eq_true (List.mem_filter.mp iS).2⟩
   have hFd:(KA.filter (fun s=>decide (s∉cA ks))).Nodup:=Nw.filter _
   have hF4:4<=(KA.filter (fun s=>decide (s∉cA ks))).length:=by omega
   generalize KA.filter (fun s=>decide (s∉cA ks))=F at*
   refine ⟨4,rfl,E,_,rfl,bt.of ag,fun np nnp=>?_⟩
   have hcv:ka (bz F) none (some 4)=bz (F.take 4):=s_ F 4
   rw[hcv]
   obtain ⟨n1,n2,n3,n4,eF⟩: ∃n1 n2 n3 n4,F.take 4=[n1,n2,n3,n4]:=by
    match F,hF4 with
    | n1::n2::n3::n4::r,_=>exact ⟨n1,n2,n3,n4,rfl⟩
   have FP: ∀s∈[n1,n2,n3,n4],pN s/\s∉cA ks:=fun s iS=>hFn s (List.mem_of_mem_take (by rw[eF];exact iS))
   have hNd:([n1,n2,n3,n4]:List (List Nat)).Nodup:=by rw[<-eF];exact hFd.sublist (List.take_sublist _ _)
   rw[eF]
   have Ql:=(ar.upd (o:=HO.lst (bz F)) nE).trans (ar.upd (o:=HO.lst (bz [n1,n2,n3,n4])) nnp)
   have hnp:upd (upd OS E (HO.lst (bz F))) np (HO.lst (bz [n1,n2,n3,n4])) np=some (HO.lst (bz [n1,n2,n3,n4])):=ag
   change Dw _ _ _ [some (.ref a),some (.int (0+i)),some (.ref b),some (.ref p),some (.ref D),some (.ref fq),some (.ref lq),some (.str (S [c])),some (.ref tp),some (.ref np),G0,G3,FN] (upd (upd OS E (HO.lst (bz F))) np (HO.lst (bz [n1,n2,n3,n4])))
   have CW:=Ny.trans Ql
   generalize upd (upd OS E (HO.lst (bz F))) np (HO.lst (bz [n1,n2,n3,n4]))=Nz at*
   have NA:aD b H7 Nz:=(Rl.trans GW).trans (aD.of CW)
   have NB:=CW _ _ (GW _ _ Ov Z7)
   have J1:bq W7 Nz:=(GW.trans (aD.of CW)).Ck Nv
   have G5:bq H7 Nz:=NA.Ck Nn
   have Rp:=G5 _ _ (CU _ _ FO.at_.tp)
   refine ⟨_,rfl,_,rfl,_,rfl,np,tp,_,_,rfl,bt.of hnp,bt.of NB,rfl,by show 4<=1000;decide,fun zp Ts J2 W9 nz hzp hTl Ge=>?_⟩
   obtain ⟨T0,T1,T2,T3,rfl⟩: ∃T0 T1 T2 T3,Ts=[T0,T1,T2,T3]:=by
    match Ts,hTl with
    | [T0,T1,T2,T3],_=>exact ⟨T0,T1,T2,T3,rfl⟩
   have r0:J2 T0=some (.tup [.str (S n1), .ref a1]):=by obtain ⟨T,e1,e2⟩:=Ge 0 _ _ rfl rfl;cases e1;exact e2
   have r1:J2 T1=some (.tup [.str (S n2), .ref a2]):=by obtain ⟨T,e1,e2⟩:=Ge 1 _ _ rfl rfl;cases e1;exact e2
   have r2:J2 T2=some (.tup [.str (S n3), .ref a3]):=by obtain ⟨T,e1,e2⟩:=Ge 2 _ _ rfl rfl;cases e1;exact e2
   have r3:J2 T3=some (.tup [.str (S n4), .ref a4]):=by obtain ⟨T,e1,e2⟩:=Ge 3 _ _ rfl rfl;cases e1;exact e2
   have Rq:ks≠[]:=fun z=>by rw[z]at ub;cases ub
   refine ⟨p,zp,_,_,rfl,rfl,bp.of (W9 _ _ Rp),bp.of hzp,fun z=>Rq (by unfold jN at z;exact List.map_eq_nil_iff.mp z),by rw[dD];show ks.length+4<=sizeLine;omega,(fun z=>(by cases z)),fun _ mp nmp=>?_⟩
   have eKS:jN ks++[T0,T1,T2,T3].map V.ref=jN (ks++[⟨T0,a1,n1,t1⟩,⟨T1,a2,n2,t2⟩,⟨T2,a3,n3,t3⟩,⟨T3,a4,n4,t4⟩]):=by rw[Fx];rfl
   rw[eKS]
   have eRT:lR (ks++[⟨T0,a1,n1,t1⟩,⟨T1,a2,n2,t2⟩,⟨T2,a3,n3,t3⟩,⟨T3,a4,n4,t4⟩])=lR ks++[(n1,t1),(n2,t2),(n3,t3),(n4,t4)]:=by rw[Fw];rfl
   have su:=ar.upd (o:=HO.tup (jN (ks++[⟨T0,a1,n1,t1⟩,⟨T1,a2,n2,t2⟩,⟨T2,a3,n3,t3⟩,⟨T3,a4,n4,t4⟩]))) nmp
   have CY:ar Nz _:=(show ar Nz J2 from W9).trans su
   have hmp:upd J2 mp (HO.tup (jN (ks++[⟨T0,a1,n1,t1⟩,⟨T1,a2,n2,t2⟩,⟨T2,a3,n3,t3⟩,⟨T3,a4,n4,t4⟩]))) mp=some (HO.tup (jN (ks++[⟨T0,a1,n1,t1⟩,⟨T1,a2,n2,t2⟩,⟨T2,a3,n3,t3⟩,⟨T3,a4,n4,t4⟩]))):=ag
   have q0:=su _ _ r0
   have q1':=su _ _ r1
   have q2':=su _ _ r2
   have q3:=su _ _ r3
   generalize hKS:upd J2 mp (HO.tup (jN (ks++[⟨T0,a1,n1,t1⟩,⟨T1,a2,n2,t2⟩,⟨T2,a3,n3,t3⟩,⟨T3,a4,n4,t4⟩])))=J3 at*
   have tZ:bq W7 J3:=fun c xs e=>CY _ _ (J1 c xs e)
   have NC:bq H7 J3:=fun c xs e=>CY _ _ (G5 c xs e)
   have v1:=u1.ts tZ
   have v2:=u2.ts tZ
   have v3:=u3.ts tZ
   have v4:=u4.ts tZ
   obtain ⟨o1',o2',d1,d2,m1,m2⟩:=ql.ok hc
   obtain ⟨o3',o4',d3,d4,m3,m4⟩:=wX.ok hc
   have OT: ∀s∈cA ks,pN s:=fun s iS=>by
    unfold cA at iS
    obtain ⟨k,hk,rfl⟩:=List.mem_map.mp iS
    exact WW k hk
   have OU:kH J3 mp (ks++[⟨T0,a1,n1,t1⟩,⟨T1,a2,n2,t2⟩,⟨T2,a3,n3,t3⟩,⟨T3,a4,n4,t4⟩]):=by
    refine Fy (FO.ts (bq.of CU)) NC hmp (fun k hk=>?_) hNd (fun s iS=>(FP s iS).2) (by simp;omega)
    simp only[List.mem_cons,List.not_mem_nil,or_false]at hk
    rcases hk with rfl | rfl | rfl | rfl
    ·exact ⟨⟨q0,v1,by show dep t1<=7;omega,(FP n1 (by simp)).1.kD,fun s iS=>(OT s (m1 s iS)).kD⟩,o1',m1⟩
    ·exact ⟨⟨q1',v2,by show dep t2<=7;omega,(FP n2 (by simp)).1.kD,fun s iS=>(OT s (m2 s iS)).kD⟩,o2',m2⟩
    ·exact ⟨⟨q2',v3,by show dep t3<=7;omega,(FP n3 (by simp)).1.kD,fun s iS=>(OT s (m3 s iS)).kD⟩,o3',m3⟩
    ·exact ⟨⟨q3,v4,by show dep t4<=7;omega,(FP n4 (by simp)).1.kD,fun s iS=>(OT s (m4 s iS)).kD⟩,o4',m4⟩
   have G6:Cv J3 mp (ks++[⟨T0,a1,n1,t1⟩,⟨T1,a2,n2,t2⟩,⟨T2,a3,n3,t3⟩,⟨T3,a4,n4,t4⟩]):=by
    refine JC OU (fun k hk=>?_) (by simp)
    rcases List.mem_append.mp hk with z | z
    ·exact WW k z
    ·simp only[List.mem_cons,List.not_mem_nil,or_false]at z
     rcases z with rfl | rfl | rfl | rfl
     ·exact (FP n1 (by simp)).1
     ·exact (FP n2 (by simp)).1
     ·exact (FP n3 (by simp)).1
     ·exact (FP n4 (by simp)).1
   have hlK:(ks++([⟨T0,a1,n1,t1⟩,⟨T1,a2,n2,t2⟩,⟨T2,a3,n3,t3⟩,⟨T3,a4,n4,t4⟩]:List Rw)).length<=7:=by rw[List.length_append];show ks.length+4<=7;omega
   have ND:aD b H7 J3:=NA.trans (aD.of CY)
   have W_:=ND
   change L4 _ _ _ [some (.ref a),some (.int (0+i)),some (.ref b),some (.ref p),some (.ref D),some (.ref fq),some (.ref lq),some (.str (S [c])),some (.ref tp),some (.ref np),some (.ref mp),G3,FN] J3
   generalize ks++[⟨T0,a1,n1,t1⟩,⟨T1,a2,n2,t2⟩,⟨T2,a3,n3,t3⟩,⟨T3,a4,n4,t4⟩]=KS at*
   refine ⟨fun σ' H'=>σ'=[some (.ref a),some (.int (0+i)),some (.ref b),some (.ref p),some (.ref D),some (.ref fq),some (.ref lq),some (.str (S [c])),some (.ref tp),some (.ref np),some (.ref mp),G3,FN]/\ar J3 H',?_,?_⟩
   ·refine ⟨_,rfl,mp,KS,rfl,OU.at_,CH OU,fun Xa NF=>⟨true,true,rfl,rfl,_,rfl,bo (by decide) ?_⟩⟩
    have eT:(jW KS).length=KS.length:=by unfold jW;rw[List.length_map]
    have hzt:(Fi (jW KS)).length<=900000:=by
     have:=Fp (rs:=jW KS) (b:=76800) fun r hr=>by
      obtain ⟨k,hk,rfl⟩:=List.mem_map.mp hr
      exact vB (G6.rw k hk).nf (G6.rw k hk).tf (G6.rw k hk).dp
     rw[eT]at this
     omega
    have hrs:Wl (jW KS):=⟨fun z=>G6.ne (by unfold jW at z;exact List.map_eq_nil_iff.mp z),by rw[eT];omega,fun r hr=>by
     obtain ⟨k,hk,rfl⟩:=List.mem_map.mp hr
     exact ⟨(G6.rw k hk).nf,(G6.rw k hk).tf,(G6.rw k hk).dp⟩⟩
    have G7:=G6.same NF
    refine ⟨_,rfl,mp,KS,rfl,G7,fun KC OV=>⟨jW KS,rfl,hrs,hzt,fun rp js Xb hrp ejs FQ=>?_⟩⟩
    have zq:=(G7.same OV).same FQ
    have Xc:=GN (K:=K) hrp
    rw[ejs]at Xc
    refine ⟨_,rfl,OG (jW KS),OG (jW KS),Xc,GN zq,⟨oY zq.rw,oY zq.rw⟩,by show PyData.depthAll ((jW KS).map Fu)+1<=60;have:=vE zq.rw;omega,_,rfl,bo ?_ ?_⟩
    ·rw[eqv_refl (OG (jW KS)) (rm _)];rfl
    ·exact ⟨rfl,(NF.trans OV).trans FQ⟩
   ·rintro σ' Xa ⟨rfl,NF⟩
    have NG:=OU.ts (bq.of NF)
    refine Jz (P:=fun gq H6=>ar Xa H6/\AO H6 gq (lR KS)) (fun key=>⟨_,rfl,mp,KS,rfl,NG,fun kvs e q H6 nq hq s6=>key q H6 ⟨s6, .inl ⟨kvs,e,hq⟩⟩,fun nm e q H6 hq s6=>key q H6 ⟨s6, .inr ⟨nm,e,hq⟩⟩⟩) ?_
    rintro gq KC ⟨OV,G8⟩
    have CZ:aD b H7 KC:=(ND.trans (aD.of NF)).trans (aD.of OV)
    have NH: ∀H',ar KC H'->ar H H':=fun H' s'=>s1.trans (aD.same nb s2 (((s3.trans (aD.of OQ)).trans (aD.of CU)).trans (CZ.trans (aD.of s'))))
    have NI:=(CZ.Ck Nn) _ _ (CU _ _ FO.at_.tp)
    rw[eRT]at G8
    rcases G8 with ⟨vD,e2,FR⟩ | ⟨J4,e2,FR⟩
    ·obtain ⟨kvs,x,y,er,ew,Xd,Rr⟩:=Fz (tJ G4) hc ql wX e2
     have Kz:H7 fq=some (.lst (bz (kvs.map (·.2)))):=by
      rcases id CV with ⟨kv,e3,g⟩ | ⟨nm,e3,g⟩
      ·rw[er]at e3;cases e3;exact g
      ·rw[er]at e3;cases e3
     have zr:=CZ _ _ Kz OR
     rw[ew]at FR
     refine ⟨_,rfl,_,rfl, .inl ⟨gq,_,rfl,FR,_,rfl,eP rfl ?_⟩⟩
     have Rt:=(nj QJ (tJ G4) er).1
     have hlen:((kvs.map (·.2))++[x,x,y,y]).length<=7:=by rw[List.length_append,List.length_map];show kvs.length+4<=7;omega
     refine ⟨_,rfl,_,rfl,p,_,rfl, .inr (bp.of NI),_,rfl,gq,_,rfl,bt.of FR,fun wp nwp=>?_⟩
     rw[dD,JD,show ((kvs.map (·.2))++[x,x,y,y]).drop ks.length=[x,x,y,y] by rw[<-Xd,List.drop_append_of_le_length (by simp),List.drop_of_length_le (by simp)];rfl]
     have FQ:=ar.upd (o:=HO.lst (bz [x,x,y,y])) nwp
     have Xe:upd KC wp (HO.lst (bz [x,x,y,y])) wp=some (HO.lst (bz [x,x,y,y])):=ag
     generalize upd KC wp (HO.lst (bz [x,x,y,y]))=Xb at FQ Xe ⊢
     refine ⟨fun σ' H'=>σ'=[some (.ref a),some (.int (0+i)),some (.ref b),some (.ref p),some (.ref D),some (.ref fq),some (.ref lq),some (.str (S [c])),some (.ref tp),some (.ref np),some (.ref mp),some (.ref gq),some (.ref wp)]/\ar Xb H',?_,?_⟩
     ·refine ⟨_,rfl,_,rfl,p,_,rfl, .inr (bp.of (FQ _ _ NI)),_,rfl,gq,_,rfl,bt.of (FQ _ _ FR),fun cp ncp=>?_⟩
      rw[dD,s_,show ((kvs.map (·.2))++[x,x,y,y]).take ks.length=kvs.map (·.2) by rw[<-Xd,List.take_append_of_le_length (by simp),List.take_of_length_le (by simp)]]
      have KG:=ar.upd (o:=HO.lst (bz (kvs.map (·.2)))) ncp
      have NJ:=KG _ _ (FQ _ _ zr)
      have zt:=KG _ _ Xe
      have lo:=JE Rt
      refine ⟨_,rfl, .list (pM (kvs.map (·.2))), .list (pM (kvs.map (·.2))), .lst (bt.of ag) (hJ _), .lst (bt.of NJ) (hJ _),⟨ju lo,ju lo⟩,by show PyData.depthAll (pM _)+1<=60;rw[jv];decide,_,rfl,bo (by rw[FA];rfl) ?_⟩
      refine ⟨_,rfl,wp,_,0,_,rfl,rfl,bt.of zt,rfl,_,rfl,wp,_,1,_,rfl,rfl,bt.of zt,rfl,_,_,rfl,rfl,_,rfl,bo (by rw[decide_eq_true rfl];rfl) ?_⟩
      refine ⟨_,rfl,wp,_,2,_,rfl,rfl,bt.of zt,rfl,_,rfl,wp,_,3,_,rfl,rfl,bt.of zt,rfl,_,_,rfl,rfl,_,rfl,bo (by rw[decide_eq_true rfl];rfl) ?_⟩
      exact ⟨rfl,KG⟩
     ·rintro σ' H21 ⟨rfl,KG⟩
      have C0:=KG _ _ (FQ _ _ FR)
      rw[<-ew]at C0
      refine ⟨_,rfl,gq,rfl,⟨_,bt.of C0⟩,?_⟩
      refine lE (K:=K) (a:=gq) (xs:=bz (vD.map (·.2))) (fun j acc H'=>ar H21 H'/\acc=[]) (by rw[bO,ew];omega) (fun j acc H' h=>bt.of (h.1 _ _ C0)) ⟨ar.refl _,rfl⟩ ?_ ?_
      ·rintro j x' acc H22 Nx hj hx mi ⟨Ru,rfl⟩ nx
       obtain ⟨l,hlj,rfl⟩:=kC hx
       obtain ⟨pr,Qh,rfl⟩:=List.mem_map.mp (List.mem_of_getElem? hlj)
       obtain ⟨⟨cG,aaa⟩,Vs⟩:=Rr pr Qh
       refine ⟨trivial,_,rfl,pr.2,rfl,cG,by omega,fun H23 Rv=>?_⟩
       rw[Cg Vs]
       exact ⟨_,rfl,_,_,rfl,rfl,_,rfl,bo (by rw[decide_eq_true rfl];rfl) (nx _ _ (Nat.zero_le _) ⟨Ru.trans Rv,rfl⟩)⟩
      ·rintro acc H22 E2 mi ⟨Ru,rfl⟩ nE2
       refine ⟨by show 0<=sizeLine;decide,fun e3 ne3=>?_⟩
       have Rv:=ar.upd (o:=HO.lst []) nE2
       have Xf:=ar.upd (o:=HO.lst []) ne3
       refine ⟨.list [], .list [], .lst (bt.of (Xf _ _ ag)) .nil, .lst (bt.of ag) .nil,⟨rfl,rfl⟩,by decide,_,rfl,bo rfl ?_⟩
       exact ⟨NH _ (FQ.trans (KG.trans (Ru.trans (Rv.trans Xf)))),_,_,_,_,_,_,_,_,_,_,_,_,rfl⟩
    ·refine ⟨_,rfl,_,rfl, .inr (.inl ⟨gq,_,rfl,FR,_,rfl,bo rfl ?_⟩)⟩
     refine ⟨_,rfl,rfl,_,rfl,bo (decide_eq_false (fun z=>by cases z)) ?_⟩
     refine ⟨_,rfl,gq,_,0,_,rfl,rfl,bp.of FR,rfl,_,_,rfl,rfl,_,rfl,bo (by decide) ?_⟩
     have fin:ar H KC/\ ∃o1 o2 o3 o4 o5 o6 o7 o8 o9 G0 Rx Ry:Option V,[some (.ref a),some (.int (0+i)),some (.ref b),some (.ref p),some (.ref D),some (.ref fq),some (.ref lq),some (.str (S [c])),some (.ref tp),some (.ref np),some (.ref mp),some (.ref gq),FN]=[some (.ref a),o1,o2,o3,o4,o5,o6,o7,o8,o9,G0,Rx,Ry]:=⟨NH _ (ar.refl _),_,_,_,_,_,_,_,_,_,_,_,_,rfl⟩
     rcases id CV with ⟨kv,e3,g⟩ | ⟨nm,e3,g⟩
     ·exact ⟨_,rfl,_,rfl, .inl ⟨fq,_,rfl,CZ _ _ g OR,_,rfl,wK (wK fin)⟩⟩
     ·have e4:J4=nm:=by
       rw[oW,e3]at e2
       exact (Sum.inl.inj e2).symm
      subst e4
      have zr:=CZ _ _ g OR
      refine ⟨_,rfl,_,rfl, .inr ⟨fq,_,rfl,zr,_,rfl,eP rfl ?_⟩⟩
      have lo:=G4.MS e3
      have Xg: ∀l∈[kI,J4], ∀c∈l,c<128:=fun l hl=>by
       rcases List.mem_cons.mp hl with z | z
       ·rw[z];exact AL
       ·rw[List.mem_singleton.mp z];exact lo
      refine ⟨_,rfl,_,rfl, .tuple (pM [kI,J4]), .tuple (pM [kI,J4]), .tup (bp.of FR) (hJ [kI,J4]), .tup (bp.of zr) (hJ [kI,J4]),⟨ju Xg,ju Xg⟩,by show PyData.depthAll (pM _)+1<=60;rw[jv];decide,_,rfl,?_⟩
      rw[eqv_refl (.tuple (pM [kI,J4])) (by show PyData.hasDictAll (pM _)=false;exact jV _)]
      exact bo rfl fin
 ·rintro σ H1 ⟨s1,o1,o2,o3,o4,o5,o6,o7,o8,o9,G0,G3,FN,rfl⟩
  exact q _
end
theorem cH {M:List Value->Prop} (h:M []): ∀us:List Value,us.length=0->M us
 | [],_=>h
theorem bu {M:List Value->Prop} {n:Nat} (h: ∀(a:Value) (us:List Value),us.length=n->M (a::us)): ∀us:List Value,us.length=n+1->M us
 | a::us,e=>h a us (Nat.succ.inj e)
theorem all_mk {l:PySem.W.OpenLaw} {w:World} {K:PySem.W.Frag} {h:Heap} {mg:Str->Option Value} {fa f0 f1 f2 f3 f4 f5 f6 f7 f8 f9 eR fF eS fG fH fI fJ fK fL fM fN eN fO fP fQ fR fS fT fU eU fV fW fX fZ aq ak ax ay aG:Addr} (X:K.In h) (G:h.Ns mainGlobals mg) (hfa:mg "law"=some (.ref fa))
  {A6 C1:Nat} {rE vY:Array DictEntry}
  {xG mW C2 xH A7 NK:Tok}
  {od0 an0 od1 an1 od2 an2 od3 an3 od4 an4 od5 an5 od6 an6 od7 an7 od8 an8 od9 an9 Rz RA RB RC RD RE RF RG RH RI RJ RK RL RM RN RO RP RQ RS RT RU RV RW RX RY RZ R0 R1 R3 R4 R5 R6 R7 R8 R9 R_ Sa Sb Sd Se Sf Sg Sh Si Sj Sk Sl Sm xI xJ:Option Addr} {sl0 sl1 zJ sl3 sl4 sl5 sl6 sl7 sl8 sl9 Sn So Sr Ss Su Sv Sw Sx Sy Sz SA SD SE SG SH SI SJ SK SM SN SO SQ SR SU xK:Array (Option Value)} {oc0 kV0 dc0 pm0 Xh ct0 oc1 kV1 dc1 pm1 Xi ct1 oc2 kV2 dc2 pm2 Xj ct2 oc3 kV3 dc3 pm3 Xk ct3 oc4 kV4 dc4 pm4 Xl ct4 oc5 kV5 dc5 pm5 Xm ct5 oc6 kV6 dc6 pm6 Xn ct6 oc7 kV7 dc7 pm7 Xo ct7 oc8 kV8 dc8 pm8 Xp ct8 oc9 kV9 dc9 pm9 Xq ct9 SV SW SX SY NL S0 S3 S4 S5 S6 NM S7 S8 S9 S_ Ta NN Tc Td Te Tf Tg NO Th Ti Tj Tn To NP Tp Tq Tr Tt Tu NQ Tv Tw Tx Tz TB NR TC TF TH TJ TK NS TL TM TN TQ TR NT TU TV TX TY T4 NU T6 T7 T8 T9 T_ NV Ua Ub Uc Ud Ue NW Ug Uh Ui Uj Uk NX Ul Um Uo Up Uq NY Ur Us Ut Uu Uv NZ Uw Ux Uy Uz UA N0 UB UC UD UE UG N1 UH UI UJ UK UL N2 UM UN UO UP UQ N3 UR US UT UU UW N4 UX UY UZ U0 U1 N5 U2 U3 U4 U5 U6 N6 U7 U8 U9 U_ Va N7 Vb Vc Vd Ve Vf N8 Vg xM xN xO xP pJ xQ:Value}
  (a0:PySem.W.nsIn K mainGlobals "is_letter"=some (some (.ref f0)))
  (l0:K.lookup f0=some ⟨oc0,od0, .func (PySem.W.fnOf "is_letter" "is_letter" (aR dc) (aP dc) (au dc) .none kV0 dc0 pm0 an0 Xh ct0),sl0⟩)
  (c0:PySem.W.codeIn K Xh "is_letter"=true)
  (k0:PySem.W.keepIn K (.ref f0)=true)
  (a1:PySem.W.nsIn K mainGlobals "is_name"=some (some (.ref f1)))
  (l1:K.lookup f1=some ⟨oc1,od1, .func (PySem.W.fnOf "is_name" "is_name" (aR eW) (aP eW) (au eW) .none kV1 dc1 pm1 an1 Xi ct1),sl1⟩)
  (c1:PySem.W.codeIn K Xi "is_name"=true)
  (k1:PySem.W.keepIn K (.ref f1)=true)
  (a2:PySem.W.nsIn K mainGlobals "contrary"=some (some (.ref f2)))
  (l2:K.lookup f2=some ⟨oc2,od2, .func (PySem.W.fnOf "contrary" "contrary" (aR dS) (aP dS) (au dS) .none kV2 dc2 pm2 an2 Xj ct2),zJ⟩)
  (c2:PySem.W.codeIn K Xj "contrary"=true)
  (k2:PySem.W.keepIn K (.ref f2)=true)
  (a3:PySem.W.nsIn K mainGlobals "turned"=some (some (.ref f3)))
  (l3:K.lookup f3=some ⟨oc3,od3, .func (PySem.W.fnOf "turned" "turned" (aR h_) (aP h_) (au h_) .none kV3 dc3 pm3 an3 Xk ct3),sl3⟩)
  (c3:PySem.W.codeIn K Xk "turned"=true)
  (k3:PySem.W.keepIn K (.ref f3)=true)
  (a4:PySem.W.nsIn K mainGlobals "shortened"=some (some (.ref f4)))
  (l4:K.lookup f4=some ⟨oc4,od4, .func (PySem.W.fnOf "shortened" "shortened" (aR de) (aP de) (au de) .none kV4 dc4 pm4 an4 Xl ct4),sl4⟩)
  (c4:PySem.W.codeIn K Xl "shortened"=true)
  (k4:PySem.W.keepIn K (.ref f4)=true)
  (a5:PySem.W.nsIn K mainGlobals "terms_in"=some (some (.ref f5)))
  (l5:K.lookup f5=some ⟨oc5,od5, .func (PySem.W.fnOf "terms_in" "terms_in" (aR dU) (aP dU) (au dU) .none kV5 dc5 pm5 an5 Xm ct5),sl5⟩)
  (c5:PySem.W.codeIn K Xm "terms_in"=true)
  (k5:PySem.W.keepIn K (.ref f5)=true)
  (a6:PySem.W.nsIn K mainGlobals "names_in"=some (some (.ref f6)))
  (l6:K.lookup f6=some ⟨oc6,od6, .func (PySem.W.fnOf "names_in" "names_in" (aR dW) (aP dW) (au dW) .none kV6 dc6 pm6 an6 Xn ct6),sl6⟩)
  (c6:PySem.W.codeIn K Xn "names_in"=true)
  (k6:PySem.W.keepIn K (.ref f6)=true)
  (a7:PySem.W.nsIn K mainGlobals "look_program"=some (some (.ref f7)))
  (l7:K.lookup f7=some ⟨oc7,od7, .func (PySem.W.fnOf "look_program" "look_program" (aR bZ) (aP bZ) (au bZ) .none kV7 dc7 pm7 an7 Xo ct7),sl7⟩)
  (c7:PySem.W.codeIn K Xo "look_program"=true)
  (k7:PySem.W.keepIn K (.ref f7)=true)
  (a8:PySem.W.nsIn K mainGlobals "put_for"=some (some (.ref f8)))
  (l8:K.lookup f8=some ⟨oc8,od8, .func (PySem.W.fnOf "put_for" "put_for" (aR eX) (aP eX) (au eX) .none kV8 dc8 pm8 an8 Xp ct8),sl8⟩)
  (c8:PySem.W.codeIn K Xp "put_for"=true)
  (k8:PySem.W.keepIn K (.ref f8)=true)
  (a9:PySem.W.nsIn K mainGlobals "made_of"=some (some (.ref f9)))
  (l9:K.lookup f9=some ⟨oc9,od9, .func (PySem.W.fnOf "made_of" "made_of" (aR eY) (aP eY) (au eY) .none kV9 dc9 pm9 an9 Xq ct9),sl9⟩)
  (c9:PySem.W.codeIn K Xq "made_of"=true)
  (k9:PySem.W.keepIn K (.ref f9)=true)
  (a10:PySem.W.nsIn K mainGlobals "word_of"=some (some (.ref eR)))
  (l10:K.lookup eR=some ⟨SV,Rz, .func (PySem.W.fnOf "word_of" "word_of" (aR e_) (aP e_) (au e_) .none SW SX SY RA NL S0),Sn⟩)
  (c10:PySem.W.codeIn K NL "word_of"=true)
  (k10:PySem.W.keepIn K (.ref eR)=true)
  (a11:PySem.W.nsIn K mainGlobals "worked"=some (some (.ref fF)))
  (l11:K.lookup fF=some ⟨S3,RB, .func (PySem.W.fnOf "worked" "worked" (aR ic) (aP ic) (au ic) .none S4 S5 S6 RC NM S7),So⟩)
  (c11:PySem.W.codeIn K NM "worked"=true)
  (k11:PySem.W.keepIn K (.ref fF)=true)
  (a12:PySem.W.nsIn K mainGlobals "term_text"=some (some (.ref eS)))
  (l12:K.lookup eS=some ⟨S8,RD, .func (PySem.W.fnOf "term_text" "term_text" (aR df) (aP df) (au df) .none S9 S_ Ta RE NN Tc),Sr⟩)
  (c12:PySem.W.codeIn K NN "term_text"=true)
  (k12:PySem.W.keepIn K (.ref eS)=true)
  (a13:PySem.W.nsIn K mainGlobals "show_program"=some (some (.ref fG)))
  (l13:K.lookup fG=some ⟨Td,RF, .func (PySem.W.fnOf "show_program" "show_program" (aR b_) (aP b_) (au b_) .none Te Tf Tg RG NO Th),Ss⟩)
  (c13:PySem.W.codeIn K NO "show_program"=true)
  (k13:PySem.W.keepIn K (.ref fG)=true)
  (a14:PySem.W.nsIn K mainGlobals "is_row_name"=some (some (.ref fH)))
  (l14:K.lookup fH=some ⟨Ti,RH, .func (PySem.W.fnOf "is_row_name" "is_row_name" (aR cx) (aP cx) (au cx) .none Tj Tn To RI NP Tp),Su⟩)
  (c14:PySem.W.codeIn K NP "is_row_name"=true)
  (k14:PySem.W.keepIn K (.ref fH)=true)
  (a15:PySem.W.nsIn K mainGlobals "read_walk"=some (some (.ref fI)))
  (l15:K.lookup fI=some ⟨Tq,RJ, .func (PySem.W.fnOf "read_walk" "read_walk" (aR dh) (aP dh) (au dh) .none Tr Tt Tu RK NQ Tv),Sv⟩)
  (c15:PySem.W.codeIn K NQ "read_walk"=true)
  (k15:PySem.W.keepIn K (.ref fI)=true)
  (a16:PySem.W.nsIn K mainGlobals "read_name"=some (some (.ref fJ)))
  (l16:K.lookup fJ=some ⟨Tw,RL, .func (PySem.W.fnOf "read_name" "read_name" (aR dk) (aP dk) (au dk) .none Tx Tz TB RM NR TC),Sw⟩)
  (c16:PySem.W.codeIn K NR "read_name"=true)
  (k16:PySem.W.keepIn K (.ref fJ)=true)
  (a17:PySem.W.nsIn K mainGlobals "read_kind"=some (some (.ref fK)))
  (l17:K.lookup fK=some ⟨TF,RN, .func (PySem.W.fnOf "read_kind" "read_kind" (aR dm) (aP dm) (au dm) .none TH TJ TK RO NS TL),Sx⟩)
  (c17:PySem.W.codeIn K NS "read_kind"=true)
  (k17:PySem.W.keepIn K (.ref fK)=true)
  (a18:PySem.W.nsIn K mainGlobals "read_sign"=some (some (.ref fL)))
  (l18:K.lookup fL=some ⟨TM,RP, .func (PySem.W.fnOf "read_sign" "read_sign" (aR dn) (aP dn) (au dn) .none TN TQ TR RQ NT TU),Sy⟩)
  (c18:PySem.W.codeIn K NT "read_sign"=true)
  (k18:PySem.W.keepIn K (.ref fL)=true)
  (a19:PySem.W.nsIn K mainGlobals "read_terms"=some (some (.ref fM)))
  (l19:K.lookup fM=some ⟨TV,RS, .func (PySem.W.fnOf "read_terms" "read_terms" (aR cK) (aP cK) (au cK) .none TX TY T4 RT NU T6),Sz⟩)
  (c19:PySem.W.codeIn K NU "read_terms"=true)
  (k19:PySem.W.keepIn K (.ref fM)=true)
  (a20:PySem.W.nsIn K mainGlobals "read_made"=some (some (.ref fN)))
  (l20:K.lookup fN=some ⟨T7,RU, .func (PySem.W.fnOf "read_made" "read_made" (aR dq) (aP dq) (au dq) .none T8 T9 T_ RV NV Ua),SA⟩)
  (c20:PySem.W.codeIn K NV "read_made"=true)
  (k20:PySem.W.keepIn K (.ref fN)=true)
  (a21:PySem.W.nsIn K mainGlobals "read_term"=some (some (.ref eN)))
  (l21:K.lookup eN=some ⟨Ub,RW, .func (PySem.W.fnOf "read_term" "read_term" (aR dr) (aP dr) (au dr) .none Uc Ud Ue RX NW Ug),SD⟩)
  (c21:PySem.W.codeIn K NW "read_term"=true)
  (k21:PySem.W.keepIn K (.ref eN)=true)
  (a22:PySem.W.nsIn K mainGlobals "read_row"=some (some (.ref fO)))
  (l22:K.lookup fO=some ⟨Uh,RY, .func (PySem.W.fnOf "read_row" "read_row" (aR dX) (aP dX) (au dX) .none Ui Uj Uk RZ NX Ul),SE⟩)
  (c22:PySem.W.codeIn K NX "read_row"=true)
  (k22:PySem.W.keepIn K (.ref fO)=true)
  (a23:PySem.W.nsIn K mainGlobals "read_program"=some (some (.ref fP)))
  (l23:K.lookup fP=some ⟨Um,R0, .func (PySem.W.fnOf "read_program" "read_program" (aR cb) (aP cb) (au cb) .none Uo Up Uq R1 NY Ur),SG⟩)
  (c23:PySem.W.codeIn K NY "read_program"=true)
  (k23:PySem.W.keepIn K (.ref fP)=true)
  (a24:PySem.W.nsIn K mainGlobals "_law_box"=some (some (.ref fQ)))
  (l24:K.lookup fQ=some ⟨Us,R3, .func (PySem.W.fnOf "_law_box" "_law_box" (aR lV) (aP lV) (au lV) .none Ut Uu Uv R4 NZ Uw),SH⟩)
  (c24:PySem.W.codeIn K NZ "_law_box"=true)
  (k24:PySem.W.keepIn K (.ref fQ)=true)
  (a25:PySem.W.nsIn K mainGlobals "_law_take"=some (some (.ref fR)))
  (l25:K.lookup fR=some ⟨Ux,R5, .func (PySem.W.fnOf "_law_take" "_law_take" (aR jx) (aP jx) (au jx) .none Uy Uz UA R6 N0 UB),SI⟩)
  (c25:PySem.W.codeIn K N0 "_law_take"=true)
  (k25:PySem.W.keepIn K (.ref fR)=true)
  (a27:PySem.W.nsIn K mainGlobals "_law_names"=some (some (.ref fS)))
  (l27:K.lookup fS=some ⟨UC,R7, .func (PySem.W.fnOf "_law_names" "_law_names" (aR ie) (aP ie) (au ie) .none UD UE UG R8 N1 UH),SJ⟩)
  (c27:PySem.W.codeIn K N1 "_law_names"=true)
  (k27:PySem.W.keepIn K (.ref fS)=true)
  (a28:PySem.W.nsIn K mainGlobals "_law_pool"=some (some (.ref fT)))
  (l28:K.lookup fT=some ⟨UI,R9, .func (PySem.W.fnOf "_law_pool" "_law_pool" (aR jy) (aP jy) (au jy) .none UJ UK UL R_ N2 UM),SK⟩)
  (c28:PySem.W.codeIn K N2 "_law_pool"=true)
  (k28:PySem.W.keepIn K (.ref fT)=true)
  (a29:PySem.W.nsIn K mainGlobals "_law_walk"=some (some (.ref fU)))
  (l29:K.lookup fU=some ⟨UN,Sa, .func (PySem.W.fnOf "_law_walk" "_law_walk" (aR jz) (aP jz) (au jz) .none UO UP UQ Sb N3 UR),SM⟩)
  (c29:PySem.W.codeIn K N3 "_law_walk"=true)
  (k29:PySem.W.keepIn K (.ref fU)=true)
  (a30:PySem.W.nsIn K mainGlobals "_law_term"=some (some (.ref eU)))
  (l30:K.lookup eU=some ⟨US,Sd, .func (PySem.W.fnOf "_law_term" "_law_term" (aR jA) (aP jA) (au jA) .none UT UU UW Se N4 UX),SN⟩)
  (c30:PySem.W.codeIn K N4 "_law_term"=true)
  (k30:PySem.W.keepIn K (.ref eU)=true)
  (a31:PySem.W.nsIn K mainGlobals "_law_program"=some (some (.ref fV)))
  (l31:K.lookup fV=some ⟨UY,Sf, .func (PySem.W.fnOf "_law_program" "_law_program" (aR dY) (aP dY) (au dY) .none UZ U0 U1 Sg N5 U2),SO⟩)
  (c31:PySem.W.codeIn K N5 "_law_program"=true)
  (k31:PySem.W.keepIn K (.ref fV)=true)
  (a32:PySem.W.nsIn K mainGlobals "_law_told"=some (some (.ref fW)))
  (l32:K.lookup fW=some ⟨U3,Sh, .func (PySem.W.fnOf "_law_told" "_law_told" (aR jB) (aP jB) (au jB) .none U4 U5 U6 Si N6 U7),SQ⟩)
  (c32:PySem.W.codeIn K N6 "_law_told"=true)
  (k32:PySem.W.keepIn K (.ref fW)=true)
  (a33:PySem.W.nsIn K mainGlobals "_law_pair"=some (some (.ref fX)))
  (l33:K.lookup fX=some ⟨U8,Sj, .func (PySem.W.fnOf "_law_pair" "_law_pair" (aR jC) (aP jC) (au jC) .none U9 U_ Va Sk N7 Vb),SR⟩)
  (c33:PySem.W.codeIn K N7 "_law_pair"=true)
  (k33:PySem.W.keepIn K (.ref fX)=true)
  (a34:PySem.W.nsIn K mainGlobals "law"=some (some (.ref fZ)))
  (l34:K.lookup fZ=some ⟨Vc,Sl, .func (PySem.W.fnOf "law" "law" (aR rA) (aP rA) (au rA) .none Vd Ve Vf Sm N8 Vg),SU⟩)
  (c34:PySem.W.codeIn K N8 "law"=true)
  (k34:PySem.W.keepIn K (.ref fZ)=true)
  (q_TooLong:PySem.W.nsIn K mainGlobals "TooLong"=some (some (.ref aq)))
  (q_MeetError:PySem.W.nsIn K mainGlobals "MeetError"=some (some (.ref ak)))
  (xis_TooLong:L8 K aq=true)
  (xga_TooLong:PySem.W.findIn K (.ref aq) "__getattribute__"=some (some (.builtin "BaseException.__getattribute__")))
  (xgh_TooLong:PySem.W.findIn K (.ref aq) "__getattr__"=some none)
  (xsa_TooLong:PySem.W.findIn K (.ref aq) "__setattr__"=some (some (.builtin "object.__setattr__")))
  (xcl_TooLong:PySem.W.findIn K (.ref aq) "__class__"=some (some (.builtin "object.__class__")))
  (xcg_TooLong:PySem.W.specialIn K (.builtin "object.__class__") "__get__"=some (some (.builtin "getset_descriptor.__get__")))
  (xct_TooLong:PySem.W.takesIn K (.builtin "object.__class__")=some true)
  (xob_TooLong:PySem.W.mroIn K aq (.type "object")=some true)
  (xkp_TooLong:PySem.W.keepIn K (.ref aq)=true)
  (s_TooLong:PySem.W.mroIn K aq (.ref aq)=some true)
  (r_TooLong:PySem.W.mroIn K aq (.ref ak)=some true)
  (xis_MeetError:L8 K ak=true)
  (xga_MeetError:PySem.W.findIn K (.ref ak) "__getattribute__"=some (some (.builtin "BaseException.__getattribute__")))
  (xgh_MeetError:PySem.W.findIn K (.ref ak) "__getattr__"=some none)
  (xsa_MeetError:PySem.W.findIn K (.ref ak) "__setattr__"=some (some (.builtin "object.__setattr__")))
  (xcl_MeetError:PySem.W.findIn K (.ref ak) "__class__"=some (some (.builtin "object.__class__")))
  (xcg_MeetError:PySem.W.specialIn K (.builtin "object.__class__") "__get__"=some (some (.builtin "getset_descriptor.__get__")))
  (xct_MeetError:PySem.W.takesIn K (.builtin "object.__class__")=some true)
  (xob_MeetError:PySem.W.mroIn K ak (.type "object")=some true)
  (xkp_MeetError:PySem.W.keepIn K (.ref ak)=true)
  (qi_TooLong:PySem.W.findIn K (.ref aq) "__init__"=some (some (.ref ax)))
  (fi_TooLong:PySem.W.isFn K (.ref ax)=true)
  (li_TooLong:K.lookup ax=some ⟨xM,xI, .func (PySem.W.fnOf "__init__" "TooLong.__init__" (aR dt) (aP dt) (au dt) .none xN xO xP xJ pJ xQ),xK⟩)
  (ci_TooLong:PySem.W.codeIn K pJ "TooLong.__init__"=true)
  (ki_TooLong:PySem.W.keepIn K (.ref ax)=true)
  (n_TooLong_name:PySem.W.findIn K (.ref aq) "name"=some none)
  (xbr:PySem.W.readsIn K ak (.type "type")=true)
  (xbg:PySem.W.specialIn K (.ref ak) "__getattribute__"=some (some (.builtin "type.__getattribute__")))
  (xbf:PySem.W.findCls K (.ref ak) (.type "type") "__init__"=some (.val (.builtin "ValueError.__init__")))
  (qk_COUNTS:PySem.W.nsIn K mainGlobals "COUNTS"=some (some (.ref ay)))
  (lk_COUNTS:K.lookup ay=some ⟨.type "dict",none, .dict rE A6, #[]⟩)
  (ek_COUNTS:KE dZ w rE)
  (sk_COUNTS:(ay==sysModules)=false)
  (qk_SIGNS:PySem.W.nsIn K mainGlobals "SIGNS"=some (some (.ref aG)))
  (lk_SIGNS:K.lookup aG=some ⟨.type "dict",none, .dict vY C1, #[]⟩)
  (ek_SIGNS:KE eJ w vY)
  (sk_SIGNS:(aG==sysModules)=false)
  (g_LETTERS:PySem.W.nsIn K mainGlobals "LETTERS"=some (some (.str (S [97,98,99,100,101,102,103,104,105,106,107,108,109,110,111,112,113,114,115,116,117,118,119,120,121,122,65,66,67,68,69,70,71,72,73,74,75,76,77,78,79,80,81,82,83,84,85,86,87,88,89,90]) xG)))
  (g_LONGEST_NAME:PySem.W.nsIn K mainGlobals "LONGEST_NAME"=some (some (.int 6 mW)))
  (g_SMALL:PySem.W.nsIn K mainGlobals "SMALL"=some (some (.str (S [97,98,99,100,101,102,103,104,105,106,107,108,109,110,111,112,113,114,115,116,117,118,119,120,121,122]) C2)))
  (g_LONGEST:PySem.W.nsIn K mainGlobals "LONGEST"=some (some (.int 60 xH)))
  (g_STROKE:PySem.W.nsIn K mainGlobals "STROKE"=some (some (.str (S [39]) A7)))
  (g_IS:PySem.W.nsIn K mainGlobals "IS"=some (some (.str (S [32,61,32]) NK)))
  (z_all:PySem.W.nsIn K mainGlobals "all"=some none)
  (z_enumerate:PySem.W.nsIn K mainGlobals "enumerate"=some none)
  (z_int:PySem.W.nsIn K mainGlobals "int"=some none)
  (z_isinstance:PySem.W.nsIn K mainGlobals "isinstance"=some none)
  (z_len:PySem.W.nsIn K mainGlobals "len"=some none)
  (z_list:PySem.W.nsIn K mainGlobals "list"=some none)
  (z_max:PySem.W.nsIn K mainGlobals "max"=some none)
  (z_min:PySem.W.nsIn K mainGlobals "min"=some none)
  (z_range:PySem.W.nsIn K mainGlobals "range"=some none)
  (z_reversed:PySem.W.nsIn K mainGlobals "reversed"=some none)
  (z_sorted:PySem.W.nsIn K mainGlobals "sorted"=some none)
  (z_str:PySem.W.nsIn K mainGlobals "str"=some none)
  (z_tuple:PySem.W.nsIn K mainGlobals "tuple"=some none)
  (z_zip:PySem.W.nsIn K mainGlobals "zip"=some none):
  ∃fd:FuncData,(∀(s:Shared) (v:Value),BindsTo s fd ⟨[v],[]⟩ [("_law_script",v)])/\ ∀base:Heap,K.In base->base.Ns mainGlobals mg->bE l.prog w K mg base eK 31 fa fd ["_law_script"] (lB K):=by
 have e:=hfa.symm.trans (PySem.W.mg_of X G a34)
 cases e
 have F0:=bj (st:=dc) l0 c0 k0
 have b0:=F0.binds (ps:=["sign"]) fun _ _ _ _ _ _=>bu fun _=>cH rfl
 have F1:=bj (st:=eW) l1 c1 k1
 have b1:=F1.binds (ps:=["text"]) fun _ _ _ _ _ _=>bu fun _=>cH rfl
 have F2:=bj (st:=dS) l2 c2 k2
 have b2:=F2.binds (ps:=["letter"]) fun _ _ _ _ _ _=>bu fun _=>cH rfl
 have F3:=bj (st:=h_) l3 c3 k3
 have b3:=F3.binds (ps:=["word"]) fun _ _ _ _ _ _=>bu fun _=>cH rfl
 have F4:=bj (st:=de) l4 c4 k4
 have b4:=F4.binds (ps:=["word"]) fun _ _ _ _ _ _=>bu fun _=>cH rfl
 have F5:=bj (st:=dU) l5 c5 k5
 have b5:=F5.binds (ps:=["term"]) fun _ _ _ _ _ _=>bu fun _=>cH rfl
 have F6:=bj (st:=dW) l6 c6 k6
 have b6:=F6.binds (ps:=["term"]) fun _ _ _ _ _ _=>bu fun _=>cH rfl
 have F7:=bj (st:=bZ) l7 c7 k7
 have b7:=F7.binds (ps:=["program"]) fun _ _ _ _ _ _=>bu fun _=>cH rfl
 have F8:=bj (st:=eX) l8 c8 k8
 have b8:=F8.binds (ps:=["letter","word","other"]) fun _ _ _ _ _ _=>bu fun _=>bu fun _=>bu fun _=>cH rfl
 have F9:=bj (st:=eY) l9 c9 k9
 have b9:=F9.binds (ps:=["term","words","known"]) fun _ _ _ _ _ _=>bu fun _=>bu fun _=>bu fun _=>cH rfl
 have Df:=bj (st:=e_) l10 c10 k10
 have b10:=Df.binds (ps:=["name","term","known"]) fun _ _ _ _ _ _=>bu fun _=>bu fun _=>bu fun _=>cH rfl
 have JF:=bj (st:=ic) l11 c11 k11
 have b11:=JF.binds (ps:=["program"]) fun _ _ _ _ _ _=>bu fun _=>cH rfl
 have Dg:=bj (st:=df) l12 c12 k12
 have b12:=Dg.binds (ps:=["term"]) fun _ _ _ _ _ _=>bu fun _=>cH rfl
 have JG:=bj (st:=b_) l13 c13 k13
 have b13:=JG.binds (ps:=["program"]) fun _ _ _ _ _ _=>bu fun _=>cH rfl
 have Dh:=bj (st:=cx) l14 c14 k14
 have b14:=Dh.binds (ps:=["text"]) fun _ _ _ _ _ _=>bu fun _=>cH rfl
 have JH:=bj (st:=dh) l15 c15 k15
 have b15:=JH.binds (ps:=["row","start"]) fun _ _ _ _ _ _=>bu fun _=>bu fun _=>cH rfl
 have JI:=bj (st:=dk) l16 c16 k16
 have b16:=JI.binds (ps:=["row","start"]) fun _ _ _ _ _ _=>bu fun _=>bu fun _=>cH rfl
 have JJ:=bj (st:=dm) l17 c17 k17
 have b17:=JJ.binds (ps:=["row","start"]) fun _ _ _ _ _ _=>bu fun _=>bu fun _=>cH rfl
 have JK:=bj (st:=dn) l18 c18 k18
 have b18:=JK.binds (ps:=["kind","row","start"]) fun _ _ _ _ _ _=>bu fun _=>bu fun _=>bu fun _=>cH rfl
 have JL:=bj (st:=cK) l19 c19 k19
 have b19:=JL.binds (ps:=["count","row","start"]) fun _ _ _ _ _ _=>bu fun _=>bu fun _=>bu fun _=>cH rfl
 have JM:=bj (st:=dq) l20 c20 k20
 have b20:=JM.binds (ps:=["row","start"]) fun _ _ _ _ _ _=>bu fun _=>bu fun _=>cH rfl
 have Di:=bj (st:=dr) l21 c21 k21
 have b21:=Di.binds (ps:=["row","start"]) fun _ _ _ _ _ _=>bu fun _=>bu fun _=>cH rfl
 have JN:=bj (st:=dX) l22 c22 k22
 have b22:=JN.binds (ps:=["row"]) fun _ _ _ _ _ _=>bu fun _=>cH rfl
 have JO:=bj (st:=cb) l23 c23 k23
 have b23:=JO.binds (ps:=["text"]) fun _ _ _ _ _ _=>bu fun _=>cH rfl
 have JP:=bj (st:=lV) l24 c24 k24
 have b24:=JP.binds (ps:=["_law_script","_law_k"]) fun _ _ _ _ _ _=>bu fun _=>bu fun _=>cH rfl
 have cf:=bj (st:=jx) l25 c25 k25
 have b25:=cf.binds (ps:=["_law_box_here","_law_many"]) fun _ _ _ _ _ _=>bu fun _=>bu fun _=>cH rfl
 have Dj:=bj (st:=ie) l27 c27 k27
 have b27:=Dj.binds (ps:=["_law_box_here","_law_many"]) fun _ _ _ _ _ _=>bu fun _=>bu fun _=>cH rfl
 have JQ:=bj (st:=jy) l28 c28 k28
 have b28:=JQ.binds (ps:=["_law_box_here"]) fun _ _ _ _ _ _=>bu fun _=>cH rfl
 have JR:=bj (st:=jz) l29 c29 k29
 have b29:=JR.binds (ps:=["_law_box_here","_law_pool_here"]) fun _ _ _ _ _ _=>bu fun _=>bu fun _=>cH rfl
 have tK:=bj (st:=jA) l30 c30 k30
 have b30:=tK.binds (ps:=["_law_box_here","_law_known","_law_pool_here","_law_room","_law_deep"]) fun _ _ _ _ _ _=>bu fun _=>bu fun _=>bu fun _=>bu fun _=>bu fun _=>cH rfl
 have JS:=bj (st:=dY) l31 c31 k31
 have b31:=JS.binds (ps:=["_law_box_here","_law_top","_law_room"]) fun _ _ _ _ _ _=>bu fun _=>bu fun _=>bu fun _=>cH rfl
 have Dk:=bj (st:=jB) l32 c32 k32
 have b32:=Dk.binds (ps:=["_law_program_here"]) fun _ _ _ _ _ _=>bu fun _=>cH rfl
 have Dl:=bj (st:=jC) l33 c33 k33
 have b33:=Dl.binds (ps:=["_law_box_here","_law_known","_law_letter"]) fun _ _ _ _ _ _=>bu fun _=>bu fun _=>bu fun _=>cH rfl
 have OH:=bj (st:=rA) l34 c34 k34
 have b34:=OH.binds (ps:=["_law_script"]) fun _ _ _ _ _ _=>bu fun _=>cH rfl
 have pK:=bj (st:=dt) li_TooLong ci_TooLong ki_TooLong
 have xR:=pK.binds (ps:=["self","name"]) fun _ _ _ _ _ _=>bu fun _=>bu fun _=>cH rfl
 have T:Txt l.prog w K mg _ _ _ _ _ _ _ _ _ _ _ _ _ _ _ _ _ _ _ _ _ _ _ _ _ _ _ _ _ _ _ _ _ _ _ _ _ _ _ _ _ _ _ _ _ _ _ _ _ _ _ _ _ _ _ _ _ _ _ _ _ _ _ _ _ _ _ _ _ _ _ _ _ _:=⟨⟨F0,PySem.W.mg_of X G a0,b0⟩,⟨F1,PySem.W.mg_of X G a1,b1⟩,⟨F2,PySem.W.mg_of X G a2,b2⟩,⟨F3,PySem.W.mg_of X G a3,b3⟩,⟨F4,PySem.W.mg_of X G a4,b4⟩,⟨F5,PySem.W.mg_of X G a5,b5⟩,⟨F6,PySem.W.mg_of X G a6,b6⟩,⟨F7,PySem.W.mg_of X G a7,b7⟩,⟨F8,PySem.W.mg_of X G a8,b8⟩,⟨F9,PySem.W.mg_of X G a9,b9⟩,⟨Df,PySem.W.mg_of X G a10,b10⟩,⟨JF,PySem.W.mg_of X G a11,b11⟩,⟨Dg,PySem.W.mg_of X G a12,b12⟩,⟨JG,PySem.W.mg_of X G a13,b13⟩,⟨Dh,PySem.W.mg_of X G a14,b14⟩,⟨JH,PySem.W.mg_of X G a15,b15⟩,⟨JI,PySem.W.mg_of X G a16,b16⟩,⟨JJ,PySem.W.mg_of X G a17,b17⟩,⟨JK,PySem.W.mg_of X G a18,b18⟩,⟨JL,PySem.W.mg_of X G a19,b19⟩,⟨JM,PySem.W.mg_of X G a20,b20⟩,⟨Di,PySem.W.mg_of X G a21,b21⟩,⟨JN,PySem.W.mg_of X G a22,b22⟩,⟨JO,PySem.W.mg_of X G a23,b23⟩,⟨JP,PySem.W.mg_of X G a24,b24⟩,⟨cf,PySem.W.mg_of X G a25,b25⟩,⟨Dj,PySem.W.mg_of X G a27,b27⟩,⟨JQ,PySem.W.mg_of X G a28,b28⟩,⟨JR,PySem.W.mg_of X G a29,b29⟩,⟨tK,PySem.W.mg_of X G a30,b30⟩,⟨JS,PySem.W.mg_of X G a31,b31⟩,⟨Dk,PySem.W.mg_of X G a32,b32⟩,⟨Dl,PySem.W.mg_of X G a33,b33⟩,⟨OH,PySem.W.mg_of X G a34,b34⟩,PySem.W.mg_of X G qk_COUNTS,KE.kd lk_COUNTS ek_COUNTS sk_COUNTS (by decide),PySem.W.mg_of X G qk_SIGNS,KE.kd lk_SIGNS ek_SIGNS sk_SIGNS (by decide),PySem.W.mg_of X G q_TooLong,PySem.W.mg_of X G q_MeetError,⟨xis_TooLong,xga_TooLong,xgh_TooLong,xsa_TooLong,xcl_TooLong,xcg_TooLong,xct_TooLong,xob_TooLong,xkp_TooLong⟩,s_TooLong,r_TooLong,⟨xis_MeetError,xga_MeetError,xgh_MeetError,xsa_MeetError,xcl_MeetError,xcg_MeetError,xct_MeetError,xob_MeetError,xkp_MeetError⟩,⟨⟨xis_TooLong,xga_TooLong,xgh_TooLong,xsa_TooLong,xcl_TooLong,xcg_TooLong,xct_TooLong,xob_TooLong,xkp_TooLong⟩,qi_TooLong,fi_TooLong⟩,pK,xR,n_TooLong_name,⟨xbr,xbg,xbf⟩,PySem.W.mg_none_of X G z_all,PySem.W.mg_none_of X G z_enumerate,PySem.W.mg_none_of X G z_int,PySem.W.mg_none_of X G z_isinstance,PySem.W.mg_none_of X G z_len,PySem.W.mg_none_of X G z_list,PySem.W.mg_none_of X G z_max,PySem.W.mg_none_of X G z_min,PySem.W.mg_none_of X G z_range,PySem.W.mg_none_of X G z_reversed,PySem.W.mg_none_of X G z_sorted,PySem.W.mg_none_of X G z_str,PySem.W.mg_none_of X G z_tuple,PySem.W.mg_none_of X G z_zip,⟨_,PySem.W.mg_of X G g_LETTERS⟩,⟨_,PySem.W.mg_of X G g_LONGEST_NAME⟩,⟨_,PySem.W.mg_of X G g_SMALL⟩,⟨_,PySem.W.mg_of X G g_LONGEST⟩,⟨_,PySem.W.mg_of X G g_STROKE⟩,⟨_,PySem.W.mg_of X G g_IS⟩⟩
 exact ⟨_,fun s v=> .of_eq rfl,fun base _ _=>JY T⟩
theorem walk {l:PySem.W.OpenLaw} {q:Program} {loose:List Str} {XP:(Str->Option Value)->Heap->Prop} {YP:World->Heap->Prop} {d:DefRec} {K:Params->PySem.W.Frag} (hn:l.most=some 63) (Lp:d.params.defaults=[])
  (hY: ∀(w:World) (h:Heap),YP w h->(K w.params).In h)
  (F: ∀(w:World) (mg:Str->Option Value) (fa:Addr) (h:Heap),(K w.params).In h->h.Ns mainGlobals mg->mg d.name=some (.ref fa)->
   ∃fd:FuncData,(∀(s:Shared) (u:Value),BindsTo s fd ⟨[u],[]⟩ [("_law_script",u)])/\ ∀base:Heap,(K w.params).In base->base.Ns mainGlobals mg->bE l.prog w (K w.params) mg base eK 31 fa fd ["_law_script"] (lB (K w.params))):
  PySem.W.WalkO q loose XP YP l.row.toRowW d [] (fun f vs=>PySem.call f vs):=
 L2.yg (n:=63) (k:=31) (x:="_law_script") (CX:=fun _=>eK) (sp:=fun w=>lB (K w.params)) hn (by decide) Lp ⟨rfl,by decide,by decide,rfl⟩ hY F (fun _ _ a ns hl _ hS=>⟨a,ns,rfl,hS,hl,fun _=>rfl⟩) fun _ _ _ _ _ z=>z
end My
namespace PySem.W.Fast
def tw10042721783411370811:=0
def tw10098406635204554755:=0
def tw10134801623022608104:=0
def tw10192744561889209487:=0
def tw10253696617086966395:=0
def tw10387862282658765709:=0
def tw10410431227595882850:=0
def tw10432802618255109344:=0
def tw10510706336646061235:=0
def tw10512202567540194077:=0
def tw10527160700237924329:=0
def tw10594158171414777087:=0
def tw10682621496463387461:=0
def tw10682810118439932107:=0
def tw10910965574626901507:=0
def tw11032834931924531702:=0
def tw11125531436782416364:=0
def tw11131725744162482314:=0
def tw11171192114106198413:=0
def tw11183885401980559273:=0
def tw11194439841671065765:=0
def tw11227280733531582325:=0
def tw11278326280606544557:=0
def tw11419142956592436540:=0
def tw11469078684992485278:=0
def tw11522962575303921198:=0
def tw11578458102687149432:=0
def tw11596975978708576906:=0
def tw11605258765448626994:=0
def tw11639618330813162274:=0
def tw11671534064077019008:=0
def tw11678909840810603237:=0
def tw11759625971062051894:=0
def tw11801083210122262440:=0
def tw11806443147603353102:=0
def tw11927384867145078035:=0
def tw11974025755996800250:=0
def tw12014330708000356755:=0
def tw12020702077594094833:=0
def tw12060790552540417473:=0
def tw12103458744475839889:=0
def tw12205958780576173476:=0
def tw12307653062607917462:=0
def tw12322974947208721305:=0
def tw12384345173763649207:=0
def tw12489616022163311578:=0
def tw12517865344412431342:=0
def tw12546952852924966124:=0
def tw12704491531685525825:=0
def tw1271798344040475765:=0
def tw12719532914700563909:=0
def tw12833958191193068289:=0
def tw12839689137284850721:=0
def tw12849143359660002933:=0
def tw12956442273421607283:=0
def tw12961122210084923647:=0
def tw13051341366452437558:=0
def tw1322577817915979877:=0
def tw13229536187002302625:=0
def tw13361302473297558361:=0
def tw13487238596570598376:=0
def tw13563229694444447960:=0
def tw1365798404382048725:=0
def tw1368337732501606394:=0
def tw13742724330337034751:=0
def tw13775357502047698162:=0
def tw13785745837446694278:=0
def tw13785778484856646364:=0
def tw13821981846985524680:=0
def tw13897328905180291012:=0
def tw13994226921897108298:=0
def tw14071684400379743301:=0
def tw14127224706338396226:=0
def tw14148234600273046126:=0
def tw14233530737119921324:=0
def tw1429885989414502915:=0
def tw14396877135691080594:=0
def tw14485571789083620778:=0
def tw14580229373248798643:=0
def tw14589750370016160781:=0
def tw14737325362393741880:=0
def tw14765728442647043936:=0
def tw1479173954085357042:=0
def tw14863916831964565754:=0
def tw14947014807630174356:=0
def tw14956714141449802240:=0
def tw15062028321191075613:=0
def tw1512334141377332800:=0
def tw15141728590761008148:=0
def tw15166750024919775059:=0
def tw15183878743247462183:=0
def tw15276510573270157546:=0
def tw15343807289994468367:=0
def tw15455420412559836427:=0
def tw15469334865834765060:=0
def tw15483025692841810082:=0
def tw15492952323153419934:=0
def tw15508187827263307200:=0
def tw15689643239299952580:=0
def tw15734065049383061779:=0
def tw15875543822977273549:=0
def tw15891241544418414960:=0
def tw15896785548542937097:=0
def tw15906811529585313326:=0
def tw15963661022040830235:=0
def tw15972261972043442377:=0
def tw16059544192341136816:=0
def tw16060580352920706539:=0
def tw16066770071983040682:=0
def tw16104318424581133370:=0
def tw16111891726805889358:=0
def tw16174230728301983818:=0
def tw16221639154193241619:=0
def tw16348626887758719980:=0
def tw16470402344364691813:=0
def tw16475600481836692254:=0
def tw1656975792222874509:=0
def tw1659109012913455678:=0
def tw16673427300797166310:=0
def tw16748752843644409642:=0
def tw16898542057164461687:=0
def tw17000232459380544545:=0
def tw17020979084796996316:=0
def tw17043455627987221521:=0
def tw17100768889142757696:=0
def tw17131309007796789826:=0
def tw17161092735297516508:=0
def tw17191208116967683635:=0
def tw17209683993697123199:=0
def tw17346060741161639845:=0
def tw17359859590529332506:=0
def tw17448503111519906317:=0
def tw174648812536083467:=0
def tw17573903696309318656:=0
def tw17642106835281891176:=0
def tw17720975871062852392:=0
def tw17773678000904060511:=0
def tw17813320951702908309:=0
def tw17889472994166176969:=0
def tw17899205775894674022:=0
def tw17978933077045090954:=0
def tw18012355629259999551:=0
def tw18068847704795876022:=0
def tw1811525567695063006:=0
def tw18125163615638438968:=0
def tw18134215028342082041:=0
def tw18174260764854731178:=0
def tw18275576974448411547:=0
def tw18317710183180416198:=0
def tw18400504075547546165:=0
def tw18412877017882556977:=0
def tw19464061056429236:=0
def tw2006346204736326195:=0
def tw2079135520263302591:=0
def tw2210212244588201426:=0
def tw2381080006169132286:=0
def tw2651359388679075741:=0
def tw2666063437899096037:=0
def tw2769757702563310256:=0
def tw2791170287834636529:=0
def tw2851724391879107878:=0
def tw2923246161851299343:=0
def tw2974275746843767477:=0
def tw3104807614159675538:=0
def tw3134102169507722507:=0
def tw3176963662562087973:=0
def tw3189108451765387668:=0
def tw3259376028145236369:=0
def tw3418062812403755435:=0
def tw3427765809444040538:=0
def tw3477477208188554493:=0
def tw3492511232239623524:=0
def tw3493269895051558338:=0
def tw35266294697611239:=0
def tw3528247431810682625:=0
def tw3567996774605011772:=0
def tw3666107858169924616:=0
def tw3714833150021173051:=0
def tw3767121702231823157:=0
def tw3824141746587093541:=0
def tw3842705710529596523:=0
def tw3874197770259138542:=0
def tw388616383102287811:=0
def tw3947996414329359467:=0
def tw4037067756423400890:=0
def tw4122223337930232868:=0
def tw419442558867545666:=0
def tw4238217739825555538:=0
def tw425080629174131237:=0
def tw4259322158272892662:=0
def tw4316099760175575795:=0
def tw4324098638059640216:=0
def tw4386872373364701182:=0
def tw4428432054778892787:=0
def tw4428749516065111907:=0
def tw4436883149977336544:=0
def tw4503461566320749773:=0
def tw4570117353076547020:=0
def tw4594653503922583349:=0
def tw4642724704628949108:=0
def tw4815215923289743058:=0
def tw4889630098898822565:=0
def tw4916005420742207223:=0
def tw4935233393171992460:=0
def tw5053805105506769278:=0
def tw5059525387781250754:=0
def tw5098672022485739026:=0
def tw5132922040838026594:=0
def tw5161662020482408256:=0
def tw54051393055691237:=0
def tw5440173801663713978:=0
def tw5442314752013600334:=0
def tw5451056109848933883:=0
def tw5464954380291527895:=0
def tw5467294261095495794:=0
def tw5474115482253858877:=0
def tw5504776636133898696:=0
def tw5531321373628211791:=0
def tw557143793496511174:=0
def tw5688354672191143281:=0
def tw5737472217107822969:=0
def tw578295311722780934:=0
def tw5791330259109166853:=0
def tw6016324111665641063:=0
def tw6045303700210263568:=0
def tw6130548002899661316:=0
def tw6172105701197797674:=0
def tw626099022654277875:=0
def tw6268445880376037313:=0
def tw6290627403699152745:=0
def tw6293421468867711809:=0
def tw6305664836242883611:=0
def tw64950540266023374:=0
def tw650417173618549322:=0
def tw6535978599640519298:=0
def tw6557177929881801873:=0
def tw6731001025746445227:=0
def tw6890917778122631086:=0
def tw694851496385950330:=0
def tw6951007989639700350:=0
def tw6978108845708706835:=0
def tw6999321154062527775:=0
def tw7060123820261237057:=0
def tw7067555524447050299:=0
def tw707755586241207800:=0
def tw7144450972349510920:=0
def tw7171880866698594047:=0
def tw729582107966125960:=0
def tw7380838397708304786:=0
def tw7402881672376212063:=0
def tw7433676921588078014:=0
def tw7476388618419867641:=0
def tw7527000366665866750:=0
def tw7543641891111833089:=0
def tw7590169114567225007:=0
def tw7659874961283522989:=0
def tw7671051294795807130:=0
def tw767203387894391524:=0
def tw7724776305178622107:=0
def tw7732146972546680768:=0
def tw7788580260131499530:=0
def tw7791903817766303533:=0
def tw780253216140033425:=0
def tw785877395194162275:=0
def tw7948299757210967295:=0
def tw7979497078902603948:=0
def tw7980457431398513277:=0
def tw8060461388599202714:=0
def tw8085547614733771170:=0
def tw8100791099084767340:=0
def tw8122861277297135637:=0
def tw8127857455152464045:=0
def tw8320852340159540132:=0
def tw8336842122534694131:=0
def tw8356165447418240482:=0
def tw8368954121278592492:=0
def tw839536223099846516:=0
def tw8443284110254166082:=0
def tw8505330119797895198:=0
def tw850972197989646752:=0
def tw8514375656469094323:=0
def tw8525176836214302099:=0
def tw8657572043505125091:=0
def tw8699589158333129247:=0
def tw8699624127438555187:=0
def tw8723291867036728904:=0
def tw87848904490299026:=0
def tw8948600756876842603:=0
def tw9095647766399282363:=0
def tw9117274055794565472:=0
def tw9135958427811550915:=0
def tw9145224797373488928:=0
def tw9313529654170047792:=0
def tw9378629017169949893:=0
def tw9384261939991383310:=0
def tw9534519215873595991:=0
def tw9535281324617422486:=0
def tw9577181495214772240:=0
def tw9639787904427748546:=0
def tw9686276743646135744:=0
def tw9728846124580945505:=0
def tw9801064881163303183:=0
def tw9817746399398626851:=0
def tw9927850933356054399:=0
def tw9942275749337940688:=0
end PySem.W.Fast
open PySem PySem.W PyProof.Rows
set_option maxRecDepth 100000 in
set_option maxHeartbeats 0 in
theorem PySem.Challenge.cw_mustmeet_k62_whole_programs_told_otherwi_holds : PySem.Challenge.rw_mustmeet_k62_whole_programs_told_otherwi.Holds := by
 w_on;o_law;k_head;(case hw=>w_witness2)
 k_fill
 refine My.walk (l:=PySem.Challenge.rw_mustmeet_k62_whole_programs_told_otherwi) rfl rfl (fun w h Y=>PySem.W.kIn_of Y) ?F
 case F=>
  intro w mg fa h KX G hmg
  refine' My.all_mk KX G hmg ?a0 ?l0 ?c0 ?k0 ?a1 ?l1 ?c1 ?k1 ?a2 ?l2 ?c2 ?k2 ?a3 ?l3 ?c3 ?k3 ?a4 ?l4 ?c4 ?k4 ?a5 ?l5 ?c5 ?k5 ?a6 ?l6 ?c6 ?k6 ?a7 ?l7 ?c7 ?k7 ?a8 ?l8 ?c8 ?k8 ?a9 ?l9 ?c9 ?k9 ?a10 ?l10 ?c10 ?k10 ?a11 ?l11 ?c11 ?k11 ?a12 ?l12 ?c12 ?k12 ?a13 ?l13 ?c13 ?k13 ?a14 ?l14 ?c14 ?k14 ?a15 ?l15 ?c15 ?k15 ?a16 ?l16 ?c16 ?k16 ?a17 ?l17 ?c17 ?k17 ?a18 ?l18 ?c18 ?k18 ?a19 ?l19 ?c19 ?k19 ?a20 ?l20 ?c20 ?k20 ?a21 ?l21 ?c21 ?k21 ?a22 ?l22 ?c22 ?k22 ?a23 ?l23 ?c23 ?k23 ?a24 ?l24 ?c24 ?k24 ?a25 ?l25 ?c25 ?k25 ?a27 ?l27 ?c27 ?k27 ?a28 ?l28 ?c28 ?k28 ?a29 ?l29 ?c29 ?k29 ?a30 ?l30 ?c30 ?k30 ?a31 ?l31 ?c31 ?k31 ?a32 ?l32 ?c32 ?k32 ?a33 ?l33 ?c33 ?k33 ?a34 ?l34 ?c34 ?k34 ?q_TooLong ?q_MeetError ?xis_TooLong ?xga_TooLong ?xgh_TooLong ?xsa_TooLong ?xcl_TooLong ?xcg_TooLong ?xct_TooLong ?xob_TooLong ?xkp_TooLong ?s_TooLong ?r_TooLong ?xis_MeetError ?xga_MeetError ?xgh_MeetError ?xsa_MeetError ?xcl_MeetError ?xcg_MeetError ?xct_MeetError ?xob_MeetError ?xkp_MeetError ?qi_TooLong ?fi_TooLong ?li_TooLong ?ci_TooLong ?ki_TooLong ?n_TooLong_name ?xbr ?xbg ?xbf ?qk_COUNTS ?lk_COUNTS ?ek_COUNTS ?sk_COUNTS ?qk_SIGNS ?lk_SIGNS ?ek_SIGNS ?sk_SIGNS ?g_LETTERS ?g_LONGEST_NAME ?g_SMALL ?g_LONGEST ?g_STROKE ?g_IS ?z_all ?z_enumerate ?z_int ?z_isinstance ?z_len ?z_list ?z_max ?z_min ?z_range ?z_reversed ?z_sorted ?z_str ?z_tuple ?z_zip
  (case a0=>k_is)
  (case l0=>k_is)
  (case c0=>k_is)
  (case k0=>k_is)
  (case a1=>k_is)
  (case l1=>k_is)
  (case c1=>k_is)
  (case k1=>k_is)
  (case a2=>k_is)
  (case l2=>k_is)
  (case c2=>k_is)
  (case k2=>k_is)
  (case a3=>k_is)
  (case l3=>k_is)
  (case c3=>k_is)
  (case k3=>k_is)
  (case a4=>k_is)
  (case l4=>k_is)
  (case c4=>k_is)
  (case k4=>k_is)
  (case a5=>k_is)
  (case l5=>k_is)
  (case c5=>k_is)
  (case k5=>k_is)
  (case a6=>k_is)
  (case l6=>k_is)
  (case c6=>k_is)
  (case k6=>k_is)
  (case a7=>k_is)
  (case l7=>k_is)
  (case c7=>k_is)
  (case k7=>k_is)
  (case a8=>k_is)
  (case l8=>k_is)
  (case c8=>k_is)
  (case k8=>k_is)
  (case a9=>k_is)
  (case l9=>k_is)
  (case c9=>k_is)
  (case k9=>k_is)
  (case a10=>k_is)
  (case l10=>k_is)
  (case c10=>k_is)
  (case k10=>k_is)
  (case a11=>k_is)
  (case l11=>k_is)
  (case c11=>k_is)
  (case k11=>k_is)
  (case a12=>k_is)
  (case l12=>k_is)
  (case c12=>k_is)
  (case k12=>k_is)
  (case a13=>k_is)
  (case l13=>k_is)
  (case c13=>k_is)
  (case k13=>k_is)
  (case a14=>k_is)
  (case l14=>k_is)
  (case c14=>k_is)
  (case k14=>k_is)
  (case a15=>k_is)
  (case l15=>k_is)
  (case c15=>k_is)
  (case k15=>k_is)
  (case a16=>k_is)
  (case l16=>k_is)
  (case c16=>k_is)
  (case k16=>k_is)
  (case a17=>k_is)
  (case l17=>k_is)
  (case c17=>k_is)
  (case k17=>k_is)
  (case a18=>k_is)
  (case l18=>k_is)
  (case c18=>k_is)
  (case k18=>k_is)
  (case a19=>k_is)
  (case l19=>k_is)
  (case c19=>k_is)
  (case k19=>k_is)
  (case a20=>k_is)
  (case l20=>k_is)
  (case c20=>k_is)
  (case k20=>k_is)
  (case a21=>k_is)
  (case l21=>k_is)
  (case c21=>k_is)
  (case k21=>k_is)
  (case a22=>k_is)
  (case l22=>k_is)
  (case c22=>k_is)
  (case k22=>k_is)
  (case a23=>k_is)
  (case l23=>k_is)
  (case c23=>k_is)
  (case k23=>k_is)
  (case a24=>k_is)
  (case l24=>k_is)
  (case c24=>k_is)
  (case k24=>k_is)
  (case a25=>k_is)
  (case l25=>k_is)
  (case c25=>k_is)
  (case k25=>k_is)
  (case a27=>k_is)
  (case l27=>k_is)
  (case c27=>k_is)
  (case k27=>k_is)
  (case a28=>k_is)
  (case l28=>k_is)
  (case c28=>k_is)
  (case k28=>k_is)
  (case a29=>k_is)
  (case l29=>k_is)
  (case c29=>k_is)
  (case k29=>k_is)
  (case a30=>k_is)
  (case l30=>k_is)
  (case c30=>k_is)
  (case k30=>k_is)
  (case a31=>k_is)
  (case l31=>k_is)
  (case c31=>k_is)
  (case k31=>k_is)
  (case a32=>k_is)
  (case l32=>k_is)
  (case c32=>k_is)
  (case k32=>k_is)
  (case a33=>k_is)
  (case l33=>k_is)
  (case c33=>k_is)
  (case k33=>k_is)
  (case a34=>k_is)
  (case l34=>k_is)
  (case c34=>k_is)
  (case k34=>k_is)
  (case q_TooLong=>k_is)
  (case q_MeetError=>k_is)
  (case xis_TooLong=>kernel_rfl)
  (case xga_TooLong=>k_is)
  (case xgh_TooLong=>k_is)
  (case xsa_TooLong=>k_is)
  (case xcl_TooLong=>k_is)
  (case xcg_TooLong=>k_is)
  (case xct_TooLong=>k_is)
  (case xob_TooLong=>k_is)
  (case xkp_TooLong=>k_is)
  (case s_TooLong=>k_is)
  (case r_TooLong=>k_is)
  (case xis_MeetError=>kernel_rfl)
  (case xga_MeetError=>k_is)
  (case xgh_MeetError=>k_is)
  (case xsa_MeetError=>k_is)
  (case xcl_MeetError=>k_is)
  (case xcg_MeetError=>k_is)
  (case xct_MeetError=>k_is)
  (case xob_MeetError=>k_is)
  (case xkp_MeetError=>k_is)
  (case qi_TooLong=>k_is)
  (case fi_TooLong=>k_is)
  (case li_TooLong=>k_is)
  (case ci_TooLong=>k_is)
  (case ki_TooLong=>k_is)
  (case n_TooLong_name=>k_is)
  (case xbr=>k_is)
  (case xbg=>k_is)
  (case xbf=>k_is)
  (case qk_COUNTS=>k_is)
  (case lk_COUNTS=>k_is)
  (case ek_COUNTS=>exact ⟨L2.ke_key (L2.S_lit (by decide+kernel)),L2.ke_int,L2.ke_key (L2.S_lit (by decide+kernel)),L2.ke_int,L2.ke_key (L2.S_lit (by decide+kernel)),L2.ke_int,L2.ke_key (L2.S_lit (by decide+kernel)),L2.ke_int,trivial⟩)
  (case sk_COUNTS=>rfl)
  (case qk_SIGNS=>k_is)
  (case lk_SIGNS=>k_is)
  (case ek_SIGNS=>exact ⟨L2.ke_key (L2.S_lit (by decide+kernel)),L2.ke_str (L2.S_lit (by decide+kernel)),L2.ke_key (L2.S_lit (by decide+kernel)),L2.ke_str (L2.S_lit (by decide+kernel)),trivial⟩)
  (case sk_SIGNS=>rfl)
  (case g_LETTERS=>k_is)
  (case g_LONGEST_NAME=>k_is)
  (case g_SMALL=>k_is)
  (case g_LONGEST=>k_is)
  (case g_STROKE=>k_is)
  (case g_IS=>k_is)
  (case z_all=>k_is)
  (case z_enumerate=>k_is)
  (case z_int=>k_is)
  (case z_isinstance=>k_is)
  (case z_len=>k_is)
  (case z_list=>k_is)
  (case z_max=>k_is)
  (case z_min=>k_is)
  (case z_range=>k_is)
  (case z_reversed=>k_is)
  (case z_sorted=>k_is)
  (case z_str=>k_is)
  (case z_tuple=>k_is)
  (case z_zip=>k_is)
