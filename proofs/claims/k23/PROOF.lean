import PyProof.Rows.All
import Wide.All
import OpenK.AllK
import Wide.FinOn
import Lean
import PyProof.EqAt
import PyProof.EqKinds
import PyProof.TupleCall
import PySem.Challenge.RW_mustmeet_k23_roads_from_drawing_to_drawi
set_option Elab.async false
set_option linter.all false
set_option maxRecDepth 100000
namespace L2
open PySem PySem.Spec PyProof.Rows
noncomputable abbrev Key:=Sum Int Str
noncomputable def oD:Key->Value->Bool
 | .inl k,v=>Value.isInt k v
 | .inr x,v=>Value.isStrOf x v
noncomputable def Ol (w:World):Key->Int
 | .inl k=>hashInt k
 | .inr x=>hashStr w x
theorem bQ: ∀{k:Key} {v:Value},oD k v=true->(∃i t,k=Sum.inl i/\v=Value.int i t)\/(∃x t,k=Sum.inr x/\v=Value.str x t)
 | .inl i,v,h=>by
  obtain ⟨t,e⟩:=Value.isInt_shape (k:=i) (v:=v) h
  exact .inl ⟨i,t,rfl,e⟩
 | .inr x,v,h=>by
  obtain ⟨t,e⟩:=Value.isStrOf_shape (x:=x) (v:=v) h
  exact .inr ⟨x,t,rfl,e⟩
theorem wV (i:Int) (t:Tok):oD (.inl i) (.int i t)=true:=by simp[oD,Value.isInt]
theorem wW (x:Str) (t:Tok):oD (.inr x) (.str x t)=true:=by simp[oD,Value.isStrOf]
theorem Fi (a b:Int):decide ((Sum.inl a:Key)=Sum.inl b)=(a==b):=by
 by_cases e:a=b
 ·subst e;simp
 ·have h: ¬(Sum.inl a:Key)=Sum.inl b:=fun q=>e (Sum.inl.inj q)
  rw[decide_eq_false h]
  exact (beq_eq_false_iff_ne.mpr e).symm
theorem Fj (a b:Str):decide ((Sum.inr a:Key)=Sum.inr b)=decide (a=b):=by
 by_cases e:a=b
 ·subst e;simp
 ·have h: ¬(Sum.inr a:Key)=Sum.inr b:=fun q=>e (Sum.inr.inj q)
  rw[decide_eq_false h,decide_eq_false e]
theorem Fl (a:Int) (b:Str):decide ((Sum.inl a:Key)=Sum.inr b)=false:=decide_eq_false (fun q=>nomatch q)
theorem Fm (a:Str) (b:Int):decide ((Sum.inr a:Key)=Sum.inl b)=false:=decide_eq_false (fun q=>nomatch q)
noncomputable def bJ (prog:Program) (w:World):PySem.KeyKind prog w Key where
 is:=oD
 hash:=Ol w
 inj:=fun v a b ha hb=>by
  rcases bQ ha with ⟨i,t,rfl,rfl⟩ | ⟨x,t,rfl,rfl⟩
  ·rcases bQ hb with ⟨j,u,rfl,e⟩ | ⟨y,u,rfl,e⟩
   ·injection e with e1 _;rw[e1]
   ·exact nomatch e
  ·rcases bQ hb with ⟨j,u,rfl,e⟩ | ⟨y,u,rfl,e⟩
   ·exact nomatch e
   ·injection e with e1 _;rw[e1]
 byValue:=fun k v h=>by
  rcases bQ h with ⟨i,t,rfl,rfl⟩ | ⟨x,t,rfl,rfl⟩<;>rfl
 pyHash:=fun hv h=>by
  rcases bQ hv with ⟨i,t,rfl,rfl⟩ | ⟨x,t,rfl,rfl⟩
  ·exact wpAny_pyHash_int h
  ·exact wpAny_pyHash_str h
 eqBool:=fun hu hv h=>by
  rcases bQ hu with ⟨i,t,rfl,rfl⟩ | ⟨x,t,rfl,rfl⟩
  ·rcases bQ hv with ⟨j,u,rfl,rfl⟩ | ⟨y,u,rfl,rfl⟩
   ·rw[Fi]at h;exact wpAny_eqBool_int h
   ·rw[Fl]at h;exact SeqAt.EqAt.int_str i t y u _ _ _ _ h
  ·rcases bQ hv with ⟨j,u,rfl,rfl⟩ | ⟨y,u,rfl,rfl⟩
   ·rw[Fm]at h;exact SeqAt.EqAt.str_int x t j u _ _ _ _ h
   ·rw[Fj]at h;exact wpAny_eqBool_str h
 «strs» :=fun k x t v h=>by
  rcases bQ h with ⟨i,u,rfl,e⟩ | ⟨y,u,rfl,e⟩
  ·exact nomatch e
  ·injection e with e1 _
   subst e1
   cases v<;>rfl
theorem rh (prog:Program) (w:World) (i:Int) (t:Tok):(bJ prog w).is (.inl i) (.int i t)=true:=wV i t
theorem rj (prog:Program) (w:World) (x:Str) (t:Tok):(bJ prog w).is (.inr x) (.str x t)=true:=wW x t
end L2
namespace L2
open PySem PySem.Spec PyProof.Rows
inductive V where
 | cy | bl (b:Bool) | int (i:Int) | str (x:Str) | wX (b:Array UInt8) | BF (b:UInt64) | ref (a:Addr) | ty (n:String)
 deriving DecidableEq
noncomputable def RelV:V->Value->Prop
 | .cy,u=>u=Value.none
 | .bl b,u=>u=Value.bool b
 | .int i,u=> ∃t,u=Value.int i t
 | .str x,u=> ∃t,u=Value.str x t
 | .wX b,u=> ∃t,u=Value.bytes b t
 | .BF b,u=> ∃t,u=Value.float b t
 | .ref a,u=>u=Value.ref a
 | .ty n,u=>u=Value.type n
noncomputable abbrev Vals:List V->List Value->Prop:=Paired RelV
theorem Vals.length {xs:List V} {us:List Value} (r:Vals xs us):xs.length=us.length:=Paired.length r
theorem Vals.get: ∀{xs:List V} {us:List Value} {i:Nat} {x:V},Vals xs us->xs[i]? =some x-> ∃u,us[i]? =some u/\RelV x u
 | _,_,_,_, .nil,e=>by simp at e
 | _,_,0,_, .cons r _,e=>by simp at e;subst e;exact ⟨_,rfl,r⟩
 | _,_,i+1,x, .cons _ t,e=>by
  obtain ⟨u,h1,h2⟩:=Vals.get (i:=i) (x:=x) t (by simpa using e)
  exact ⟨u,by simpa using h1,h2⟩
theorem Vals.set {x:V} {u:Value} (r:RelV x u): ∀{xs:List V} {us:List Value} (i:Nat),Vals xs us->Vals (xs.set i x) (us.set i u)
 | _,_,_, .nil=> .nil
 | _,_,0, .cons _ t=> .cons r t
 | _,_,i+1, .cons q t=> .cons q (Vals.set r i t)
theorem Vals.append: ∀{xs ys:List V} {us ws:List Value},Vals xs us->Vals ys ws->Vals (xs++ys) (us++ws)
 | _,_,_,_, .nil,s=>s
 | _,_,_,_, .cons r t,s=> .cons r (Vals.append t s)
theorem Vals.take: ∀{xs:List V} {us:List Value} (n:Nat),Vals xs us->Vals (xs.take n) (us.take n)
 | _,_,0,_=> .nil
 | _,_,_+1, .nil=> .nil
 | _,_,n+1, .cons r t=> .cons r (Vals.take n t)
theorem Vals.drop: ∀{xs:List V} {us:List Value} (n:Nat),Vals xs us->Vals (xs.drop n) (us.drop n)
 | _,_,0,r=>r
 | _,_,_+1, .nil=> .nil
 | _,_,n+1, .cons _ t=>Vals.drop n t
noncomputable def lN:Option V->Option Value->Prop
 | some v,some u=>RelV v u
 | none,none=>True
 | _,_=>False
noncomputable def KV {κ:Type}:List (κ×V)->List (κ×Value)->Prop:=Paired fun (p:κ×V) (q:κ×Value)=>p.1=q.1/\RelV p.2 q.2
noncomputable def kV:Key->V
 | .inl i=> .int i
 | .inr x=> .str x
inductive HO where
  | lst (xs:List V)
  | tup (xs:List V)
  | dK (kvs:List (Key×V)) | dT (kvs:List (List Key×V))
  | set (S:Int->Bool) (n:Nat)
  | ins (C dx:Addr) (fs:List (Str×V))
  | own (x:Addr)
  | xd (fs:List (Str×V))
  | met (f x:Addr)
  | Om (lo hi:Int)
  | vI (o:Obj) (u:HO)
  | Fn (ps:Array Value)
  | ext (φ:Heap->Prop)
noncomputable abbrev Hp:=Addr->Option HO
noncomputable def upd (H:Hp) (a:Addr) (o:HO):Hp:=fun b=>if b=a then some o else H b
theorem ae {H:Hp} {a:Addr} {o:HO}:upd H a o a=some o:=by unfold upd;rw[if_pos rfl]
theorem aj {H:Hp} {a b:Addr} {o:HO} (h:b≠a):upd H a o b=H b:=by unfold upd;rw[if_neg h]
theorem pV {H:Hp} {a:Addr} {o u:HO}:upd (upd H a o) a u=upd H a u:=by
 funext b;unfold upd;split<;>rfl
theorem Jn {H:Hp} {a b:Addr} {o u:HO} (h:H a=some o) (h':H b=some u) (d:o≠u):a≠b:=by
 intro e;subst e;rw[h]at h';exact d (Option.some.inj h')
theorem aq {H:Hp} {a b:Addr} {o:HO} (h:H a=some o) (h':H b=none):a≠b:=by
 intro e;subst e;rw[h]at h';cases h'
section
variable (P:Program) (w:World)
noncomputable def cb (H:Hp) (h:Heap) (a:Addr):HO->Prop
 | .lst xs=>xs.length<=sizeLine/\ ∃(az:List Value) (n:Nat),Vals xs az/\h.get? a=some { cls:= .type "list",data:= .seq az.toArray n }
 | .tup xs=>xs.length<=sizeLine/\ ∃az:List Value,Vals xs az/\IsTup h a az.toArray
 | .dK kvs=>kvs.length<=sizeLine/\(a==sysModules)=false/\ ∃vs,KV kvs vs/\h.DictOf (bJ P w) a vs
 | .dT kvs=>kvs.length<=sizeLine/\(a==sysModules)=false/\ ∃xs:List (List Key×Addr×Value),
   Paired (fun (p:List Key×V) (q:List Key×Addr×Value)=>p.1=q.1/\H q.2.1=some (.tup (p.1.map kV))/\RelV p.2 q.2.2) kvs xs/\
   ∃o es ep,h.get? a=some o/\o.ExactDict/\o.data= .dict es ep/\es.toList=xs.map (entryOfKey (tupleKind (bJ P w)))/\(xs.map (·.1)).Nodup
 | .set S n=>h.SetOf (intKind P w) a S n
 | .ins C dx fs=>H dx=some (.own a)/\fs.length<=1000/\dx≠a/\h.get? a=some (PySem.W.instObj C dx)/\
   ∃mA,h.Ns1 dx mA/\(∀f,lN (fs.lookup f) (mA f))/\PySem.Within mA (fs.map (·.1))
 | .own _=> ∃o,h.get? a=some o
 | .xd fs=> ∃mA,h.Ns1 a mA/\ ∀f,lN (fs.lookup f) (mA f)
 | .Om lo hi=> ∃t u v,h.get? a=some { cls:= .type "range",data:= .fields #[.int lo t, .int hi u, .int 1 v] }
 | .vI o u=>h.get? a=some o/\cb H h a u
 | .Fn ps=>h.get? a=some { cls:= .none,data:= .fields ps }
 | .met f x=>h.get? a=some (PySem.W.methodObj (.ref f) (.ref x))
 | .ext φ=>φ h/\(∃o,h.get? a=some o)/\ ∀h1 h2:Heap,φ h1->(∀o,h1.get? a=some o->h2.get? a=some o)->φ h2
noncomputable def jm (H:Hp) (h:Heap):Prop:= ∀a o,H a=some o->cb P w H h a o
end
section
variable {P:Program} {w:World} {H H':Hp} {h h':Heap} {a:Addr} {o:HO}
theorem cb.lt (x:cb P w H h a o):a<h.objs.size:=by
 cases o with
 | lst xs=>obtain ⟨_,_,_,_,e⟩:=x;exact Heap.lt_size e
 | tup xs=>obtain ⟨_,_,_,p⟩:=x;exact p.lt
 | dK kvs=>obtain ⟨_,_,_,_,o,_,_,e,_⟩:=x;exact Heap.lt_size e
 | dT kvs=>obtain ⟨_,_,_,_,o,_,_,e,_⟩:=x;exact Heap.lt_size e
 | set S n=>obtain ⟨o,_,_,_,e,_⟩:=x;exact Heap.lt_size e
 | ins C dx fs=>obtain ⟨_,_,_,e,_⟩:=x;exact Heap.lt_size e
 | own y=>obtain ⟨_,e⟩:=x;exact Heap.lt_size e
 | xd fs=>obtain ⟨_,⟨_,_,_,e,_⟩,_⟩:=x;exact Heap.lt_size e
 | Om lo hi=>obtain ⟨_,_,_,e⟩:=x;exact Heap.lt_size e
 | vI ob u=>obtain ⟨e,_⟩:=x;exact Heap.lt_size e
 | Fn ps=>exact Heap.lt_size (show h.get? a=some _ from x)
 | met f y=>exact Heap.lt_size (show h.get? a=some _ from x)
 | ext φ=>obtain ⟨_,⟨_,e⟩,_⟩:=x;exact Heap.lt_size e
theorem Paired.Fo {α β:Type} {F G:α->β->Prop}: ∀{l₁:List α} {l₂:List β},Paired F l₁ l₂->(∀a b,F a b->G a b)->Paired G l₁ l₂
 | _,_, .nil,_=> .nil
 | _,_, .cons r t,f=> .cons (f _ _ r) (Paired.Fo t f)
theorem cb.rl (x:cb P w H h a o) (k: ∀b u,(b=a\/H b=some (.own a))->h.get? b=some u->h'.get? b=some u)
  (ho: ∀b,H b=some (.own a)->H' b=some (.own a)) (ht: ∀b xs,H b=some (.tup xs)->H' b=some (.tup xs)):cb P w H' h' a o:=by
 induction o with
 | lst xs=>obtain ⟨z,az,n,r,e⟩:=x;exact ⟨z,az,n,r,k _ _ (.inl rfl) e⟩
 | tup xs=>obtain ⟨z,az,r,ob,e,c⟩:=x;exact ⟨z,az,r,ob,k _ _ (.inl rfl) e,c⟩
 | dK kvs=>obtain ⟨z,y,vs,r,ob,es,ep,e,c⟩:=x;exact ⟨z,y,vs,r,ob,es,ep,k _ _ (.inl rfl) e,c⟩
 | dT kvs=>
  obtain ⟨z,y,xs,r,ob,es,ep,e,c⟩:=x
  exact ⟨z,y,xs,Paired.Fo r fun p q z=>⟨z.1,ht _ _ z.2.1,z.2.2⟩,ob,es,ep,k _ _ (.inl rfl) e,c⟩
 | set S n=>obtain ⟨ob,es,ep,t,e,c⟩:=x;exact ⟨ob,es,ep,t,k _ _ (.inl rfl) e,c⟩
 | ins C dx fs=>
  obtain ⟨d,z,ne,e,mA,⟨od,es,ep,e2,c⟩,r⟩:=x
  exact ⟨ho _ d,z,ne,k _ _ (.inl rfl) e,mA,⟨od,es,ep,k _ _ (.inr d) e2,c⟩,r⟩
 | own y=>obtain ⟨ob,e⟩:=x;exact ⟨ob,k _ _ (.inl rfl) e⟩
 | xd fs=>obtain ⟨mA,⟨od,es,ep,e,c⟩,r⟩:=x;exact ⟨mA,⟨od,es,ep,k _ _ (.inl rfl) e,c⟩,r⟩
 | Om lo hi=>obtain ⟨t,u,v,e⟩:=x;exact ⟨t,u,v,k _ _ (.inl rfl) e⟩
 | vI ob u ih=>obtain ⟨e,q⟩:=x;exact ⟨k _ _ (.inl rfl) e,ih q⟩
 | Fn ps=>
  have e:h.get? a=some { cls:= .none,data:= .fields ps }:=x
  show h'.get? a=some { cls:= .none,data:= .fields ps }
  exact k a _ (.inl rfl) e
 | met f y=>
  have e:h.get? a=some (PySem.W.methodObj (.ref f) (.ref y)):=x
  show h'.get? a=some (PySem.W.methodObj (.ref f) (.ref y))
  exact k a _ (.inl rfl) e
 | ext φ=>obtain ⟨p,⟨o,e⟩,st⟩:=x;exact ⟨st _ _ p fun o q=>k _ _ (.inl rfl) q,⟨o,k _ _ (.inl rfl) e⟩,st⟩
theorem jm.lt (x:jm P w H h) (e:H a=some o):a<h.objs.size:=(x a o e).lt
theorem jm.fresh (x:jm P w H h) (e:h.objs.size<=a):H a=none:=by
 cases q:H a with
 | none=>rfl
 | some u=>exact absurd (Nat.lt_of_lt_of_le (x.lt q) e) (Nat.lt_irrefl _)
theorem jm.kept (x:jm P w H h) (k: ∀b u,h.get? b=some u->h'.get? b=some u):jm P w H h':=fun a o e=>
 (x a o e).rl (fun b u _ q=>k b u q) (fun _ q=>q) fun _ _ q=>q
theorem jm.laid (x:jm P w H h) (k: ∀b u,h.get? b=some u->h'.get? b=some u) (hp:h.objs.size<=a) (new:cb P w (upd H a o) h' a o):jm P w (upd H a o) h':=fun b u e=>by
 have hn:=x.fresh hp
 by_cases hb:b=a
 ·subst hb;rw[ae]at e;cases e;exact new
 ·rw[aj hb]at e
  exact (x b u e).rl (fun c v _ q=>k c v q) (fun c q=>by rw[aj (aq q hn)];exact q) fun c xs q=>by rw[aj (aq q hn)];exact q
end
noncomputable def Rd (H:Hp) (a:Addr) (u:HO):Prop:=H a=some u\/ ∃o,H a=some (.vI o u)
theorem Rd.ok {P:Program} {w:World} {H:Hp} {h:Heap} {a:Addr} {u:HO} (r:Rd H a u) (x:jm P w H h):cb P w H h a u:=by
 rcases r with r | ⟨o,r⟩
 ·exact x a u r
 ·obtain ⟨_,q⟩:=x a _ r
  exact q
noncomputable def Jo:Option HO->Prop
 | some (.lst _)=>True
 | some (.dK _)=>True
 | some (.dT _)=>True
 | some (.set _ _)=>True
 | some (.ins _ _ _)=>True
 | some (.ext _)=>True
 | _=>False
section
variable {P:Program} {w:World} {H:Hp} {h h':Heap} {x e:Addr} {o':HO}
theorem jm.write (ok:jm P w H h) (mu:Jo (H x)) (he:e=x\/H e=some (.own x)) (k: ∀b u,b≠e->h.get? b=some u->h'.get? b=some u) (Im: ∃u,h'.get? e=some u)
  (new:cb P w (upd H x o') h' x o'):jm P w (upd H x o') h':=fun b u q=>by
 have Jp: ∀c y,H c=some (.own y)->c≠x:=fun c y r z=>by subst z;rw[r]at mu;exact mu
 have Oo: ∀c xs,H c=some (.tup xs)->c≠x:=fun c xs r z=>by subst z;rw[r]at mu;exact mu
 by_cases hb:b=x
 ·subst hb;rw[ae]at q;cases q;exact new
 ·rw[aj hb]at q
  by_cases yP:b=e
  ·have q':H b=some (.own x):=by
    rcases he with z | z
    ·exact absurd (yP.trans z) hb
    ·rw[yP];exact z
   rw[q]at q';cases q'
   obtain ⟨v,hv⟩:=Im
   exact ⟨v,by rw[yP];exact hv⟩
  ·refine (ok b u q).rl (fun c v hc r=>k c v ?_ r) (fun c r=>by rw[aj (Jp c b r)];exact r) fun c xs r=>by rw[aj (Oo c xs r)];exact r
   rcases hc with rfl | hc
   ·exact yP
   ·rintro rfl
    rcases he with z | z
    ·exact Jp c b hc z
    ·rw[hc]at z;cases z;exact hb rfl
end
structure Un (fs ex:List Addr) (H H':Hp) (h h':Heap):Prop where
 keep: ∀b o,h.get? b=some o->H b=none->b∉fs->b∉ex->h'.get? b=some o
 slot: ∀b o,h.get? b=some o->H b=none->b∈fs->b∉ex-> ∃sl,h'.get? b=some { o with slots:=sl }
 free: ∀b o,h.get? b=some o->H b=none->b∉ex->H' b=none
 there: ∀b o,h.get? b=some o->b∉ex-> ∃o',h'.get? b=some o'
 nU: ∀b xs,H b=some (.tup xs)->H' b=some (.tup xs)
 lO: ∀b o u,H b=some (.vI o u)->H' b=some (.vI o u)
 pW: ∀b ps,H b=some (.Fn ps)-> ∃more,H' b=some (.Fn (ps++more))
section
variable {fs XH ex ex':List Addr} {H H1 H2:Hp} {h h1 h2 h':Heap} {a x e:Addr} {o:HO}
theorem Un.any (u:Un fs ex H H1 h h1) {b:Addr} {ob:Obj} (q:h.get? b=some ob) (n:H b=none) (hx:b∉ex): ∃sl,h1.get? b=some { ob with slots:=sl }:=by
 by_cases hb:b∈fs
 ·exact u.slot b ob q n hb hx
 ·exact ⟨ob.slots,u.keep b ob q n hb hx⟩
theorem Un.kept (k: ∀b u,h.get? b=some u->h'.get? b=some u):Un fs ex H H h h':=
 ⟨fun b ob q _ _ _=>k b ob q,fun b ob q _ _ _=>⟨ob.slots,k b ob q⟩,fun _ _ _ n _=>n,fun b ob q _=>⟨ob,k b ob q⟩,fun _ _ q=>q,fun _ _ _ q=>q,fun _ ps q=>⟨#[],by rw[q];simp⟩⟩
theorem Un.refl:Un fs ex H H h h:=Un.kept fun _ _ q=>q
theorem Un.laid (k: ∀b u,h.get? b=some u->h'.get? b=some u) (hp:h.objs.size<=a) (hn:H a=none):Un fs ex H (upd H a o) h h' where
 keep:=fun b u q _ _ _=>k b u q
 slot:=fun b u q _ _ _=>⟨u.slots,k b u q⟩
 free:=fun b u q n _=>by rw[aj (Nat.ne_of_lt (Nat.lt_of_lt_of_le (Heap.lt_size q) hp))];exact n
 there:=fun b u q _=>⟨u,k b u q⟩
 nU:=fun b xs q=>by rw[aj (aq q hn)];exact q
 lO:=fun b u xs q=>by rw[aj (aq q hn)];exact q
 pW:=fun b ps q=>⟨#[],by rw[aj (aq q hn),q];simp⟩
theorem Un.write (mu:Jo (H x)) (he:e=x\/H e=some (.own x)) (k: ∀b u,b≠e->h.get? b=some u->h'.get? b=some u) (Im: ∃u,h'.get? e=some u):Un fs ex H (upd H x o) h h':=by
 have hx: ∀b,H b=none->b≠x:=fun b n z=>by subst z;rw[n]at mu;exact mu
 have hb: ∀b,H b=none->b≠e:=fun b n z=>by
  subst z
  rcases he with r | r
  ·exact hx b n r
  ·rw[n]at r;cases r
 have hm: ∀b u,H b=some u-> ¬Jo (some u)->b≠x:=fun b u q nm z=>by subst z;rw[q]at mu;exact nm mu
 refine ⟨fun b u q n _ _=>k b u (hb b n) q,fun b u q n _ _=>⟨u.slots,k b u (hb b n) q⟩,fun b u q n _=>by rw[aj (hx b n)];exact n,fun b u q _=>?_,
  fun b xs q=>by rw[aj (hm b _ q fun z=>z)];exact q,fun b u xs q=>by rw[aj (hm b _ q fun z=>z)];exact q,fun b ps q=>⟨#[],by rw[aj (hm b _ q fun z=>z),q];simp⟩⟩
 by_cases yP:b=e
 ·subst yP;exact Im
 ·exact ⟨u,k b u yP q⟩
end
noncomputable def MA (h:Heap) (H:Hp):List Addr:=(List.range h.objs.size).filter fun a=>(H a).isSome
noncomputable def pX (h:Heap) (H:Hp):Heap:=PySem.W.hideAll h (MA h H)
theorem wY (h:Heap) (H:Hp):(pX h H).objs.size=h.objs.size:=PySem.W.hideAll_size _ _
theorem zj {h:Heap} {H:Hp} {b:Addr} {o:Obj} (e:h.get? b=some o) (n:H b=none):(pX h H).get? b=some o:=
 PySem.W.hideAll_get _ e fun hm=>by
  have q:(H b).isSome=true:=(List.mem_filter.mp hm).2
  rw[n]at q;simp at q
theorem B4 {h:Heap} {H:Hp} {b:Addr} {o:Obj} (e:(pX h H).get? b=some o):h.get? b=some o/\H b=none:=by
 have e':h.get? b=some o:=PySem.W.of_hideAll (MA h H) e
 refine ⟨e',?_⟩
 cases q:H b with
 | none=>rfl
 | some x=>
  have hm:b∈MA h H:=List.mem_filter.mpr ⟨List.mem_range.mpr (Heap.lt_size e'),by simp[q]⟩
  have z:(pX h H).get? b=none:=PySem.W.hideAll_none (MA h H) hm
  rw[z]at e;cases e
noncomputable def B5 (g h:Heap) (L:Addr):List (Addr×Obj):=(List.range h.objs.size).filterMap fun a=>if a=L\/(g.get? a).isSome=true then none else (h.get? a).map fun o=>(a,o)
noncomputable def rest (g h:Heap) (L d:Addr):List (Addr×Obj):=(B5 g h L).filter fun p=>decide (p.1≠d)
end L2
namespace L2
open PySem PySem.Spec PyProof.Rows
structure Mod (K:PySem.W.Frag) (mg:Str->Option Value) (base:Heap):Prop where
 Oq:K.In base
 glob:base.Ns mainGlobals mg
 blt: ∃mb,base.Ns builtinsNs mb/\ ∀x:Str,x≠"__name__"->mb x=bootBuiltins x
 nolimit:base.NoLimit
structure Cx where
 prog:Program
 w:World
 K:PySem.W.Frag
 mg:Str->Option Value
 base:Heap
 A:Around
 N:List Str
 s₀:Shared
 H₀:Hp
 env:Env
 outer:List Env
 stack:List Env
 ex:List Addr
 fn:Str->Bool
 calm:Bool
 pn:List (Addr×Obj)
 xe:Value->Shared->Prop
noncomputable def vJ (l:List Env):List Addr:=l.filterMap (·.frame)
noncomputable abbrev Cx.fs (X:Cx):List Addr:=vJ X.outer
noncomputable def Jq (sc:Scope) (x:Str):Prop:=sc.names.lookup x=some .local\/sc.names.lookup x=some .cell\/sc.names.lookup x=some .free
noncomputable def Loc (sc:Scope) (x:Str):Prop:=sc.names.lookup x=some .local\/sc.names.lookup x=some .cell
noncomputable def Look (env:Env) (h:Heap) (m:Str->Option Value) (x:Str) (u:Value):Prop:=
 (env.kindOf x=some .local/\m x=some u)\/((env.kindOf x=some .cell\/env.kindOf x=some .free)/\ ∃c,env.cells.lookup x=some c/\h.IsCell c (some u))
structure Cx.Ok (X:Cx):Prop where
 mod:Mod X.K X.mg X.base
 kind:X.env.scope.kind= .function
 glob:X.env.globals=mainGlobals
 blt:X.env.builtins=builtinsNs
 above:X.s₀.heap.objs.size<=X.env.locals
 inj: ∀x y c,X.env.cells.lookup x=some c->X.env.cells.lookup y=some c->x=y
 has: ∀x,(X.env.kindOf x=some .cell\/X.env.kindOf x=some .free)-> ∃c,X.env.cells.lookup x=some c
 Jr: ∀x c,X.fn x=true->X.env.cells.lookup x=some c->X.s₀.heap.objs.size<=c
 hd:X.calm=true->X.A.handled=none
 frames:X.A.frames=some X.stack
 MB:X.stack=X.outer\/(X.stack=X.env::X.outer/\X.env.frame=some X.env.locals)
 VB: ∀b∈X.ex,b≠X.env.locals/\ ∀x c,X.env.cells.lookup x=some c->c≠b
 bs: ∀b o,X.base.get? b=some o->X.s₀.heap.get? b=some o/\X.H₀ b=none
 D8:X.base.objs.size<=X.s₀.heap.objs.size
 zk: ∀b o,X.base.get? b=some o->b∉X.ex
 B6: ∀b∈X.ex,b∉X.fs
 lP:X.s₀.heap.FunFrames X.base X.outer
 Io: ∀b∈X.fs,X.H₀ b=none
structure Inv (X:Cx) (pins:List (Addr×Obj)) (σ:List (Option V)) (H:Hp) (s:Shared):Prop where
 ok:X.Ok
 os:s.os=X.s₀.os
 bare:AllBare s.gens
 base:Un X.fs X.ex X.H₀ H X.s₀.heap s.heap
 loc: ∃m,s.heap.Ns X.env.locals m/\ ∀(i:Nat) (x:Str) (v:V),X.N[i]? =some x->σ[i]? =some (some v)->Jq X.env.scope x-> ∃u,RelV v u/\Look X.env s.heap m x u
 cell: ∀x c,X.env.cells.lookup x=some c-> ∃v,s.heap.IsCell c v
 free:H X.env.locals=none
 ia: ∀x c,X.env.cells.lookup x=some c->H c=none
 pin: ∀p∈X.pn++pins,s.heap.get? p.1=some p.2/\H p.1=none/\p.1≠X.env.locals/\p.1∉X.fs/\ ∀v,p.2.data≠ .cell v
 bq:jm X.prog X.w H s.heap
 len:σ.length=X.N.length
section
variable {X:Cx} {pins:List (Addr×Obj)} {σ:List (Option V)} {H H':Hp} {s:Shared} {h':Heap}
theorem Cx.Ok.Ot (ok:X.Ok) {b:Addr} {o:Obj} (e:X.base.get? b=some o):b∉X.fs:=fun hb=>by
 have:=(ok.lP.mem hb).1
 rw[e]at this;cases this
theorem Inv.bs (I:Inv X pins σ H s): ∀b o,X.base.get? b=some o->s.heap.get? b=some o/\H b=none:=fun b o e=>
 ⟨I.base.keep b o (I.ok.bs b o e).1 (I.ok.bs b o e).2 (I.ok.Ot e) (I.ok.zk b o e),I.base.free b o (I.ok.bs b o e).1 (I.ok.bs b o e).2 (I.ok.zk b o e)⟩
theorem Inv.bk (I:Inv X pins σ H s): ∀b o,X.base.get? b=some o->s.heap.get? b=some o:=fun b o e=>(I.bs b o e).1
theorem Inv.mod (I:Inv X pins σ H s):Mod X.K X.mg X.base:=I.ok.mod
theorem Inv.rn (I:Inv X pins σ H s):X.K.In s.heap:=I.ok.mod.Oq.keeps I.bk
theorem Inv.lt (I:Inv X pins σ H s):X.env.locals<s.heap.objs.size:=let ⟨_,hn,_⟩:=I.loc;hn.lt
theorem Inv.sz (I:Inv X pins σ H s):X.s₀.heap.objs.size<=s.heap.objs.size:=Nat.le_trans I.ok.above (Nat.le_of_lt I.lt)
theorem Inv.Fp (I:Inv X pins σ H s) {a:Addr} (h:s.heap.objs.size<=a):a∉X.fs:=fun hb=>by
 obtain ⟨_,o,ho,_⟩:=I.ok.lP.mem hb
 exact absurd (Nat.lt_of_lt_of_le (Heap.lt_size ho) (Nat.le_trans I.sz h)) (Nat.lt_irrefl _)
theorem Inv.Fq (I:Inv X pins σ H s): ∀x c,X.env.cells.lookup x=some c->c≠X.env.locals:=fun x c e z=>by
 obtain ⟨v,o,ho,hd⟩:=I.cell x c e
 obtain ⟨m,⟨o',es,ep,gG,XI,_⟩,_⟩:=I.loc
 rw[z,gG]at ho;cases ho;rw[XI]at hd;cases hd
theorem Inv.lP (I:Inv X pins σ H s):s.heap.FunFrames X.base X.outer:=by
 have all: ∀(l:List Env),(∀b∈vJ l,b∈X.fs)->X.s₀.heap.FunFrames X.base l->s.heap.FunFrames X.base l:=by
  intro l
  induction l with
  | nil=>intro _ _;trivial
  | cons env r ih=>
   intro hs hl
   obtain ⟨hk,⟨L,o,hf,hn,ho,hd⟩,hr⟩:=hl
   have hL:L∈X.fs:=hs L (by unfold vJ;rw[List.filterMap_cons,hf];exact List.mem_cons_self)
   obtain ⟨sl,e⟩:=I.base.slot L o ho (I.ok.Io L hL) hL fun z=>I.ok.B6 L z hL
   exact ⟨hk,⟨L,_,hf,hn,e,hd⟩,ih (fun b hb=>hs b (by unfold vJ;rw[List.filterMap_cons,hf];exact List.mem_cons_of_mem _ hb)) hr⟩
 exact all X.outer (fun _ hb=>hb) I.ok.lP
theorem Inv.stack (I:Inv X pins σ H s):s.heap.FunFrames X.base X.stack:=by
 rcases I.ok.MB with e | ⟨e,hf⟩
 ·rw[e];exact I.lP
 ·rw[e]
  obtain ⟨m,hn,_⟩:=I.loc
  refine .cons (by rw[I.ok.kind];decide) hf hn ?_ I.lP
  exact Heap.get?_none_of_le (Nat.le_trans I.ok.D8 I.ok.above)
theorem Inv.lQ (I:Inv X pins σ H s): ∀b∈vJ X.stack,b∈X.env.locals::X.fs:=fun b hb=>by
 rcases I.ok.MB with e | ⟨e,hf⟩
 ·rw[e]at hb;exact List.mem_cons_of_mem _ hb
 ·rw[e]at hb
  unfold vJ at hb
  rw[List.filterMap_cons,hf]at hb
  exact hb
theorem Inv.vK (I:Inv X pins σ H s): ∀b∈vJ X.stack,H b=none:=fun b hb=>by
 rcases List.mem_cons.mp (I.lQ b hb) with e | hb
 ·rw[e];exact I.free
 ·obtain ⟨_,o,ho,_⟩:=I.ok.lP.mem hb
  exact I.base.free b o ho (I.ok.Io b hb) fun z=>I.ok.B6 b z hb
theorem Inv.step {g':Array GenState} {t':Nat} {d':Drawn} {ch:List Addr} (I:Inv X pins σ H s)
  (BG: ∀b∈ch,(b∈X.ex\/X.s₀.heap.objs.size<=b)/\b≠X.env.locals/\(∀x c,X.env.cells.lookup x=some c->c≠b)/\ ∀p∈X.pn++pins,p.1≠b)
  (keep: ∀b o,b≠X.env.locals->b∉X.fs->b∉ch->s.heap.get? b=some o->H b=none->h'.get? b=some o)
  (slot: ∀b o,b≠X.env.locals->b∈X.fs->b∉ch->s.heap.get? b=some o->H b=none-> ∃sl,h'.get? b=some { o with slots:=sl }) (free: ∀b o,b∉ch->s.heap.get? b=some o->H b=none->H' b=none)
  (there: ∀b o,b∉ch->s.heap.get? b=some o-> ∃o',h'.get? b=some o')
  (nU: ∀b xs,H b=some (.tup xs)->H' b=some (.tup xs)) (lO: ∀b o u,H b=some (.vI o u)->H' b=some (.vI o u)) (pW: ∀b ps,H b=some (.Fn ps)-> ∃more,H' b=some (.Fn (ps++more)))
  (ns: ∀m,s.heap.Ns X.env.locals m->h'.Ns X.env.locals m) (bq:jm X.prog X.w H' h') (hg:AllBare g'):
  Inv X pins σ H' { s with heap:=h',gens:=g',drawn:=d',toks:=t' }:=by
 have VC: ∀b o,X.s₀.heap.get? b=some o->b≠X.env.locals:=fun b o e=>Nat.ne_of_lt (Nat.lt_of_lt_of_le (Heap.lt_size e) I.ok.above)
 have Fs: ∀b o,X.s₀.heap.get? b=some o->b∉X.ex->b∉ch:=fun b o e hx hb=>by
  rcases (BG b hb).1 with z | z
  ·exact hx z
  ·exact absurd (Nat.lt_of_lt_of_le (Heap.lt_size e) z) (Nat.lt_irrefl _)
 have cellK: ∀x c,X.env.cells.lookup x=some c-> ∀v,s.heap.IsCell c v->h'.IsCell c v:=fun x c e v ⟨o,ho,hd⟩=>by
  have Js:c∉ch:=fun z=>(BG c z).2.2.1 x c e rfl
  by_cases hc:c∈X.fs
  ·obtain ⟨sl,q⟩:=slot c o (I.Fq x c e) hc Js ho (I.ia x c e)
   exact ⟨_,q,hd⟩
  ·exact ⟨o,keep c o (I.Fq x c e) hc Js ho (I.ia x c e),hd⟩
 refine ⟨I.ok,I.os,hg,⟨fun b o e n hb hx=>?_,fun b o e n hb hx=>?_,fun b o e n hx=>?_,fun b o e hx=>?_,fun b xs e=>nU b xs (I.base.nU b xs e),fun b o xs e=>lO b o xs (I.base.lO b o xs e),fun b ps e=>?_⟩,?_,fun x c e=>?_,?_,fun x c e=>?_,fun p hp=>?_,bq,I.len⟩
 ·exact keep b o (VC b o e) hb (Fs b o e hx) (I.base.keep b o e n hb hx) (I.base.free b o e n hx)
 ·obtain ⟨sl,e1⟩:=I.base.slot b o e n hb hx
  obtain ⟨XJ,e2⟩:=slot b _ (VC b o e) hb (Fs b o e hx) e1 (I.base.free b o e n hx)
  exact ⟨XJ,e2⟩
 ·obtain ⟨o',e1⟩:=I.base.there b o e hx
  exact free b o' (Fs b o e hx) e1 (I.base.free b o e n hx)
 ·obtain ⟨o',e1⟩:=I.base.there b o e hx
  exact there b o' (Fs b o e hx) e1
 ·obtain ⟨m1,e1⟩:=I.base.pW b ps e
  obtain ⟨m2,e2⟩:=pW b _ e1
  exact ⟨m1++m2,by rw[e2,Array.append_assoc]⟩
 ·obtain ⟨m,hn,hl⟩:=I.loc
  refine ⟨m,ns m hn,fun i x v e1 e2 e3=>?_⟩
  obtain ⟨u,r,l⟩:=hl i x v e1 e2 e3
  refine ⟨u,r,?_⟩
  rcases l with l | ⟨k,c,e,z⟩
  ·exact .inl l
  ·exact .inr ⟨k,c,e,cellK x c e _ z⟩
 ·obtain ⟨v,z⟩:=I.cell x c e
  exact ⟨v,cellK x c e v z⟩
 ·obtain ⟨m,⟨o,_,_,ho,_⟩,_⟩:=I.loc
  exact free _ o (fun z=>(BG _ z).2.1 rfl) ho I.free
 ·obtain ⟨v,o,ho,hd⟩:=I.cell x c e
  exact free c o (fun z=>(BG c z).2.2.1 x c e rfl) ho (I.ia x c e)
 ·obtain ⟨e,n,ne,nf,d⟩:=I.pin p hp
  have Js:p.1∉ch:=fun z=>(BG p.1 z).2.2.2 p hp rfl
  exact ⟨keep p.1 p.2 ne nf Js e n,free p.1 p.2 Js e n,ne,nf,d⟩
theorem Inv.un {t':Nat} (I:Inv X pins σ H s) (u:Un X.fs [] H H' s.heap h') (bq:jm X.prog X.w H' h'):Inv X pins σ H' { s with heap:=h',toks:=t' }:=by
 obtain ⟨m,⟨o,es,ep,ho,r⟩,_⟩:=id I.loc
 obtain ⟨sl,hL⟩:=u.any ho I.free (by simp)
 exact I.step (g':=s.gens) (d':=s.drawn) (ch:=[]) (fun _ z=>nomatch z) (fun b o _ hb _ e n=>u.keep b o e n hb (by simp)) (fun b o _ hb _ e n=>u.slot b o e n hb (by simp)) (fun b o _ e n=>u.free b o e n (by simp)) (fun b o _ e=>u.there b o e (by simp)) u.nU u.lO u.pW (fun m' hm=>by
  obtain ⟨o',Ou,Ov,gG,r'⟩:=hm
  rw[ho]at gG;cases gG
  exact ⟨_,Ou,Ov,hL,r'⟩) bq I.bare
theorem Inv.call {g':Array GenState} {t':Nat} {d':Drawn} {ch:List Addr} (I:Inv X pins σ H s) (u:Un (vJ X.stack) ch H H' s.heap h') (bq:jm X.prog X.w H' h') (hg:AllBare g')
  (BG: ∀b∈ch,(b∈X.ex\/X.s₀.heap.objs.size<=b)/\b≠X.env.locals/\(∀x c,X.env.cells.lookup x=some c->c≠b)/\ ∀p∈X.pn++pins,p.1≠b):
  Inv X pins σ H' { s with heap:=h',gens:=g',drawn:=d',toks:=t' }:=by
 obtain ⟨m,⟨o,es,ep,ho,r⟩,_⟩:=id I.loc
 obtain ⟨sl,hL⟩:=u.any ho I.free fun z=>(BG _ z).2.1 rfl
 exact I.step (ch:=ch) BG (fun b o hL hb hc e n=>u.keep b o e n (fun z=>(List.mem_cons.mp (I.lQ b z)).elim hL hb) hc) (fun b o _ _ hc e n=>u.any e n hc) (fun b o hc e n=>u.free b o e n hc) (fun b o hc e=>u.there b o e hc) u.nU u.lO u.pW (fun m' hm=>by
  obtain ⟨o',Ou,Ov,gG,r'⟩:=hm
  rw[ho]at gG;cases gG
  exact ⟨_,Ou,Ov,hL,r'⟩) bq hg
theorem Inv.turned {t':Nat} {it:Addr} (I:Inv X pins σ H s) (k: ∀b o,b≠it->s.heap.get? b=some o->h'.get? b=some o) (hn:H it=none) (hL:it≠X.env.locals)
  (h1:it∈X.ex\/X.s₀.heap.objs.size<=it) (h2: ∀x c,X.env.cells.lookup x=some c->c≠it) (h3: ∀p∈X.pn++pins,p.1≠it):Inv X pins σ H { s with heap:=h',toks:=t' }:=by
 have D9: ∀b u,H b=some u->b≠it:=fun b u e z=>by rw[z,hn]at e;cases e
 refine I.step (g':=s.gens) (d':=s.drawn) (ch:=[it]) (fun b hb=>?_) (fun b o _ _ hc e _=>k b o (fun z=>hc (by simp[z])) e) (fun b o _ _ hc e _=>⟨o.slots,k b o (fun z=>hc (by simp[z])) e⟩) (fun _ _ _ _ n=>n)
  (fun b o hc e=>⟨o,k b o (fun z=>hc (by simp[z])) e⟩) (fun _ _ e=>e) (fun _ _ _ e=>e) (fun b ps e=>⟨#[],by rw[e];simp⟩) (fun m hm=>?_) (fun b u e=>?_) I.bare
 ·have e:b=it:=by simpa using hb
  subst e
  exact ⟨h1,hL,h2,h3⟩
 ·obtain ⟨o,es,ep,ho,r⟩:=hm
  exact ⟨o,es,ep,k _ o (Ne.symm hL) ho,r⟩
 ·refine (I.bq b u e).rl (fun c v hc q=>k c v ?_ q) (fun _ q=>q) fun _ _ q=>q
  rcases hc with z | z
  ·rw[z];exact D9 b u e
  ·exact D9 c _ z
theorem Inv.tok (I:Inv X pins σ H s) (t:Nat):Inv X pins σ H { s with toks:=t }:=I.un (h':=s.heap) (t':=t) Un.refl I.bq
theorem Inv.kept {t':Nat} (I:Inv X pins σ H s) (k: ∀b u,s.heap.get? b=some u->h'.get? b=some u):Inv X pins σ H { s with heap:=h',toks:=t' }:=I.un (Un.kept k) (I.bq.kept k)
theorem Inv.laid {a:Addr} {o:HO} {t':Nat} (I:Inv X pins σ H s) (k: ∀b u,s.heap.get? b=some u->h'.get? b=some u) (hp:s.heap.objs.size<=a) (new:cb X.prog X.w (upd H a o) h' a o):
  Inv X pins σ (upd H a o) { s with heap:=h',toks:=t' }:=I.un (Un.laid k hp (I.bq.fresh hp)) (I.bq.laid k hp new)
theorem Inv.write {x e:Addr} {o:HO} {t':Nat} (I:Inv X pins σ H s) (mu:Jo (H x)) (he:e=x\/H e=some (.own x)) (k: ∀b u,b≠e->s.heap.get? b=some u->h'.get? b=some u) (Im: ∃u,h'.get? e=some u)
  (new:cb X.prog X.w (upd H x o) h' x o):Inv X pins σ (upd H x o) { s with heap:=h',toks:=t' }:=I.un (Un.write mu he k Im) (I.bq.write mu he k Im new)
theorem Inv.weak {σ':List (Option V)} (I:Inv X pins σ H s) (hl:σ'.length=σ.length) (w: ∀(i:Nat) v,σ'[i]? =some (some v)->σ[i]? =some (some v)):Inv X pins σ' H s:=
 ⟨I.ok,I.os,I.bare,I.base,let ⟨m,hn,jA⟩:=I.loc;⟨m,hn,fun i x v e1 e2 e3=>jA i x v e1 (w i v e2) e3⟩,I.cell,I.free,I.ia,I.pin,I.bq,hl.trans I.len⟩
theorem Inv.jB {vL:List (Addr×Obj)} (I:Inv X pins σ H s) (h: ∀p∈vL,s.heap.get? p.1=some p.2/\H p.1=none/\p.1≠X.env.locals/\p.1∉X.fs/\ ∀v,p.2.data≠ .cell v):Inv X vL σ H s:=
 ⟨I.ok,I.os,I.bare,I.base,I.loc,I.cell,I.free,I.ia,fun p hp=>(List.mem_append.mp hp).elim (fun z=>I.pin p (List.mem_append_left _ z)) (h p),I.bq,I.len⟩
theorem rp {N:List Str} (hN:N.Nodup) {i j:Nat} {x:Str} (a:N[i]? =some x) (b:N[j]? =some x):i=j:=by
 obtain ⟨h1,e1⟩:=List.getElem?_eq_some_iff.mp a
 obtain ⟨h2,e2⟩:=List.getElem?_eq_some_iff.mp b
 exact (List.getElem_inj hN).mp (e1.trans e2.symm)
theorem wZ {M:Model} {A:Around} {E:Value->Shared->Prop} {i:Nat} {x:Str} {v:V} {u:Value} {Q:Unit->Shared->Prop} (I:Inv X pins σ H s) (hN:X.N.Nodup) (hi:X.N[i]? =some x) (hx:Loc X.env.scope x) (r:RelV v u)
  (h: ∀s',Inv X pins (σ.set i (some v)) H s'->(∃a,Heap.SameBut a s.heap s'.heap/\(a=X.env.locals\/X.env.cells.lookup x=some a))->Q () s') (hf:X.fn x=true\/X.env.scope.names.lookup x=some .local:=by first | exact .inl rfl | exact .inr rfl | assumption):wpAny M A (storeName X.env x u) Q E s:=by
 obtain ⟨m,hn,hl⟩:=id I.loc
 have Ow:(X.env.scope.kind== .class||(X.env.scope.kind== .module&&X.env.locals != X.env.globals))=false:=by rw[I.ok.kind];rfl
 have VD:i<σ.length:=by rw[I.len];exact (List.getElem?_eq_some_iff.mp hi).1
 have Fq:=I.Fq
 have tracked: ∀{a:Addr} {h':Heap},(∃o,s.heap.get? a=some o/\H a=none)->Heap.SameBut a s.heap h'->jm X.prog X.w H h':=fun {a h'} ha hs b ob e=>by
  obtain ⟨_,_,D_⟩:=ha
  refine (I.bq b ob e).rl (fun c w' hc q=>(hs.2 c ?_).trans q) (fun _ q=>q) fun _ _ q=>q
  rintro rfl
  rcases hc with rfl | hc
  ·rw[D_]at e;cases e
  ·rw[D_]at hc;cases hc
 rcases hx with hk | hk
 ·refine wpAny_storeName_local hk hn (fun h' XM hs=>?_) Ow
  obtain ⟨oL,_,_,MC,_⟩:=id hn
  refine h _ ⟨I.ok,I.os,I.bare,⟨fun b o e n hb hx=>?_,fun b o e n hb hx=>?_,I.base.free,fun b o e hx=>?_,I.base.nU,I.base.lO,I.base.pW⟩,⟨_,XM,fun j y v' e1 e2 e3=>?_⟩,fun y c e=>?_,I.free,I.ia,fun p hp=>?_,tracked ⟨oL,MC,I.free⟩ hs,by simpa using I.len⟩ ⟨_,hs, .inl rfl⟩
  ·exact (hs.2 b (Nat.ne_of_lt (Nat.lt_of_lt_of_le (Heap.lt_size e) I.ok.above))).trans (I.base.keep b o e n hb hx)
  ·obtain ⟨sl,e1⟩:=I.base.slot b o e n hb hx
   exact ⟨sl,(hs.2 b (Nat.ne_of_lt (Nat.lt_of_lt_of_le (Heap.lt_size e) I.ok.above))).trans e1⟩
  ·obtain ⟨o',e1⟩:=I.base.there b o e hx
   exact ⟨o',(hs.2 b (Nat.ne_of_lt (Nat.lt_of_lt_of_le (Heap.lt_size e) I.ok.above))).trans e1⟩
  ·by_cases hj:j=i
   ·subst hj
    rw[hi]at e1;cases e1
    rw[List.getElem?_set_self VD]at e2
    cases e2
    exact ⟨u,r, .inl ⟨hk,by simp⟩⟩
   ·rw[List.getElem?_set_ne (Ne.symm hj)]at e2
    obtain ⟨u',r',q⟩:=hl j y v' e1 e2 e3
    refine ⟨u',r',?_⟩
    rcases q with ⟨k,e⟩ | ⟨k,c,e,z⟩
    ·refine .inl ⟨k,?_⟩
     have:y≠x:=fun e=>hj (rp hN e1 (e▸hi))
     simp[this,e]
    ·exact .inr ⟨k,c,e,z.sameBut hs (Fq y c e)⟩
  ·obtain ⟨w',z⟩:=I.cell y c e
   exact ⟨w',z.sameBut hs (Fq y c e)⟩
  ·obtain ⟨e,n,ne,nf,d⟩:=I.pin p hp
   exact ⟨(hs.2 p.1 ne).trans e,n,ne,nf,d⟩
 ·have Ox:X.fn x=true:=by
   rcases hf with z | z
   ·exact z
   ·rw[z]at hk;cases hk
  obtain ⟨c,hc⟩:=I.ok.has x (.inl hk)
  obtain ⟨w',z⟩:=I.cell x c hc
  refine wpAny_storeName_cell I.ok.kind hk hc z (fun h' w4 hs=>?_)
  obtain ⟨oc,VE,Oy⟩:=id z
  refine h { s with heap:=h' } ⟨I.ok,I.os,I.bare,⟨fun b o e n hb hx=>?_,fun b o e n hb hx=>?_,I.base.free,fun b o e hx=>?_,I.base.nU,I.base.lO,I.base.pW⟩,⟨m,hn.sameBut hs (Ne.symm (Fq x c hc)),fun j y v' e1 e2 e3=>?_⟩,fun y c' e=>?_,I.free,I.ia,fun p hp=>?_,tracked ⟨oc,VE,I.ia x c hc⟩ hs,by simpa using I.len⟩ ⟨c,hs, .inr hc⟩
  ·exact (hs.2 b (Nat.ne_of_lt (Nat.lt_of_lt_of_le (Heap.lt_size e) (I.ok.Jr x c Ox hc)))).trans (I.base.keep b o e n hb hx)
  ·obtain ⟨sl,e1⟩:=I.base.slot b o e n hb hx
   exact ⟨sl,(hs.2 b (Nat.ne_of_lt (Nat.lt_of_lt_of_le (Heap.lt_size e) (I.ok.Jr x c Ox hc)))).trans e1⟩
  ·obtain ⟨o',e1⟩:=I.base.there b o e hx
   exact ⟨o',(hs.2 b (Nat.ne_of_lt (Nat.lt_of_lt_of_le (Heap.lt_size e) (I.ok.Jr x c Ox hc)))).trans e1⟩
  ·by_cases hj:j=i
   ·subst hj
    rw[hi]at e1;cases e1
    rw[List.getElem?_set_self VD]at e2
    cases e2
    exact ⟨u,r, .inr ⟨.inl hk,c,hc,w4⟩⟩
   ·rw[List.getElem?_set_ne (Ne.symm hj)]at e2
    obtain ⟨u',r',q⟩:=hl j y v' e1 e2 e3
    refine ⟨u',r',?_⟩
    rcases q with q | ⟨k,c',e,z'⟩
    ·exact .inl q
    ·refine .inr ⟨k,c',e,z'.sameBut hs ?_⟩
     rintro rfl
     exact hj (rp hN e1 (I.ok.inj _ _ _ e hc▸hi))
  ·by_cases VF:c'=c
   ·subst VF;exact ⟨_,w4⟩
   ·obtain ⟨w2,z2⟩:=I.cell y c' e
    exact ⟨w2,z2.sameBut hs VF⟩
  ·obtain ⟨e,n,ne,nf,d⟩:=I.pin p hp
   refine ⟨(hs.2 p.1 ?_).trans e,n,ne,nf,d⟩
   intro q
   rw[q,VE]at e
   have q':oc=p.2:=Option.some.inj e
   exact d w' (by rw[<-q'];exact Oy)
theorem gf {M:Model} {A:Around} {E:Value->Shared->Prop} {i:Nat} {x:Str} {v:V} {u:Value} {Q:Unit->Shared->Prop} (I:Inv X pins σ H s) (hN:X.N.Nodup) (hi:X.N[i]? =some x) (hx:Loc X.env.scope x) (r:RelV v u)
  (h: ∀s',Inv X pins (σ.set i (some v)) H s'->Q () s') (hf:X.fn x=true\/X.env.scope.names.lookup x=some .local:=by first | exact .inl rfl | exact .inr rfl | assumption):wpAny M A (storeName X.env x u) Q E s:=
 wZ I hN hi hx r (fun s' I' _=>h s' I') hf
theorem Inv.Jt {s':Shared} {ch:List Addr} (I:Inv X pins σ H s) (ho:s'.os=s.os) (u:Un (vJ X.stack) ch H H' s.heap s'.heap) (bq:jm X.prog X.w H' s'.heap) (hg:AllBare s'.gens)
  (BG: ∀b∈ch,(b∈X.ex\/X.s₀.heap.objs.size<=b)/\b≠X.env.locals/\(∀x c,X.env.cells.lookup x=some c->c≠b)/\ ∀p∈X.pn++pins,p.1≠b):Inv X pins σ H' s':=by
 obtain ⟨h',g',d',t',o'⟩:=s'
 have e:o'=s.os:=ho
 subst e
 exact I.call (g':=g') (t':=t') (d':=d') u bq hg BG
end
noncomputable abbrev XK:=Value->Option Addr->Hp->Prop
noncomputable abbrev St:=List (Option V)
noncomputable abbrev VK:=V->Hp->Prop
noncomputable abbrev TE:=St->Hp->VK->Prop
noncomputable abbrev TT:=St->Hp->(Bool->Hp->Prop)->Prop
noncomputable abbrev TA:=St->Hp->(List V->Hp->Prop)->Prop
structure Ends where
 nx:St->Hp->Prop
 rt:VK
 bk:St->Hp->Prop:=fun _ _=>False
 ct:St->Hp->Prop:=fun _ _=>False
noncomputable abbrev TS:=Ends->St->Hp->Prop
noncomputable def EP (X:Cx) (pins:List (Addr×Obj)) (σ:St) (Q:VK) (u:Value) (s':Shared):Prop:= ∃v H',Inv X pins σ H' s'/\RelV v u/\Q v H'
noncomputable def TP (X:Cx) (pins:List (Addr×Obj)) (σ:St) (Q:Bool->Hp->Prop) (b:Bool) (s':Shared):Prop:= ∃H',Inv X pins σ H' s'/\Q b H'
noncomputable def AP (X:Cx) (pins:List (Addr×Obj)) (σ:St) (Q:List V->Hp->Prop) (us:List Value) (s':Shared):Prop:= ∃vs H',Inv X pins σ H' s'/\Vals vs us/\Q vs H'
noncomputable def SP (X:Cx) (pins:List (Addr×Obj)) (D:Ends) (f:Flow) (s':Shared):Prop:=
 match f with
 | .next=> ∃σ' H',Inv X pins σ' H' s'/\D.nx σ' H'
 | .brk=> ∃σ' H',Inv X pins σ' H' s'/\D.bk σ' H'
 | .cont=> ∃σ' H',Inv X pins σ' H' s'/\D.ct σ' H'
 | .ret u=> ∃v σ' H',Inv X pins σ' H' s'/\RelV v u/\D.rt v H'
noncomputable def PE (X:Cx) (e:Expr) (t:TE):Prop:=
 ∀(pins:List (Addr×Obj)) (s:Shared) (σ:St) (H:Hp) (Q:VK),Inv X pins σ H s->t σ H Q->wpAny (model X.prog X.w) X.A (eval e X.env) (EP X pins σ Q) X.xe s
noncomputable def PT (X:Cx) (e:Expr) (t:TT):Prop:=
 ∀(pins:List (Addr×Obj)) (s:Shared) (σ:St) (H:Hp) (Q:Bool->Hp->Prop),Inv X pins σ H s->t σ H Q->wpAny (model X.prog X.w) X.A (isTrue e X.env (eval e X.env)) (TP X pins σ Q) X.xe s
noncomputable def PW (X:Cx) (e:Expr) (t:TT):Prop:=
 ∀(whole:Sem Value) (pins:List (Addr×Obj)) (s:Shared) (σ:St) (H:Hp) (Q:Bool->Hp->Prop),Inv X pins σ H s->t σ H Q->wpAny (model X.prog X.w) X.A (isTrue e X.env whole) (TP X pins σ Q) X.xe s
theorem PW.pt {X:Cx} {e:Expr} {t:TT} (h:PW X e t):PT X e t:=h _
noncomputable def PA (X:Cx) (es:List Expr) (t:TA):Prop:=
 ∀(pos:Pos) (pins:List (Addr×Obj)) (s:Shared) (σ:St) (H:Hp) (Q:List V->Hp->Prop),Inv X pins σ H s->t σ H Q->wpAny (model X.prog X.w) X.A (spliced (backTo pos (starEach es X.env))) (AP X pins σ Q) X.xe s
noncomputable def PS (X:Cx) (st:Stmt) (t:TS):Prop:=
 ∀(pins:List (Addr×Obj)) (s:Shared) (σ:St) (H:Hp) (D:Ends),Inv X pins σ H s->t D σ H->wpAny (model X.prog X.w) X.A (exec st X.env) (SP X pins D) X.xe s
noncomputable def w5 (X:Cx) (st:List Stmt) (t:TS):Prop:=
 ∀(pins:List (Addr×Obj)) (s:Shared) (σ:St) (H:Hp) (D:Ends),Inv X pins σ H s->t D σ H->wpAny (model X.prog X.w) X.A (execs st X.env) (SP X pins D) X.xe s
theorem bU {α:Type} {t:Sem α} {Q Q':α->Shared->Prop} {M:Model} {A:Around} {E:Value->Shared->Prop} {s:Shared} (h:wpAny M A t Q E s) (hQ: ∀a s,Q a s->Q' a s):wpAny M A t Q' E s:=wpAny_mono h hQ fun _ _ x=>x
end L2
namespace L2
open PySem PySem.Spec PyProof.Rows
section
variable {X:Cx}
noncomputable def Ju (i:Nat):TE:=fun σ H Q=> ∃v,σ[i]? =some (some v)/\Q v H
noncomputable def tC (v:V):TE:=fun _ H Q=>Q v H
theorem Ft {i:Nat} {x:Str} {pos:Pos} (hN:X.N[i]? =some x) (hv:Jq X.env.scope x) (hd:(x==("__debug__":Str))=false:=by decide) (rq:(x==("__classdict__":Str))=false:=by decide):PE X (.Name x pos) (Ju i):=by
 intro pins s σ H Q I h
 obtain ⟨v,e,h⟩:=h
 obtain ⟨m,hn,hl⟩:=I.loc
 obtain ⟨u,r,l⟩:=hl i x v hN e hv
 have fin:EP X pins σ Q u s:=⟨v,H,I,r,h⟩
 rcases l with ⟨hk,hm⟩ | ⟨hk,c,hc,gg⟩
 ·exact wpAny_Name (wpAny_loadName_local I.ok.kind hk hn hm fin) hd
 ·rcases hk with hk | hk
  ·exact wpAny_Name (wpAny_loadName_cell I.ok.kind hk hc gg fin) hd
  ·exact wpAny_Name (wpAny_loadName_free I.ok.kind hk hc gg fin rq) hd
theorem ag {i j pos}:PE X (.Constant (.int i) j pos) (tC (.int i)):=fun _ _ _ H _ I h=>wpAny_Constant_int ⟨.int i,H,I.tok _,⟨_,rfl⟩,h⟩
theorem cX {b j pos}:PE X (.Constant (.bool b) j pos) (tC (.bl b)):=fun _ _ _ H _ I h=>Constant_bool ⟨.bl b,H,I,rfl,h⟩
theorem pY {j pos}:PE X (.Constant .none j pos) (tC .cy):=fun _ _ _ H _ I h=>Constant_none ⟨.cy,H,I,rfl,h⟩
theorem Fu {x j pos}:PE X (.Constant (.str x) j pos) (tC (.str x)):=fun _ _ _ H _ I h=>Calls.Constant_str ⟨.str x,H,I.tok _,⟨_,rfl⟩,h⟩
noncomputable def Gl (X:Cx) (x:Str):Prop:=X.env.kindOf x=some .globalImplicit
theorem B7 {E:Value->Shared->Prop} {pins:List (Addr×Obj)} {s:Shared} {σ:St} {H:Hp} {x:Str} {u:Value} {pos:Pos} {Q:Value->Shared->Prop} (I:Inv X pins σ H s) (hg:Gl X x) (hm:X.mg x=some u) (h:Q u s)
  (hd:(x==("__debug__":Str))=false:=by decide):wpAny (model X.prog X.w) X.A (eval (.Name x pos) X.env) Q E s:=
 Calls.Name_function_global I.ok.kind hg (Calls.loadGlobal_global (by rw[I.ok.glob];exact I.mod.glob.keeps I.bk) hm h) hd
theorem cM {E:Value->Shared->Prop} {pins:List (Addr×Obj)} {s:Shared} {σ:St} {H:Hp} {x:Str} {u:Value} {pos:Pos} {Q:Value->Shared->Prop} (I:Inv X pins σ H s) (hg:Gl X x) (hm:X.mg x=none) (hv:bootBuiltins x=some u) (h:Q u s)
  (hn:x≠"__name__":=by decide) (hd:(x==("__debug__":Str))=false:=by decide):wpAny (model X.prog X.w) X.A (eval (.Name x pos) X.env) Q E s:=by
 obtain ⟨mb,h1,h2⟩:=I.mod.blt
 exact Calls.Name_function_global I.ok.kind hg (Calls.loadGlobal_builtin (by rw[I.ok.glob];exact I.mod.glob.keeps I.bk) hm (by rw[I.ok.blt];exact h1.keeps I.bk) ((h2 x hn).trans hv) h) hd
theorem vM {x:Str} {v:V} {u:Value} {pos:Pos} (hg:Gl X x) (hm:X.mg x=none) (hv:bootBuiltins x=some u) (r:RelV v u) (hn:x≠"__name__":=by decide) (hd:(x==("__debug__":Str))=false:=by decide):PE X (.Name x pos) (tC v):=
 fun _ _ _ H _ I h=>cM I hg hm hv ⟨v,H,I,r,h⟩ hn hd
variable {a b:Expr} {ta tb:TE} {pos:Pos}
noncomputable def PC (X:Cx) (op:CmpOp) (a b:Expr) (t:TE):Prop:=
 ∀(pins:List (Addr×Obj)) (s:Shared) (σ:St) (H:Hp) (Q:VK),Inv X pins σ H s->t σ H Q->
  wpAny (model X.prog X.w) X.A (eval a X.env) (fun v s₁=>wpAny (model X.prog X.w) X.A (eval b X.env) (fun u s₂=>wpAny (model X.prog X.w) X.A (compareOp op v u) (EP X pins σ Q) X.xe s₂) X.xe s₁) X.xe s
noncomputable def tB (t:TE):TT:=fun σ H Q=>t σ H fun x H1=> ∃c,x= .bl c/\Q c H1
theorem Fv {op:CmpOp} {t:TE} (h:PC X op a b t) (h1:behindInMarks op b=false:=by first | exact Jv _ (by decide) (by decide) | rfl):PT X (.Compare a [op] [b] pos) (tB t):=by
 intro pins s σ H Q I hw
 refine wpAny_isTrue_Compare1 (bU (h pins s σ H _ I hw) fun v s1 h1=>bU h1 fun u s2 h2=>bU h2 fun c s3 ⟨x,H1,I1,r1,q1⟩=>?_) h1
 obtain ⟨d,rfl,q⟩:=q1
 cases r1
 exact wpAny_truthy_bool ⟨H1,I1,q⟩
theorem ib {e:Expr} {t:TE} (h:PE X e t) (he: ∀whole,isTrue e X.env whole=(do let v <-whole;standAt e.pos;holding [v] (truthy v)):=by intro _;rfl):PT X e (tB t):=by
 intro pins s σ H Q I hw
 refine isTrue_plain (bU (h pins s σ H _ I hw) fun v s1 ⟨x,H1,I1,r1,q1⟩=>?_) (he _)
 obtain ⟨d,rfl,q⟩:=q1
 cases r1
 exact wpAny_truthy_bool ⟨H1,I1,q⟩
variable {tA MD:TT} {rest:List Expr}
noncomputable def Oz (t u:TT):TT:=fun σ H Q=>t σ H fun c H1=>if c=true then u σ H1 Q else Q false H1
noncomputable def XN (t u:TT):TT:=fun σ H Q=>t σ H fun c H1=>if c=true then Q true H1 else u σ H1 Q
noncomputable def OA (t:TT):TT:=fun σ H Q=>t σ H fun c H1=>Q (!c) H1
theorem jC (ha:PT X a tA):PW X (.BoolOp .And [a] pos) tA:=by
 intro wh pins s σ H Q I h
 refine isTrue_and (bU (ha pins s σ H Q I h) fun c s1 e=>?_)
 cases c with
 | true=>exact isTrue_and_nil e
 | false=>exact e
theorem ic (ha:PT X a tA):PW X (.BoolOp .Or [a] pos) tA:=by
 intro wh pins s σ H Q I h
 refine isTrue_or (bU (ha pins s σ H Q I h) fun c s1 e=>?_)
 cases c with
 | false=>exact isTrue_or_nil e
 | true=>exact e
theorem lR (ha:PT X a tA) (hb:PW X (.BoolOp .And (b::rest) pos) MD):PW X (.BoolOp .And (a::b::rest) pos) (Oz tA MD):=by
 intro wh pins s σ H Q I h
 refine isTrue_and (bU (ha pins s σ H _ I h) fun c s1 ⟨H1,I1,q1⟩=>?_)
 cases c with
 | true=>exact hb wh pins s1 σ H1 Q I1 q1
 | false=>exact ⟨H1,I1,q1⟩
theorem kN (ha:PT X a tA) (hb:PW X (.BoolOp .Or (b::rest) pos) MD):PW X (.BoolOp .Or (a::b::rest) pos) (XN tA MD):=by
 intro wh pins s σ H Q I h
 refine isTrue_or (bU (ha pins s σ H _ I h) fun c s1 ⟨H1,I1,q1⟩=>?_)
 cases c with
 | true=>exact ⟨H1,I1,q1⟩
 | false=>exact hb wh pins s1 σ H1 Q I1 q1
theorem cZ (ha:PT X a tA):PT X (.UnaryOp .Not a pos) (OA tA):=by
 intro pins s σ H Q I h
 exact isTrue_not (ha pins s σ H (fun c H1=>Q (!c) H1) I h)
noncomputable def Jw (ta tb:TE):TE:=fun σ H Q=>ta σ H fun x H1=> ∃c,x= .bl c/\if c=true then tb σ H1 Q else Q (.bl false) H1
noncomputable def OB (ta tb:TE):TE:=fun σ H Q=>ta σ H fun x H1=> ∃c,x= .bl c/\if c=true then Q (.bl true) H1 else tb σ H1 Q
theorem uf {op} {t:TE} (h:PE X a t):PE X (.BoolOp op [a] pos) t:=fun pins s σ H Q I hw=>BoolOp_one (h pins s σ H Q I hw)
theorem zo (ha:PE X a ta) (hb:PE X (.BoolOp .And (b::rest) pos) tb):PE X (.BoolOp .And (a::b::rest) pos) (Jw ta tb):=by
 intro pins s σ H Q I h
 refine BoolOp_and (bU (ha pins s σ H _ I h) fun v s1 ⟨x,H1,I1,r1,q1⟩=>?_)
 obtain ⟨c,rfl,q1⟩:=q1
 cases r1
 refine wpAny_truthy_bool ?_
 cases c with
 | true=>exact hb pins s1 σ H1 Q I1 q1
 | false=>exact ⟨.bl false,H1,I1,rfl,q1⟩
theorem Jx (ha:PE X a ta) (hb:PE X (.BoolOp .Or (b::rest) pos) tb):PE X (.BoolOp .Or (a::b::rest) pos) (OB ta tb):=by
 intro pins s σ H Q I h
 refine BoolOp_or (bU (ha pins s σ H _ I h) fun v s1 ⟨x,H1,I1,r1,q1⟩=>?_)
 obtain ⟨c,rfl,q1⟩:=q1
 cases r1
 refine wpAny_truthy_bool ?_
 cases c with
 | false=>exact hb pins s1 σ H1 Q I1 q1
 | true=>exact ⟨.bl true,H1,I1,rfl,q1⟩
end
end L2
namespace L2
open PySem PySem.Spec PyProof.Rows
noncomputable def aJ (K:PySem.W.Frag) (H:Hp) (a:Addr) (xs:List V):Prop:=
 Rd H a (.lst xs)\/
  ∃(o:Obj) (az:Array Value) (n:Nat),K.lookup a=some o/\o.cls= .type "list"/\o.dict=none/\o.data= .seq az n/\az.size<=sizeLine/\Vals xs az.toList
noncomputable def aY (K:PySem.W.Frag) (H:Hp) (a:Addr) (xs:List V):Prop:=
 Rd H a (.tup xs)\/
  ∃(o:Obj) (az:Array Value) (n:Nat),K.lookup a=some o/\o.cls= .type "tuple"/\o.data= .seq az n/\az.size<=sizeLine/\Vals xs az.toList
noncomputable def OC:Value->Option V
 | .none=>some .cy
 | .bool b=>some (.bl b)
 | .int i _=>some (.int i)
 | .str x _=>some (.str x)
 | .bytes b _=>some (.wX b)
 | .float b _=>some (.BF b)
 | .ref a=>some (.ref a)
 | .type n=>some (.ty n)
 | _=>none
theorem RelV.abs {x:V} {u:Value} (r:RelV x u):OC u=some x:=by
 cases x with
 | cy=>cases r;rfl
 | bl _=>cases r;rfl
 | int _=>obtain ⟨t,rfl⟩:=r;rfl
 | str _=>obtain ⟨t,rfl⟩:=r;rfl
 | wX _=>obtain ⟨t,rfl⟩:=r;rfl
 | BF _=>obtain ⟨t,rfl⟩:=r;rfl
 | ref _=>cases r;rfl
 | ty _=>cases r;rfl
theorem RelV.inj {x y:V} {u:Value} (r:RelV x u) (q:RelV y u):x=y:=Option.some.inj (r.abs.symm.trans q.abs)
theorem Vals.inj: ∀{xs ys:List V} {us:List Value},Vals xs us->Vals ys us->xs=ys
 | _,_,_, .nil, .nil=>rfl
 | _,_,_, .cons r t, .cons r' t'=>by rw[r.inj r',Vals.inj t t']
section
variable {X:Cx} {pins:List (Addr×Obj)} {σ:St} {H:Hp} {s:Shared} {a:Addr} {xs ys:List V}
theorem aJ.of {K:PySem.W.Frag} (h:H a=some (.lst xs)):aJ K H a xs:= .inl (.inl h)
theorem aY.of {K:PySem.W.Frag} (h:H a=some (.tup xs)):aY K H a xs:= .inl (.inl h)
theorem Inv.list (I:Inv X pins σ H s) (h:aJ X.K H a xs): ∃az:List Value,Vals xs az/\PlainL s.heap a az.toArray/\xs.length<=sizeLine:=by
 rcases h with h | ⟨o,az,n,hk,hc,hd,hs,hz,r⟩
 ·obtain ⟨z,az,n,r,e⟩:=h.ok I.bq
  exact ⟨az,r,⟨_,n,e,rfl,rfl,rfl⟩,z⟩
 ·refine ⟨az.toList,r,⟨o,n,I.rn a o hk,hc,hd,by simpa using hs⟩,?_⟩
  have e:=r.length
  simp only[Array.length_toList]at e
  omega
theorem Inv.tuple (I:Inv X pins σ H s) (h:aY X.K H a xs): ∃az:List Value,Vals xs az/\IsTup s.heap a az.toArray/\xs.length<=sizeLine:=by
 rcases h with h | ⟨o,az,n,hk,hc,hs,hz,r⟩
 ·obtain ⟨z,az,r,p⟩:=h.ok I.bq
  exact ⟨az,r,p,z⟩
 ·refine ⟨az.toList,r,⟨o,I.rn a o hk,hc,n,by simpa using hs⟩,?_⟩
  have e:=r.length
  simp only[Array.length_toList]at e
  omega
theorem Inv.lS (I:Inv X pins σ H s) (h:aJ X.K H a xs) (h':aJ X.K H a ys):xs=ys:=by
 obtain ⟨az,r,⟨o,n,e,_,_,d⟩,_⟩:=I.list h
 obtain ⟨its',r',⟨o',n',e',_,_,d'⟩,_⟩:=I.list h'
 rw[e]at e';cases e'
 rw[d]at d'
 injection d' with d1 _
 have:az=its':=by simpa using congrArg Array.toList d1
 subst this
 exact r.inj r'
theorem Inv.kg (I:Inv X pins σ H s) (h:aY X.K H a xs) (h':aY X.K H a ys):xs=ys:=by
 obtain ⟨az,r,⟨o,e,_,n,d⟩,_⟩:=I.tuple h
 obtain ⟨its',r',⟨o',e',_,n',d'⟩,_⟩:=I.tuple h'
 rw[e]at e';cases e'
 rw[d]at d'
 injection d' with d1 _
 have:az=its':=by simpa using congrArg Array.toList d1
 subst this
 exact r.inj r'
end
noncomputable abbrev Cx.nV (X:Cx) (E:Value->Shared->Prop):Cx:={ X with xe:=E }
noncomputable abbrev Cx.ME (X:Cx):Cx:=X.nV fun _ _=>False
theorem Cx.Ok.nV {X:Cx} (ok:X.Ok) (E:Value->Shared->Prop):(X.nV E).Ok:=
 ⟨ok.mod,ok.kind,ok.glob,ok.blt,ok.above,ok.inj,ok.has,ok.Jr,ok.hd,ok.frames,ok.MB,ok.VB,ok.bs,ok.D8,ok.zk,ok.B6,ok.lP,ok.Io⟩
theorem Cx.Ok.ie {X:Cx} {E:Value->Shared->Prop} (ok:(X.nV E).Ok):X.Ok:=
 ⟨ok.mod,ok.kind,ok.glob,ok.blt,ok.above,ok.inj,ok.has,ok.Jr,ok.hd,ok.frames,ok.MB,ok.VB,ok.bs,ok.D8,ok.zk,ok.B6,ok.lP,ok.Io⟩
section
variable {X:Cx} {pins:List (Addr×Obj)} {σ:St} {H:Hp} {s:Shared} {E:Value->Shared->Prop}
theorem Inv.nV (I:Inv X pins σ H s) (E:Value->Shared->Prop):Inv (X.nV E) pins σ H s:=⟨I.ok.nV E,I.os,I.bare,I.base,I.loc,I.cell,I.free,I.ia,I.pin,I.bq,I.len⟩
theorem Inv.ie (I:Inv (X.nV E) pins σ H s):Inv X pins σ H s:=⟨I.ok.ie,I.os,I.bare,I.base,I.loc,I.cell,I.free,I.ia,I.pin,I.bq,I.len⟩
theorem SP.ie {D:Ends} {f:Flow} {s':Shared} (h:SP (X.nV E) pins D f s'):SP X pins D f s':=by
 cases f with
 | next=>obtain ⟨σ',H',I,q⟩:=h;exact ⟨σ',H',I.ie,q⟩
 | brk=>obtain ⟨σ',H',I,q⟩:=h;exact ⟨σ',H',I.ie,q⟩
 | cont=>obtain ⟨σ',H',I,q⟩:=h;exact ⟨σ',H',I.ie,q⟩
 | ret u=>obtain ⟨v,σ',H',I,r,q⟩:=h;exact ⟨v,σ',H',I.ie,r,q⟩
theorem w5.ME {st:List Stmt} {t:TS} (h:w5 X.ME st t):w5 X st t:=fun pins s σ H D I hw=>
 wpAny_mono (h pins s σ H D (I.nV _) hw) (fun _ _ q=>q.ie) fun _ _ z=>False.elim z
end
section
variable {X:Cx} {st:Stmt} {rest:List Stmt} {t u:TS} {e:Expr} {te:TE} {pos:Pos}
noncomputable def Jy:TS:=fun D σ H=>D.nx σ H
noncomputable def w9 (t u:TS):TS:=fun D σ H=>t { D with nx:=u D } σ H
theorem a_:w5 X [] Jy:=fun _ _ σ H _ I h=>wpAny_execs_nil ⟨σ,H,I,h⟩
theorem af (h1:PS X st t) (h2:w5 X rest u):w5 X (st::rest) (w9 t u):=by
 intro pins s σ H D I h
 refine wpAny_execs_cons (bU (h1 pins s σ H { D with nx:=u D } I h) fun f s1 q=>?_)
 cases f with
 | next=>
  obtain ⟨σ',H',I',q⟩:=q
  exact h2 pins s1 σ' H' D I' q
 | ret v=>exact q
 | brk=>exact q
 | cont=>exact q
theorem ai (h1:PS X st t):w5 X [st] t:=by
 intro pins s σ H D I h
 refine wpAny_execs_cons (bU (h1 pins s σ H D I h) fun f s1 q=>?_)
 cases f with
 | next=>exact wpAny_execs_nil q
 | ret v=>exact q
 | brk=>exact q
 | cont=>exact q
theorem Inv.quiet {pins:List (Addr×Obj)} {σ:St} {H:Hp} {s:Shared} (I:Inv X pins σ H s):interactive X.env=false:=by simp[interactive,I.ok.kind]
noncomputable def Jz (te:TE):TS:=fun D σ H=>te σ H fun _ H1=>D.nx σ H1
theorem ba (he:PE X e te) (hs:swapsWith e none pos.line X.env=pure false:=by rfl):PS X (.Expr e pos) (Jz te):=by
 intro pins s σ H D I h
 exact wpAny_Expr_any (bU (he pins s σ H _ I h) fun v s1 ⟨x,H1,I1,r1,q1⟩=>⟨σ,H1,I1,q1⟩) I.quiet hs
noncomputable def OD (te:TE):TS:=fun D σ H=>te σ H D.rt
theorem aD (he:PE X e te):PS X (.Return (some e) pos) (OD te):=by
 intro pins s σ H D I h
 exact wpAny_Return_some (bU (he pins s σ H _ I h) fun v s1 ⟨x,H1,I1,r1,q1⟩=>⟨x,σ,H1,I1,r1,q1⟩)
noncomputable def OE (c:TT) (t u:TS):TS:=fun D σ H=>c σ H fun b H1=>if b=true then t D σ H1 else u D σ H1
theorem bE {c:Expr} {a b:List Stmt} {tc:TT} (hc:PT X c tc) (ha:w5 X a t) (hb:w5 X b u):PS X (.If c a b pos) (OE tc t u):=by
 intro pins s σ H D I h
 refine wpAny_If (bU (hc pins s σ H _ I h) fun d s1 ⟨H1,I1,q1⟩=>?_)
 cases d with
 | true=>exact ha pins s1 σ H1 D I1 q1
 | false=>exact hb pins s1 σ H1 D I1 q1
noncomputable def Fw:TS:=fun _ _ _=>False
theorem zp:PS X st Fw:=fun _ _ _ _ _ _ h=>h.elim
end
noncomputable abbrev TG:=V->St->Hp->(St->Hp->Prop)->Prop
noncomputable abbrev BH:=List V->St->Hp->(St->Hp->Prop)->Prop
noncomputable def PG (X:Cx) (target:Expr) (t:TG):Prop:=
 ∀(pins:List (Addr×Obj)) (s:Shared) (σ:St) (H:Hp) (v:V) (u:Value) (Q:St->Hp->Prop),Inv X pins σ H s->RelV v u->t v σ H Q->
  wpAny (model X.prog X.w) X.A (assign target X.env u) (fun _ s'=> ∃σ' H',Inv X pins σ' H' s'/\Q σ' H') X.xe s
noncomputable def Ip (X:Cx) (ts:List Expr) (t:BH):Prop:=
 ∀(pins:List (Addr×Obj)) (s:Shared) (σ:St) (H:Hp) (vs:List V) (us:List Value) (Q:St->Hp->Prop),Inv X pins σ H s->Vals vs us->t vs σ H Q->
  wpAny (model X.prog X.w) X.A (assignInOrder ((assignEach ts X.env).map (·.2)) us) (fun _ s'=> ∃σ' H',Inv X pins σ' H' s'/\Q σ' H') X.xe s
noncomputable abbrev Fx:=V->V->V->Hp->(Hp->Prop)->Prop
noncomputable def JA (X:Cx) (t:Fx):Prop:=
 ∀(pins:List (Addr×Obj)) (s:Shared) (σ:St) (H:Hp) (o i v:V) (ov iv u:Value) (Q:Hp->Prop),Inv X pins σ H s->RelV o ov->RelV i iv->RelV v u->t o i v H Q->
  wpAny (model X.prog X.w) X.A (setItem ov iv u) (fun _ s'=> ∃H',Inv X pins σ H' s'/\Q H') X.xe s
noncomputable abbrev MF:=V->V->Hp->VK->Prop
noncomputable def OF (X:Cx) (op:Operator) (t:MF):Prop:=
 ∀(pins:List (Addr×Obj)) (s:Shared) (σ:St) (H:Hp) (x y:V) (v u:Value) (Q:VK),Inv X pins σ H s->RelV x v->RelV y u->t x y H Q->
  wpAny (model X.prog X.w) X.A (inplaceOp op v u) (EP X pins σ Q) X.xe s
section
variable {X:Cx} {pos:Pos}
noncomputable def vN (i:Nat):TG:=fun v σ H Q=>Q (σ.set i (some v)) H
theorem ay {i:Nat} {x:Str} (hN:X.N.Nodup) (hi:X.N[i]? =some x) (hx:Loc X.env.scope x) (hf:X.fn x=true\/X.env.scope.names.lookup x=some .local:=by first | exact .inl rfl | exact .inr rfl | assumption):PG X (.Name x pos) (vN i):=by
 intro pins s σ H v u Q I r h
 exact wpAny_assign_Name (gf I hN hi hx r (fun s' I'=>⟨_,H,I',h⟩) hf)
noncomputable def OG:BH:=fun vs σ H Q=>vs=[]/\Q σ H
noncomputable def JB (t:TG) (u:BH):BH:=fun vs σ H Q=> ∃v r,vs=v::r/\t v σ H fun σ' H'=>u r σ' H' Q
theorem cA:Ip X [] OG:=by
 intro pins s σ H vs us Q I r h
 obtain ⟨e,h⟩:=h
 subst e
 cases r
 exact assignInOrder_nil ⟨σ,H,I,h⟩
theorem aR {e:Expr} {es:List Expr} {t:TG} {u:BH} (h1:PG X e t) (h2:Ip X es u)
  (hs:(assignEach (e::es) X.env).map (·.2)=assign e X.env::(assignEach es X.env).map (·.2):=by rfl):Ip X (e::es) (JB t u):=by
 intro pins s σ H vs us Q I r h
 obtain ⟨v,vr,e1,h⟩:=h
 subst e1
 cases r with
 | cons r rr=>
  rw[hs]
  refine assignInOrder_cons (bU (h1 pins s σ H _ _ _ I r h) fun _ s1 ⟨σ1,H1,I1,q1⟩=>?_)
  exact h2 pins s1 σ1 H1 _ _ Q I1 rr q1
noncomputable def JC (K:PySem.W.Frag) (n:Nat) (t:BH):TG:=fun v σ H Q=> ∃a xs,v= .ref a/\aY K H a xs/\xs.length=n/\t xs σ H Q
theorem Fy {es:List Expr} {k:Nat} {t:BH} {n:Nat} (hc:X.calm=true) (h:Ip X es t)
  (hn:(assignEach es X.env).length=n:=by rfl) (JD:(assignEach es X.env).findIdx? (·.1)=none:=by rfl):PG X (.Tuple es k pos) (JC X.K n t):=by
 intro pins s σ H v u Q I r hw
 obtain ⟨a,xs,e1,hq,hl,hw⟩:=hw
 subst e1
 cases r
 obtain ⟨az,rv,ht,hz⟩:=I.tuple hq
 refine assign_Tuple_tuple (I.ok.hd hc) ht (by simp[hn, <-hl,rv.length]) JD fun h' hx=>?_
 have I1:Inv X pins σ H { s with heap:=h' }:=I.kept (t':=s.toks) fun b o e=>hx b o (Nat.ne_of_lt (Heap.lt_size e)) e
 exact h pins _ σ H xs _ Q I1 (by simpa using rv) hw
noncomputable def OH (to ti:TE) (t:Fx):TG:=fun v σ H Q=>to σ H fun o H1=>ti σ H1 fun i H2=>t o i v H2 fun H3=>Q σ H3
theorem ig {o i:Expr} {to ti:TE} {t:Fx} (ho:PE X o to) (hi:PE X i ti) (hs:JA X t)
  (ha: ∀v,assign (.Subscript o i pos) X.env v=(do
   let ov <-holding [v] (eval o X.env)
   let iv <-holding [v,ov] (eval i X.env)
   standAt pos
   holding [v,ov,iv] (setItem ov iv v)
   release [v,ov,iv] []):=by intro _;rfl):PG X (.Subscript o i pos) (OH to ti t):=by
 intro pins s σ H v u Q I r h
 rw[ha]
 refine wpAny_bind (wpAny_holding (bU (ho pins s σ H _ I h) fun ov s1 ⟨x,H1,I1,r1,q1⟩=>?_))
 refine wpAny_bind (wpAny_holding (bU (hi pins s1 σ H1 _ I1 q1) fun iv s2 ⟨y,H2,I2,r2,q2⟩=>?_))
 refine wpAny_bind (wpAny_standAt (wpAny_bind (wpAny_holding (bU (hs pins s2 σ H2 x y v ov iv u _ I2 r1 r2 r q2) fun _ s3 ⟨H3,I3,q3⟩=>?_))))
 exact wpAny_release ⟨σ,H3,I3,q3⟩
noncomputable def B8 (te:TE) (g:TG):TS:=fun D σ H=>te σ H fun x H1=>g x σ H1 D.nx
theorem ij {tg e:Expr} {te:TE} {g:TG} (he:PE X e te) (hg:PG X tg g) (hs:swapsWithSole [tg] e pos.line X.env=pure false:=by rfl) (hw:swappedStores [tg] e X.env=pure none:=by rfl)
  (h1:(assignEach [tg] X.env).map (·.2)=[assign tg X.env]:=by rfl):PS X (.Assign [tg] e pos) (B8 te g):=by
 intro pins s σ H D I h
 refine wpAny_Assign_stores (bU (he pins s σ H _ I h) fun v s1 ⟨x,H1,I1,r1,q1⟩=>?_) hs hw
 rw[h1]
 exact bU (hg pins s1 σ H1 x v _ I1 r1 q1) fun _ s2 q=>q
theorem ar {i:Nat} {x:Str} {e:Expr} {te:TE} {pos':Pos} (hN:X.N.Nodup) (hi:X.N[i]? =some x) (hx:Loc X.env.scope x) (he:PE X e te) (hs:swapsWith e (some (.Name x pos')) pos.line X.env=pure false:=by rfl) (hf:X.fn x=true\/X.env.scope.names.lookup x=some .local:=by first | exact .inl rfl | exact .inr rfl | assumption):
  PS X (.Assign [.Name x pos'] e pos) (B8 te (vN i)):=by
 intro pins s σ H D I h
 refine wpAny_Assign_Name (bU (he pins s σ H _ I h) fun v s1 ⟨y,H1,I1,r1,q1⟩=>?_) hs
 exact gf I1 hN hi hx r1 (fun s2 I2=>⟨_,H1,I2,q1⟩) hf
noncomputable def OI (i j:Nat) (ta:TA):TS:=fun D σ H=>ta σ H fun vs H1=> ∃v w,vs=[v,w]/\D.nx ((σ.set i (some v)).set j (some w)) H1
theorem Fz {i j:Nat} {x y:Str} {a b:Expr} {ta:TA} {px py pt:Pos} {kt k2 OJ} (hc:X.calm=true) (hN:X.N.Nodup) (hi:X.N[i]? =some x) (hj:X.N[j]? =some y) (Iq:i≠j)
  (hx:X.env.scope.names.lookup x=some .local) (hy:X.env.scope.names.lookup y=some .local) (ha:PA X [a,b] ta)
  (hw:swappedStores [.Tuple [.Name x px, .Name y py] kt pt] (.Tuple [a,b] k2 OJ) X.env=pure (some [x,y]))
  (hs:swapsWithSole [.Tuple [.Name x px, .Name y py] kt pt] (.Tuple [a,b] k2 OJ) pos.line X.env=pure false:=by rfl):
  PS X (.Assign [.Tuple [.Name x px, .Name y py] kt pt] (.Tuple [a,b] k2 OJ) pos) (OI i j ta):=by
 intro pins s σ H D I h
 rw[exec_Assign_arm]
 refine wpAny_bind (wpAny_standAt ?_)
 rw[hs]
 refine wpAny_bind (wpAny_pure ?_)
 rw[if_neg (by decide)]
 refine wpAny_bind (Tuple_ (bU (ha _ pins s σ H _ I h) fun us s1 ⟨vs,H1,I1,r1,q1⟩=>?_))
 obtain ⟨v,w,e1,q1⟩:=q1
 subst e1
 obtain ⟨u1,u2,rfl,rv,w_⟩: ∃u1 u2,us=[u1,u2]/\RelV v u1/\RelV w u2:=by
  cases r1 with
  | cons p q=>
   cases q with
   | cons p' q'=>
    cases q'
    exact ⟨_,_,rfl,p,p'⟩
 refine wpAny_newObj_type ?_ (by show 2<=sizeLine;decide)
 have I2:Inv X pins σ H1 { s1 with heap:=s1.heap.push { cls:= .type "tuple",data:= .seq [u1,u2].toArray } }:=I1.kept (t':=s1.toks) fun b o e=>Heap.get?_push_of_some _ e
 rw[hw]
 refine wpAny_bind (wpAny_pure ?_)
 show wpAny (model X.prog X.w) X.A (do rule "assign.swapped-stores";let items <-unpackItems (.ref s1.heap.objs.size) 2 none;assignInOrder [fun v=>bindName X.env y v,fun v=>bindName X.env x v] items.reverse;pure Flow.next) _ _ _
 refine wpAny_bind (wpAny_rule (wpAny_bind (unpackItems_tuple (items:= #[u1,u2]) (I.ok.hd hc) (IsTup.new s1.heap _) fun h' B9=>?_)))
 have I3:=I2.kept (h':=h') (t':=s1.toks) fun b o e=>B9 b o (Nat.ne_of_lt (Heap.lt_size e)) e
 show wpAny _ _ (assignInOrder [fun v=>bindName X.env y v,fun v=>bindName X.env x v] [u2,u1] >>= fun _=>pure Flow.next) _ _ _
 refine wpAny_bind (assignInOrder_cons (wpAny_bindName (gf I3 hN hj (.inl hy) w_ (fun s2 I4=>?_) (.inr hy))))
 refine assignInOrder_cons (wpAny_bindName (gf I4 hN hi (.inl hx) rv (fun s3 I5=>assignInOrder_nil (wpAny_pure ?_)) (.inr hx)))
 rw[List.set_comm _ _ (Ne.symm Iq)]at I5
 exact ⟨_,H1,I5,q1⟩
noncomputable def OK (i:Nat) (te:TE) (ti:MF):TS:=fun D σ H=> ∃x,σ[i]? =some (some x)/\te σ H fun y H1=>ti x y H1 fun z H2=>D.nx (σ.set i (some z)) H2
theorem lT {i:Nat} {x:Str} {e:Expr} {te:TE} {op:Operator} {ti:MF} {pos':Pos} (hN:X.N.Nodup) (hi:X.N[i]? =some x) (hx:Loc X.env.scope x) (he:PE X e te) (ho:OF X op ti) (hf:X.fn x=true\/X.env.scope.names.lookup x=some .local:=by first | exact .inl rfl | exact .inr rfl | assumption):
  PS X (.AugAssign (.Name x pos') op e pos) (OK i te ti):=by
 intro pins s σ H D I h
 obtain ⟨v,e1,h⟩:=h
 obtain ⟨m,hn,hl⟩:=I.loc
 have XO:Jq X.env.scope x:=by rcases hx with k | k;exact .inl k;exact .inr (.inl k)
 obtain ⟨u,r,l⟩:=hl i x v hi e1 XO
 refine wpAny_AugAssign_Name ?_
 have go:wpAny (model X.prog X.w) X.A (eval e X.env) (fun w s₂=>wpAny (model X.prog X.w) X.A (inplaceOp op u w) (fun r s₃=>wpAny (model X.prog X.w) X.A (storeName X.env x r) (fun _=>SP X pins D .next) X.xe s₃) X.xe s₂) X.xe s:=by
  refine bU (he pins s σ H _ I h) fun w s1 ⟨y,H1,I1,r1,q1⟩=>?_
  refine bU (ho pins s1 σ H1 v y u w _ I1 r r1 q1) fun z s2 ⟨zv,H2,I2,r2,q2⟩=>?_
  exact gf I2 hN hi hx r2 (fun s3 I3=>⟨_,H2,I3,q2⟩) hf
 rcases l with ⟨hk,hm⟩ | ⟨hk,c,hc,gg⟩
 ·exact wpAny_loadName_local I.ok.kind hk hn hm go
 ·rcases hk with hk | hk
  ·exact wpAny_loadName_cell I.ok.kind hk hc gg go
  ·rcases hx with k | k
   ·have:X.env.scope.names.lookup x=some .free:=hk
    rw[k]at this;cases this
   ·have:X.env.scope.names.lookup x=some .free:=hk
    rw[k]at this;cases this
noncomputable def VG (f:Int->Int->Int):MF:=fun x y H Q=> ∃i j,x= .int i/\y= .int j/\Q (.int (f i j)) H
theorem ug:OF X .Add (VG fun i j=>i+j):=by
 intro pins s σ H x y v u Q I r1 r2 h
 obtain ⟨i,j,e1,e2,q⟩:=h
 subst e1;subst e2
 obtain ⟨t,rfl⟩:=r1
 obtain ⟨t',rfl⟩:=r2
 exact iadd_int ⟨.int _,H,I.tok _,⟨_,rfl⟩,q⟩
theorem zq:OF X .Sub (VG fun i j=>i - j):=by
 intro pins s σ H x y v u Q I r1 r2 h
 obtain ⟨i,j,e1,e2,q⟩:=h
 subst e1;subst e2
 obtain ⟨t,rfl⟩:=r1
 obtain ⟨t',rfl⟩:=r2
 exact isub_int ⟨.int _,H,I.tok _,⟨_,rfl⟩,q⟩
end
section
variable {X:Cx} {pos:Pos}
end
structure It where
 go:Nat->Hp->Prop
 uh:Nat->Hp->V->Hp->Prop
 stop:Nat->Hp->Prop
noncomputable def la (X:Cx) (pins:List (Addr×Obj)) (H:Hp) (b:Addr):Prop:=
 H b=none/\b≠X.env.locals/\b∉X.fs/\(b∈X.ex\/X.s₀.heap.objs.size<=b)/\(∀x c,X.env.cells.lookup x=some c->c≠b)/\ ∀p∈X.pn++pins,p.1≠b
theorem Inv.jD {X:Cx} {pins:List (Addr×Obj)} {σ:St} {H H':Hp} {s:Shared} {b:Addr} (I:Inv X pins σ H s) (hb:s.heap.objs.size<=b) (hn:H' b=none):la X pins H' b:=by
 refine ⟨hn,Nat.ne_of_gt (Nat.lt_of_lt_of_le I.lt hb),I.Fp hb, .inr (Nat.le_trans I.sz hb),fun x c e z=>?_,fun p hp z=>?_⟩
 ·obtain ⟨v,q⟩:=I.cell x c e
  exact absurd (Nat.lt_of_lt_of_le q.lt (by rw[z];exact hb)) (Nat.lt_irrefl _)
 ·exact absurd (Nat.lt_of_lt_of_le (Heap.lt_size (I.pin p hp).1) (by rw[z];exact hb)) (Nat.lt_irrefl _)
structure Turn (P:Program) (w:World) (K:PySem.W.Frag) (tg:Expr) (J:It) (fp:List Addr) (it:Addr) (tn:Nat->Heap->Prop):Prop where
 mem:it∈fp
 obj: ∀i h,tn i h-> ∀b∈fp, ∃o,h.get? b=some o/\ ∀v,o.data≠ .cell v
 keep: ∀i h h',tn i h->(∀b∈fp, ∀o,h.get? b=some o->h'.get? b=some o)->tn i h'
 item: ∀(X:Cx),X.prog=P->X.w=w->X.K=K->X.calm=true-> ∀(i:Nat) (pins:List (Addr×Obj)) (s:Shared) (σ:St) (H:Hp) (E:Value->Shared->Prop),Inv X pins σ H s->(∀b∈fp,la X pins H b)->tn i s.heap->J.go i H->
  wpAny (model P w) X.A (pyNext (.ref it)) (fun r s1=> ∃u,r=some u/\
   wpAny (model P w) X.A (letOwnedTupleGo tg (.ref it) u) (fun _ s2=> ∃x H',Inv X pins σ H' s2/\RelV x u/\J.uh i H x H'/\tn (i+1) s2.heap/\ ∀b∈fp,H' b=none) E s1) E s
 done: ∀(X:Cx),X.prog=P->X.w=w->X.K=K->X.calm=true-> ∀(i:Nat) (pins:List (Addr×Obj)) (s:Shared) (σ:St) (H:Hp) (E:Value->Shared->Prop),Inv X pins σ H s->(∀b∈fp,la X pins H b)->tn i s.heap->J.stop i H->
  wpAny (model P w) X.A (pyNext (.ref it)) (fun r s1=>r=none/\Inv X pins σ H s1) E s
 self: ∀(A:Around) (i:Nat) (s:Shared) (Q:Value->Shared->Prop) (E:Value->Shared->Prop),tn i s.heap->Q (.ref it) s->wpAny (model P w) A (pyIter (.ref it)) Q E s
noncomputable abbrev TI:=St->Hp->(It->Hp->Prop)->Prop
noncomputable def OL (X:Cx) (pins:List (Addr×Obj)) (σ:St) (tg:Expr) (R:It->Hp->Prop) (OM:Value) (s2:Shared):Prop:=
 ∃(it:Addr) (fp:List Addr) (tn:Nat->Heap->Prop) (J:It) (H':Hp),OM= .ref it/\Inv X pins σ H' s2/\Turn X.prog X.w X.K tg J fp it tn/\tn 0 s2.heap/\(∀b∈fp,la X pins H' b)/\R J H'
noncomputable def PI (X:Cx) (tg iter:Expr) (wi:TI):Prop:=
 ∀(pins:List (Addr×Obj)) (s:Shared) (σ:St) (H:Hp) (R:It->Hp->Prop),Inv X pins σ H s->wi σ H R->
  wpAny (model X.prog X.w) X.A (eval iter X.env) (fun v s1=>wpAny (model X.prog X.w) X.A (pyIter v) (OL X pins σ tg R) X.xe s1) X.xe s
theorem lU {M:Model} {A:Around} {E:Value->Shared->Prop} {s:Shared} {tg:Expr} {it:Addr} {u:Value} {o:Obj} {n:String} {vs:Array Value} {Q:Unit->Shared->Prop} (ho:s.heap.get? it=some o) (hc:o.cls= .type n) (hd:o.data= .fields vs)
  (hn:["enumerate","zip","dict_itemiterator","dict_reverseitemiterator","odict_iterator","itertools.zip_longest","itertools.pairwise"].contains n=false) (hQ:Q () s):wpAny M A (letOwnedTupleGo tg (.ref it) u) Q E s:=by
 unfold letOwnedTupleGo
 cases tg<;>first
  | exact wpAny_pure hQ
  |(cases u<;>first
    | exact wpAny_pure hQ
    |(refine wpAny_bind (wpAny_load ho ?_)
      rw[hc,hd]
      show wpAny M A (if (["enumerate","zip","dict_itemiterator","dict_reverseitemiterator","odict_iterator","itertools.zip_longest","itertools.pairwise"].contains n&&vs[0]? ==some (rawInt _))=true then _ else _) Q E s
      rw[if_neg (by intro h;rw[hn,Bool.false_and]at h;cases h)]
      exact wpAny_pure hQ))
noncomputable def Ir (K:PySem.W.Frag) (a:Addr):It:=
 ⟨fun i H=> ∃xs x,aJ K H a xs/\xs[i]? =some x,fun i H x H'=>H'=H/\ ∀xs,aJ K H a xs->xs[i]? =some x,fun i H=> ∃xs,aJ K H a xs/\xs.length<=i⟩
noncomputable def Iu (K:PySem.W.Frag) (a:Addr):It:=
 ⟨fun i H=> ∃xs x,aY K H a xs/\xs[i]? =some x,fun i H x H'=>H'=H/\ ∀xs,aY K H a xs->xs[i]? =some x,fun i H=> ∃xs,aY K H a xs/\xs.length<=i⟩
noncomputable def Ea (lo:Int) (n:Nat):It:=⟨fun i _=>i<n,fun i H x H'=>H'=H/\x= .int (lo+i),fun i _=>n<=i⟩
theorem xa {P:Program} {w:World} {K:PySem.W.Frag} {tg:Expr} (a it:Addr):Turn P w K tg (Ir K a) [it] it (fun i h=>h.IsListIter it a i) where
 mem:=by simp
 obj:=fun i h st b hb=>by
  have e:b=it:=by simpa using hb
  subst e
  obtain ⟨o,e,c,d⟩:=st
  exact ⟨o,e,fun v z=>by rw[d]at z;cases z⟩
 keep:=fun i h h' st k=>st.at fun o e=>k it (by simp) o e
 item:=by
  intro X hP hw hK hc i pins s σ H E I hf st hg
  subst hP hw hK
  obtain ⟨xs,x,hq,hx⟩:=hg
  obtain ⟨az,rv,p,hz⟩:=I.list hq
  obtain ⟨u,hu,ru⟩:=rv.get hx
  obtain ⟨f0,f1,f2,f3,f4,f5⟩:=hf it (by simp)
  refine wpAny_pyNext_list_item st p.isList (x:=u) (by simpa using hu) fun h' lC sb=>?_
  have I1:Inv X pins σ H { s with heap:=h' }:=I.turned (t':=s.toks) (fun b o hb e=>(sb.2 b hb).trans e) f0 f1 f3 f4 f5
  obtain ⟨o,e,c,d⟩:=id lC
  exact ⟨u,rfl,lU (s:={ s with heap:=h' }) e c d (by decide) ⟨x,H,I1,ru,⟨rfl,fun ys hy=>by rw[I.lS hy hq];exact hx⟩,lC,fun b hb=>(hf b hb).1⟩⟩
 done:=by
  intro X hP hw hK hc i pins s σ H E I hf st hg
  subst hP hw hK
  obtain ⟨xs,hq,hx⟩:=hg
  obtain ⟨az,rv,p,hz⟩:=I.list hq
  obtain ⟨f0,f1,f2,f3,f4,f5⟩:=hf it (by simp)
  have hl:=rv.length
  exact wpAny_pyNext_list_end (I.ok.hd hc) st p.isList (by simp;omega) fun h' eb=>⟨rfl,I.turned (t':=s.toks) (fun b o hb e=>eb b o hb e) f0 f1 f3 f4 f5⟩
 self:=fun _ _ _ _ _ st h=>wpAny_pyIter_listiter st h
theorem ui {P:Program} {w:World} {K:PySem.W.Frag} {tg:Expr} (a it:Addr):Turn P w K tg (Iu K a) [it] it (fun i h=>h.IsTupleIter it a i) where
 mem:=by simp
 obj:=fun i h st b hb=>by
  have e:b=it:=by simpa using hb
  subst e
  obtain ⟨o,e,c,d⟩:=st
  exact ⟨o,e,fun v z=>by rw[d]at z;cases z⟩
 keep:=fun i h h' st k=>st.at fun o e=>k it (by simp) o e
 item:=by
  intro X hP hw hK hc i pins s σ H E I hf st hg
  subst hP hw hK
  obtain ⟨xs,x,hq,hx⟩:=hg
  obtain ⟨az,rv,p,hz⟩:=I.tuple hq
  obtain ⟨u,hu,ru⟩:=rv.get hx
  obtain ⟨f0,f1,f2,f3,f4,f5⟩:=hf it (by simp)
  refine wpAny_pyNext_tuple_item st (show s.heap.IsTuple a az.toArray from p) (x:=u) (by simpa using hu) fun h' lC sb=>?_
  have I1:Inv X pins σ H { s with heap:=h' }:=I.turned (t':=s.toks) (fun b o hb e=>(sb.2 b hb).trans e) f0 f1 f3 f4 f5
  obtain ⟨o,e,c,d⟩:=id lC
  exact ⟨u,rfl,lU (s:={ s with heap:=h' }) e c d (by decide) ⟨x,H,I1,ru,⟨rfl,fun ys hy=>by rw[I.kg hy hq];exact hx⟩,lC,fun b hb=>(hf b hb).1⟩⟩
 done:=by
  intro X hP hw hK hc i pins s σ H E I hf st hg
  subst hP hw hK
  obtain ⟨xs,hq,hx⟩:=hg
  obtain ⟨az,rv,p,hz⟩:=I.tuple hq
  obtain ⟨f0,f1,f2,f3,f4,f5⟩:=hf it (by simp)
  have hl:=rv.length
  exact wpAny_pyNext_tuple_end (I.ok.hd hc) st (show s.heap.IsTuple a az.toArray from p) (by simp;omega) fun h' eb=>⟨rfl,I.turned (t':=s.toks) (fun b o hb e=>eb b o hb e) f0 f1 f3 f4 f5⟩
 self:=fun _ _ _ _ _ st h=>wpAny_pyIter_tupleiter st h
theorem uj {P:Program} {w:World} {K:PySem.W.Frag} {tg:Expr} (it:Addr) (lo:Int) (n:Nat):Turn P w K tg (Ea lo n) [it] it (fun i h=>IsRangeIter h it (lo+(i:Nat)*1) ((n:Int) - (i:Nat)) 1) where
 mem:=by simp
 obj:=fun i h st b hb=>by
  have e:b=it:=by simpa using hb
  subst e
  exact ⟨_,st,fun v z=>by
   have z':Data.fields _=Data.cell v:=z
   cases z'⟩
 keep:=fun i h h' st k=>k it (by simp) _ st
 item:=by
  intro X hP hw hK hc i pins s σ H E I hf st hg
  subst hP hw hK
  obtain ⟨f0,f1,f2,f3,f4,f5⟩:=hf it (by simp)
  have W:=Walks.range (prog:=X.prog) (w:=X.w) (I.ok.hd hc) it lo 1 n
  refine W.item i s _ _ hg st fun v h' tk hv lC kk=>?_
  obtain ⟨t,rfl⟩:=hv
  have I1:Inv X pins σ H { s with heap:=h',toks:=tk }:=I.turned (fun b o hb e=>kk b o (by simpa using hb) e) f0 f1 f3 f4 f5
  refine ⟨_,rfl,lU (s:={ s with heap:=h',toks:=tk }) (n:="range_iterator") lC rfl rfl (by decide) ⟨.int (lo+i),H,I1,⟨t,?_⟩,⟨rfl,rfl⟩,lC,fun b hb=>(hf b hb).1⟩⟩
  rw[Int.mul_one]
 done:=by
  intro X hP hw hK hc i pins s σ H E I hf st hg
  subst hP hw hK
  obtain ⟨f0,f1,f2,f3,f4,f5⟩:=hf it (by simp)
  exact wpAny_pyNext_range_end (I.ok.hd hc) st (by have:n<=i:=hg;omega) fun h' eb=>⟨rfl,I.turned (t':=s.toks) (fun b o hb e=>eb b o hb e) f0 f1 f3 f4 f5⟩
 self:=fun _ _ _ _ _ st h=>wpAny_pyIter_rangeiter st h
end L2
namespace L2
open PySem PySem.Spec PyProof.Rows
section
variable {X:Cx} {tg:Expr}
noncomputable def Eb (K:PySem.W.Frag) (tl:TE):TI:=fun σ H R=>tl σ H fun x H1=> ∃a,x= .ref a/\(∃xs,aJ K H1 a xs)/\R (Ir K a) H1
noncomputable def JE (K:PySem.W.Frag) (tl:TE):TI:=fun σ H R=>tl σ H fun x H1=> ∃a,x= .ref a/\(∃xs,aY K H1 a xs)/\R (Iu K a) H1
theorem B_ {l:Expr} {tl:TE} (hl:PE X l tl):PI X tg l (Eb X.K tl):=by
 intro pins s σ H R I h
 refine bU (hl pins s σ H _ I h) fun v s1 ⟨x,H1,I1,r1,q1⟩=>?_
 obtain ⟨a,e,⟨xs,hq⟩,q⟩:=q1
 subst e
 cases r1
 obtain ⟨az,rv,p,hz⟩:=I1.list hq
 refine wpAny_pyIter_list p.isList ?_
 refine ⟨s1.heap.objs.size,[s1.heap.objs.size],_,_,H1,rfl,I1.kept (t':=s1.toks) fun b o e=>Heap.get?_push_of_some _ e,xa a _,⟨_,Heap.get?_push_size _ rfl,rfl,rfl⟩,fun b hb=>?_,q⟩
 have e:b=s1.heap.objs.size:=by simpa using hb
 subst e
 exact I1.jD (Nat.le_refl _) (I1.bq.fresh (Nat.le_refl _))
theorem FA {l:Expr} {tl:TE} (hl:PE X l tl):PI X tg l (JE X.K tl):=by
 intro pins s σ H R I h
 refine bU (hl pins s σ H _ I h) fun v s1 ⟨x,H1,I1,r1,q1⟩=>?_
 obtain ⟨a,e,⟨xs,hq⟩,q⟩:=q1
 subst e
 cases r1
 obtain ⟨az,rv,p,hz⟩:=I1.tuple hq
 refine wpAny_pyIter_tuple (show s1.heap.IsTuple a az.toArray from p) ?_
 refine ⟨s1.heap.objs.size,[s1.heap.objs.size],_,_,H1,rfl,I1.kept (t':=s1.toks) fun b o e=>Heap.get?_push_of_some _ e,ui a _,⟨_,Heap.get?_push_size _ rfl,rfl,rfl⟩,fun b hb=>?_,q⟩
 have e:b=s1.heap.objs.size:=by simpa using hb
 subst e
 exact I1.jD (Nat.le_refl _) (I1.bq.fresh (Nat.le_refl _))
theorem rz {pins:List (Addr×Obj)} {σ:St} {H:Hp} {s:Shared} {R:It->Hp->Prop} {E:Value->Shared->Prop} {lo hi:Int} {t u v:Tok} {tk:Nat} (I:Inv X pins σ H s) (h1: -(2 ^ 62)<=lo) (h2:lo<2 ^ 62) (h3: -(2 ^ 62)<=hi) (h4:hi<2 ^ 62)
  (q:R (Ea lo (hi - lo).toNat) H):wpAny (model X.prog X.w) X.A (pyIter (.ref s.heap.objs.size)) (OL X pins σ tg R) E { s with heap:=s.heap.push { cls:= .type "range",data:= .fields #[.int lo t, .int hi u, .int 1 v] },toks:=tk }:=by
 refine wpAny_pyIter_range (IsRange.new ..) (small_one h1 h2 h3 h4) ?_
 have I1:Inv X pins σ H { s with heap:=s.heap.push { cls:= .type "range",data:= .fields #[.int lo t, .int hi u, .int 1 v] },toks:=tk }:=I.kept fun b o e=>Heap.get?_push_of_some _ e
 refine ⟨(s.heap.push { cls:= .type "range",data:= .fields #[.int lo t, .int hi u, .int 1 v] }).objs.size,[(s.heap.push { cls:= .type "range",data:= .fields #[.int lo t, .int hi u, .int 1 v] }).objs.size],_,_,H,rfl,
  I1.kept (t':=tk) fun b o e=>Heap.get?_push_of_some _ e,uj _ lo (hi - lo).toNat,?_,fun b hb=>?_,q⟩
 ·have e1:lo+((0:Nat):Int)*1=lo:=by simp
  have e2:(((hi - lo).toNat:Nat):Int) - ((0:Nat):Int)=Builtin.Range.rangeSize lo hi 1:=by rw[rangeSize_one];split<;>omega
  show IsRangeIter _ _ (lo+((0:Nat):Int)*1) ((((hi - lo).toNat:Nat):Int) - ((0:Nat):Int)) 1
  rw[e1,e2]
  exact Heap.get?_push_size _ rfl
 ·have e:b=(s.heap.push { cls:= .type "range",data:= .fields #[.int lo t, .int hi u, .int 1 v] }).objs.size:=by simpa using hb
  subst e
  exact I1.jD (Nat.le_refl _) (I1.bq.fresh (Nat.le_refl _))
noncomputable def JF (ta:TA):TI:=fun σ H R=>ta σ H fun vs H1=> ∃j:Int,vs=[.int j]/\ -(2 ^ 62)<=j/\j<2 ^ 62/\R (Ea 0 j.toNat) H1
noncomputable def JG (ta:TA):TI:=fun σ H R=>ta σ H fun vs H1=> ∃i j:Int,vs=[.int i, .int j]/\(-(2 ^ 62)<=i/\i<2 ^ 62/\ -(2 ^ 62)<=j/\j<2 ^ 62)/\R (Ea i (j - i).toNat) H1
theorem fj {a:Expr} {ta:TA} {p pos:Pos} (hg:Gl X "range") (hm:X.mg "range"=none) (ha:PA X [a] ta) (hs:starEach [a] X.env=[(false,eval a X.env)]:=by rfl):PI X tg (.Call (.Name "range" p) [a] [] pos) (JF ta):=by
 intro pins s σ H R I h
 refine Call_ (cM I hg hm boot_range (PyProof.Rows.callWith_type1 (bU (ha pos pins s σ H _ I h) fun us s1 ⟨vs,H1,I1,r1,q1⟩=>?_) hs rfl))
 obtain ⟨j,e,q1,q2,q⟩:=q1
 subst e
 cases r1 with
 | cons r rr=>
  cases rr
  obtain ⟨t,rfl⟩:=r
  exact call_range_1 (rz I1 (by omega) (by omega) q1 q2 (by simpa using q))
theorem xb {a b:Expr} {ta:TA} {p pos:Pos} (hg:Gl X "range") (hm:X.mg "range"=none) (ha:PA X [a,b] ta) (hs:starEach [a,b] X.env=[(false,eval a X.env),(false,eval b X.env)]:=by rfl) (lD:starEach [b] X.env=[(false,eval b X.env)]:=by rfl):
  PI X tg (.Call (.Name "range" p) [a,b] [] pos) (JG ta):=by
 intro pins s σ H R I h
 refine Call_ (cM I hg hm boot_range (PyProof.Rows.callWith_type1 (bU (ha pos pins s σ H _ I h) fun us s1 ⟨vs,H1,I1,r1,q1⟩=>?_) (by rw[hs,lD]) (by rw[lD];rfl)))
 obtain ⟨i,j,e,⟨q1,q2,q3,q4⟩,q⟩:=q1
 subst e
 cases r1 with
 | cons r rr=>
  cases rr with
  | cons r' rr=>
   cases rr
   obtain ⟨t,rfl⟩:=r
   obtain ⟨t',rfl⟩:=r'
   exact call_range_2 (rz I1 q1 q2 q3 q4 q)
noncomputable def ON (wi:TI) (g:TG) (tb:TS):TS:=fun D σ H=>wi σ H fun J H1=> ∃W:Nat->Nat->St->Hp->Prop,(∃m,W 0 m σ H1)/\ ∀i m σ H,W i m σ H->
 (J.stop i H/\D.nx σ H)\/(J.go i H/\ ∃N:St->Hp->Prop,(∀σ' H',N σ' H'-> ∃m',m'<m/\W (i+1) m' σ' H')/\ ∀x H',J.uh i H x H'->g x σ H' fun σ2 H2=>tb { D with nx:=N,ct:=N,bk:=D.nx } σ2 H2)
noncomputable def lV (fp:List Addr) (h:Heap):List (Addr×Obj):=fp.filterMap fun b=>(h.get? b).map fun o=>(b,o)
theorem gH {fp:List Addr} {h:Heap} {b:Addr} {o:Obj} (hb:b∈fp) (e:h.get? b=some o):(b,o)∈lV fp h:=List.mem_filterMap.mpr ⟨b,hb,by rw[e];rfl⟩
theorem xc {fp:List Addr} {h:Heap} {p:Addr×Obj} (hp:p∈lV fp h):p.1∈fp/\h.get? p.1=some p.2:=by
 obtain ⟨b,hb,e⟩:=List.mem_filterMap.mp hp
 cases q:h.get? b with
 | none=>rw[q]at e;cases e
 | some o=>
  rw[q]at e
  have e':(b,o)=p:=Option.some.inj e
  subst e'
  exact ⟨hb,q⟩
theorem Inv.pinned {pins:List (Addr×Obj)} {σ:St} {H:Hp} {s:Shared} {fp:List Addr} (I:Inv X pins σ H s) (hf: ∀b∈fp,la X pins H b) (ho: ∀b∈fp, ∃o,s.heap.get? b=some o/\ ∀v,o.data≠ .cell v):Inv X (pins++lV fp s.heap) σ H s:=
 I.jB fun p hp=>(List.mem_append.mp hp).elim (fun z=>I.pin p (List.mem_append_right _ z)) fun z=>by
  obtain ⟨hb,e⟩:=xc z
  obtain ⟨f0,f1,f2,_⟩:=hf p.1 hb
  obtain ⟨o,e',d⟩:=ho p.1 hb
  rw[e]at e';cases e'
  exact ⟨e,f0,f1,f2,d⟩
theorem Inv.ik {pins pl:List (Addr×Obj)} {σ:St} {H:Hp} {s:Shared} (I:Inv X (pins++pl) σ H s):Inv X pins σ H s:=I.jB fun p hp=>I.pin p (List.mem_append_right _ (List.mem_append_left _ hp))
theorem bI {iter:Expr} {body:List Stmt} {wi:TI} {g:TG} {tb:TS} {pos:Pos} (hp:PassesOwn (model X.prog X.w) X.A X.env X.xe) (hc:X.calm=true) (hi:PI X tg iter wi) (hg:PG X tg g) (hb:w5 X body tb)
  (hs: ∀x,foldedSetIterable iter X.env x=pure x:=by intro _;rfl):PS X (.For tg iter body [] pos) (ON wi g tb):=by
 intro pins s σ H D I h
 refine wpAny_For (bU (hi pins s σ H _ I h) fun v s1 h1=>bU h1 fun OM s2 h2=>?_) hs
 obtain ⟨it,fp,tn,J,H2,e,I2,T,gW,f2,W,⟨m0,w0⟩,turn⟩:=h2
 subst e
 -- XQ stays true of Ca FC objects through Ca loop
 have FD: ∀{H':Hp},(∀b∈fp,H' b=none)-> ∀b∈fp,la X pins H' b:=fun hn b hb=>⟨hn b hb,(f2 b hb).2⟩
 refine codeAny_forLoop_any (fun n s'=> ∃i σ' H',Inv X pins σ' H' s'/\tn i s'.heap/\(∀b∈fp,H' b=none)/\W i n σ' H') ?_ m0 ⟨0,σ,H2,I2,gW,fun b hb=>(f2 b hb).1,w0⟩
 rintro n s3 ⟨i,σ3,H3,I3,yQ,yR,w3⟩
 rcases turn i n σ3 H3 w3 with ⟨stop,qn⟩ | ⟨go,N,hN,step⟩
 ·refine wpAny_passesOwn hp (bU (T.done X rfl rfl rfl hc i pins s3 σ3 H3 X.xe I3 (FD yR) yQ stop) fun r s4 ⟨hr,I4⟩=>?_)
  subst hr
  exact wpAny_execs_nil ⟨σ3,H3,I4,qn⟩
 ·refine wpAny_passesOwn hp (bU (T.item X rfl rfl rfl hc i pins s3 σ3 H3 X.xe I3 (FD yR) yQ go) fun r s4 ⟨u,hr,h4⟩=>?_)
  subst hr
  refine wpAny_passesOwn hp (bU h4 fun _ s5 ⟨x,H5,I5,r5,y5,yS,Ec⟩=>?_)
  have OO:=I5.pinned (FD Ec) (T.obj _ _ yS)
  refine wpAny_passesOwn hp (bU (hg _ s5 σ3 H5 x u _ OO r5 (step x H5 y5)) fun _ s6 ⟨σ6,H6,I6,q6⟩=>?_)
  refine wpAny_passesOwn hp (bU (hb _ s6 σ6 H6 _ I6 q6) fun f s7 q7=>?_)
  have again: ∀{σ7:St} {H7:Hp},Inv X (pins++lV fp s5.heap) σ7 H7 s7->N σ7 H7-> ∃m,m<n/\ ∃i σ' H',Inv X pins σ' H' s7/\tn i s7.heap/\(∀b∈fp,H' b=none)/\W i m σ' H':=fun {σ7 H7} I7 n7=>by
   obtain ⟨m',hm,w7⟩:=hN σ7 H7 n7
   refine ⟨m',hm,i+1,σ7,H7,I7.ik,T.keep _ _ _ yS fun b hb o e=>(I7.pin (b,o) (List.mem_append_right _ (List.mem_append_right _ (gH hb e)))).1,fun b hb=>?_,w7⟩
   obtain ⟨o,e,d⟩:=T.obj _ _ yS b hb
   exact (I7.pin (b,o) (List.mem_append_right _ (List.mem_append_right _ (gH hb e)))).2.1
  cases f with
  | next=>obtain ⟨σ7,H7,I7,n7⟩:=q7;exact again I7 n7
  | cont=>obtain ⟨σ7,H7,I7,n7⟩:=q7;exact again I7 n7
  | brk=>obtain ⟨σ7,H7,I7,q7⟩:=q7;exact ⟨σ7,H7,I7.ik,q7⟩
  | ret v=>obtain ⟨x7,σ7,H7,I7,r7,q7⟩:=q7;exact ⟨x7,σ7,H7,I7.ik,r7,q7⟩
end
theorem il {K:PySem.W.Frag} {a:Addr} {xs:List V} {g:TG} {tb:TS} {D:Ends} {σ:St} {H:Hp} (Pv:Nat->St->Hp->Prop) (h0:Pv 0 σ H) (hl: ∀i σ H,i<=xs.length->Pv i σ H->aJ K H a xs)
  (hs: ∀i x σ H,xs[i]? =some x->Pv i σ H->g x σ H fun σ2 H2=>tb { D with nx:=Pv (i+1),ct:=Pv (i+1),bk:=D.nx } σ2 H2) (hd: ∀σ H,Pv xs.length σ H->D.nx σ H):
  ∃W:Nat->Nat->St->Hp->Prop,(∃m,W 0 m σ H)/\ ∀i m σ H,W i m σ H->
   ((Ir K a).stop i H/\D.nx σ H)\/((Ir K a).go i H/\ ∃N:St->Hp->Prop,(∀σ' H',N σ' H'-> ∃m',m'<m/\W (i+1) m' σ' H')/\ ∀x H',(Ir K a).uh i H x H'->g x σ H' fun σ2 H2=>tb { D with nx:=N,ct:=N,bk:=D.nx } σ2 H2):=by
 refine ⟨fun i m σ H=>m=xs.length - i/\i<=xs.length/\Pv i σ H,⟨xs.length,by simp,Nat.zero_le _,h0⟩,?_⟩
 rintro i m σ H ⟨rfl,hi,p⟩
 have q:=hl i σ H hi p
 by_cases cN:i<xs.length
 ·refine .inr ⟨⟨xs,xs[i],q,by simp[cN]⟩,Pv (i+1),fun σ' H' p'=>⟨xs.length - (i+1),by omega,rfl,cN,p'⟩,fun x H' y=>?_⟩
  obtain ⟨e,y⟩:=y
  subst e
  exact hs i x σ _ (y xs q) p
 ·have e:i=xs.length:=by omega
  subst e
  exact .inl ⟨⟨xs,q,Nat.le_refl _⟩,hd σ H p⟩
theorem Cb {K:PySem.W.Frag} {a:Addr} {xs:List V} {g:TG} {tb:TS} {D:Ends} {σ:St} {H:Hp} (Pv:Nat->St->Hp->Prop) (h0:Pv 0 σ H) (hl: ∀i σ H,i<=xs.length->Pv i σ H->aY K H a xs)
  (hs: ∀i x σ H,xs[i]? =some x->Pv i σ H->g x σ H fun σ2 H2=>tb { D with nx:=Pv (i+1),ct:=Pv (i+1),bk:=D.nx } σ2 H2) (hd: ∀σ H,Pv xs.length σ H->D.nx σ H):
  ∃W:Nat->Nat->St->Hp->Prop,(∃m,W 0 m σ H)/\ ∀i m σ H,W i m σ H->
   ((Iu K a).stop i H/\D.nx σ H)\/((Iu K a).go i H/\ ∃N:St->Hp->Prop,(∀σ' H',N σ' H'-> ∃m',m'<m/\W (i+1) m' σ' H')/\ ∀x H',(Iu K a).uh i H x H'->g x σ H' fun σ2 H2=>tb { D with nx:=N,ct:=N,bk:=D.nx } σ2 H2):=by
 refine ⟨fun i m σ H=>m=xs.length - i/\i<=xs.length/\Pv i σ H,⟨xs.length,by simp,Nat.zero_le _,h0⟩,?_⟩
 rintro i m σ H ⟨rfl,hi,p⟩
 have q:=hl i σ H hi p
 by_cases cN:i<xs.length
 ·refine .inr ⟨⟨xs,xs[i],q,by simp[cN]⟩,Pv (i+1),fun σ' H' p'=>⟨xs.length - (i+1),by omega,rfl,cN,p'⟩,fun x H' y=>?_⟩
  obtain ⟨e,y⟩:=y
  subst e
  exact hs i x σ _ (y xs q) p
 ·have e:i=xs.length:=by omega
  subst e
  exact .inl ⟨⟨xs,q,Nat.le_refl _⟩,hd σ H p⟩
theorem gh {lo:Int} {n:Nat} {g:TG} {tb:TS} {D:Ends} {σ:St} {H:Hp} (Pv:Nat->St->Hp->Prop) (h0:Pv 0 σ H)
  (hs: ∀i σ H,i<n->Pv i σ H->g (.int (lo+i)) σ H fun σ2 H2=>tb { D with nx:=Pv (i+1),ct:=Pv (i+1),bk:=D.nx } σ2 H2) (hd: ∀σ H,Pv n σ H->D.nx σ H):
  ∃W:Nat->Nat->St->Hp->Prop,(∃m,W 0 m σ H)/\ ∀i m σ H,W i m σ H->
   ((Ea lo n).stop i H/\D.nx σ H)\/((Ea lo n).go i H/\ ∃N:St->Hp->Prop,(∀σ' H',N σ' H'-> ∃m',m'<m/\W (i+1) m' σ' H')/\ ∀x H',(Ea lo n).uh i H x H'->g x σ H' fun σ2 H2=>tb { D with nx:=N,ct:=N,bk:=D.nx } σ2 H2):=by
 refine ⟨fun i m σ H=>m=n - i/\i<=n/\Pv i σ H,⟨n,by simp,Nat.zero_le _,h0⟩,?_⟩
 rintro i m σ H ⟨rfl,hi,p⟩
 by_cases cN:i<n
 ·refine .inr ⟨cN,Pv (i+1),fun σ' H' p'=>⟨n - (i+1),by omega,rfl,cN,p'⟩,fun x H' y=>?_⟩
  obtain ⟨e,y⟩:=y
  subst e y
  exact hs i σ _ cN p
 ·have e:i=n:=by omega
  subst e
  exact .inl ⟨Nat.le_refl _,hd σ H p⟩
end L2
namespace L2
open PySem PySem.Spec PyProof.Rows
noncomputable abbrev R2:=V->V->Hp->VK->Prop
noncomputable def gI (X:Cx) (f:Value->Value->Sem Value) (r:R2):Prop:=
 ∀(pins:List (Addr×Obj)) (s:Shared) (σ:St) (H:Hp) (x y:V) (v u:Value) (Q:VK),Inv X pins σ H s->RelV x v->RelV y u->r x y H Q->
  wpAny (model X.prog X.w) X.A (f v u) (EP X pins σ Q) X.xe s
noncomputable def OP (X:Cx) (f:Value->Sem Value) (r:V->Hp->VK->Prop):Prop:=
 ∀(pins:List (Addr×Obj)) (s:Shared) (σ:St) (H:Hp) (x:V) (v:Value) (Q:VK),Inv X pins σ H s->RelV x v->r x H Q->
  wpAny (model X.prog X.w) X.A (f v) (EP X pins σ Q) X.xe s
noncomputable def cY (X:Cx) (f:Value) (r:List V->Hp->VK->Prop):Prop:=
 ∀(pins:List (Addr×Obj)) (s:Shared) (σ:St) (H:Hp) (xs:List V) (us:List Value) (Q:VK),Inv X pins σ H s->Vals xs us->r xs H Q->
  wpAny (model X.prog X.w) X.A (call f us) (EP X pins σ Q) X.xe s
noncomputable def OQ (X:Cx) (r:V->Hp->(Bool->Hp->Prop)->Prop):Prop:=
 ∀(pins:List (Addr×Obj)) (s:Shared) (σ:St) (H:Hp) (x:V) (v:Value) (Q:Bool->Hp->Prop),Inv X pins σ H s->RelV x v->r x H Q->
  wpAny (model X.prog X.w) X.A (truthy v) (TP X pins σ Q) X.xe s
noncomputable def MG (r:R2) (ta tb:TE):TE:=fun σ H Q=>ta σ H fun x H1=>tb σ H1 fun y H2=>r x y H2 Q
noncomputable def XR (r:V->Hp->VK->Prop) (ta:TE):TE:=fun σ H Q=>ta σ H fun x H1=>r x H1 Q
noncomputable def rI (C:Int->Int->Prop) (g:Int->Int->V):R2:=fun x y H Q=> ∃i j,x= .int i/\y= .int j/\C i j/\Q (g i j) H
noncomputable def BI (g:Int->Int->V):R2:=fun x y H Q=> ∃i j,x= .int i/\y= .int j/\Q (g i j) H
noncomputable def rU (g:Int->V):V->Hp->VK->Prop:=fun x H Q=> ∃i,x= .int i/\Q (g i) H
section
variable {X:Cx} {a b c:Expr} {ta tb tc:TE} {pos:Pos}
theorem FE (ha:PE X a ta) (hb:PE X b tb) {pins:List (Addr×Obj)} {s:Shared} {σ:St} {H:Hp} {R:V->V->Hp->Prop} (I:Inv X pins σ H s)
  (h:ta σ H fun x H1=>tb σ H1 fun y H2=>R x y H2) {Q:Value->Shared->Prop} {f:Value->Value->Sem Value}
  (hf: ∀v u s2 x y H2,Inv X pins σ H2 s2->RelV x v->RelV y u->R x y H2->wpAny (model X.prog X.w) X.A (f v u) Q X.xe s2):
  wpAny (model X.prog X.w) X.A (eval a X.env) (fun v s₁=>wpAny (model X.prog X.w) X.A (eval b X.env) (fun u s₂=>wpAny (model X.prog X.w) X.A (f v u) Q X.xe s₂) X.xe s₁) X.xe s:=by
 refine bU (ha pins s σ H _ I h) fun v s1 ⟨x,H1,I1,r1,q1⟩=>?_
 refine bU (hb pins s1 σ H1 _ I1 q1) fun u s2 ⟨y,H2,I2,r2,q2⟩=>?_
 exact hf v u s2 x y H2 I2 r1 r2 q2
theorem aB {op:Operator} {r:R2} (ho:gI X (binaryOp op) r) (ha:PE X a ta) (hb:PE X b tb):PE X (.BinOp a op b pos) (MG r ta tb):=by
 intro pins s σ H Q I h
 exact wpAny_BinOp (FE ha hb I h fun v u s2 x y H2 I2 rx ry q=>ho pins s2 σ H2 x y v u Q I2 rx ry q)
theorem Ed {op:UnaryOp} {r:V->Hp->VK->Prop} (ho:OP X (unaryOp op) r) (ha:PE X a ta):PE X (.UnaryOp op a pos) (XR r ta):=by
 intro pins s σ H Q I h
 exact UnaryOp_ (bU (ha pins s σ H _ I h) fun v s1 ⟨x,H1,I1,r1,q1⟩=>ho pins s1 σ H1 x v Q I1 r1 q1)
theorem MH {f:Value->Value->Sem Value} {C:Int->Int->Prop} {g:Int->Int->Int}
  (rule: ∀(i j:Int) (t u:Tok) (s:Shared) (Q:Value->Shared->Prop) (E:Value->Shared->Prop),C i j->Q (.int (g i j) s.toks) { s with toks:=s.toks+1 }->wpAny (model X.prog X.w) X.A (f (.int i t) (.int j u)) Q E s):
  gI X f (rI C fun i j=> .int (g i j)):=by
 intro pins s σ H x y v u Q I rx ry h
 obtain ⟨i,j,rfl,rfl,hc,q⟩:=h
 obtain ⟨t,rfl⟩:=rx
 obtain ⟨t',rfl⟩:=ry
 exact rule i j t t' s _ _ hc ⟨.int (g i j),H,I.tok _,⟨_,rfl⟩,q⟩
theorem JH {f:Value->Value->Sem Value} {g:Int->Int->Int}
  (rule: ∀(i j:Int) (t u:Tok) (s:Shared) (Q:Value->Shared->Prop) (E:Value->Shared->Prop),Q (.int (g i j) s.toks) { s with toks:=s.toks+1 }->wpAny (model X.prog X.w) X.A (f (.int i t) (.int j u)) Q E s):
  gI X f (BI fun i j=> .int (g i j)):=by
 intro pins s σ H x y v u Q I rx ry h
 obtain ⟨i,j,rfl,rfl,q⟩:=h
 obtain ⟨t,rfl⟩:=rx
 obtain ⟨t',rfl⟩:=ry
 exact rule i j t t' s _ _ ⟨.int (g i j),H,I.tok _,⟨_,rfl⟩,q⟩
theorem Cc {f:Value->Value->Sem Value} {g:Int->Int->Bool}
  (rule: ∀(i j:Int) (t u:Tok) (s:Shared) (Q:Value->Shared->Prop) (E:Value->Shared->Prop),Q (.bool (g i j)) s->wpAny (model X.prog X.w) X.A (f (.int i t) (.int j u)) Q E s):
  gI X f (BI fun i j=> .bl (g i j)):=by
 intro pins s σ H x y v u Q I rx ry h
 obtain ⟨i,j,rfl,rfl,q⟩:=h
 obtain ⟨t,rfl⟩:=rx
 obtain ⟨t',rfl⟩:=ry
 exact rule i j t t' s _ _ ⟨.bl (g i j),H,I,rfl,q⟩
noncomputable def OR (i j:Int):Prop:=0<j/\j<1073741824
noncomputable def OS (i j:Int):Prop:=0<=j/\j<=1000000/\i.natAbs<2 ^ 64
noncomputable def FF (i j:Int):Prop:=(-(2 ^ 64)<i/\i<2 ^ 64)\/(-(2 ^ 64)<j/\j<2 ^ 64)
theorem FF.ok {i j:Int} (h:FF i j):IntMulOk i j:=by
 rcases h with ⟨h1,h2⟩ | ⟨h1,h2⟩
 ·exact .of_left (intBits_le_64 h1 h2)
 ·exact .of_right (intBits_le_64 h1 h2)
theorem bB:gI X (binaryOp .Add) (BI fun i j=> .int (i+j)):=JH fun _ _ _ _ _ _ _ q=>add_int q
theorem cB:gI X (binaryOp .Sub) (BI fun i j=> .int (i - j)):=JH fun _ _ _ _ _ _ _ q=>sub_int q
theorem kh:gI X (binaryOp .Mult) (rI FF fun i j=> .int (i*j)):=MH fun _ _ _ _ _ _ _ hc q=>mul_int q hc.ok
theorem pZ:gI X (binaryOp .FloorDiv) (rI OR fun i j=> .int (i / j)):=MH fun i j _ _ _ _ _ hc q=>by
 have h1:(0:Int)<j:=hc.1
 have h2:j<1073741824:=hc.2
 exact floordiv_int (by omega) (by rw[Int.fdiv_eq_ediv_of_nonneg i (by omega)];exact q) (.inl (PyProof.noPylong_small (by omega)))
theorem gJ:gI X (binaryOp .Mod) (rI (fun _ j=>0<j) fun i j=> .int (i%j)):=MH fun i j _ _ _ _ _ hc q=>by
 have h1:(0:Int)<j:=hc
 exact mod_int' (by omega) (by rw[Int.fmod_eq_emod_of_nonneg i (by omega)];exact q)
theorem zr:gI X (binaryOp .Pow) (rI OS fun i j=> .int (i ^ j.toNat)):=MH fun _ _ _ _ _ _ _ hc q=>pow_int_small hc.1 hc.2.1 hc.2.2 q
theorem XS {f:Value->Sem Value} {g:Int->Int}
  (rule: ∀(i:Int) (t:Tok) (s:Shared) (Q:Value->Shared->Prop) (E:Value->Shared->Prop),Q (.int (g i) s.toks) { s with toks:=s.toks+1 }->wpAny (model X.prog X.w) X.A (f (.int i t)) Q E s):
  OP X f (rU fun i=> .int (g i)):=by
 intro pins s σ H x v Q I rx h
 obtain ⟨i,rfl,q⟩:=h
 obtain ⟨t,rfl⟩:=rx
 exact rule i t s _ _ ⟨.int (g i),H,I.tok _,⟨_,rfl⟩,q⟩
theorem zu:OP X (unaryOp .USub) (rU fun i=> .int (-i)):=XS fun _ _ _ _ _ q=>neg_int q
end
noncomputable def JI:V->V->Bool
 | .cy, .cy=>true | .cy, .int _=>true | .int _, .cy=>true | .cy, .bl _=>true | .bl _, .cy=>true | .cy, .str _=>true | .str _, .cy=>true
 | .int _, .int _=>true | .bl _, .bl _=>true | .str _, .str _=>true | .wX _, .wX _=>true
 | .int _, .str _=>true | .str _, .int _=>true | .bl _, .str _=>true | .str _, .bl _=>true
 | _,_=>false
noncomputable def XT:R2:=fun x y H Q=>JI x y=true/\Q (.bl (decide (x=y))) H
noncomputable def XU:R2:=fun x y H Q=>JI x y=true/\Q (.bl (!decide (x=y))) H
theorem vO {i j:Int}:decide (V.int i=V.int j)=(i==j):=by
 rw[Bool.eq_iff_iff]
 simp
theorem zw {i j:Bool}:decide (V.bl i=V.bl j)=(i==j):=by
 rw[Bool.eq_iff_iff]
 simp
theorem vP {i j:Str}:decide (V.str i=V.str j)=(i==j):=by
 rw[Bool.eq_iff_iff]
 simp
theorem vQ {i j:Array UInt8}:decide (V.wX i=V.wX j)=(i.toList==j.toList):=by
 rw[Bool.eq_iff_iff]
 cases i
 cases j
 simp
section
variable {X:Cx} {a b c:Expr} {ta tb tc:TE} {pos:Pos}
theorem bo {pins:List (Addr×Obj)} {σ:St} {H:Hp} {s:Shared} {Q:VK} {k k':Bool} (I:Inv X pins σ H s) (q:Q (.bl k) H) (e:k=k'):EP X pins σ Q (.bool k') s:=by
 subst e
 exact ⟨.bl k,H,I,rfl,q⟩
theorem Ee:gI X (compareOp .Eq) XT:=by
 intro pins s σ H x y v u Q I rx ry h
 obtain ⟨hs,q⟩:=h
 cases x with
 | cy=>
  cases rx
  cases y with
  | cy=>cases ry;exact PySem.EqNone.eq_none_none (bo I q (by simp))
  | bl j=>cases ry;exact PySem.EqNone.eq_none_bool (bo I q (by simp))
  | int j=>obtain ⟨t',rfl⟩:=ry;exact PySem.EqNone.eq_none_int (bo I q (by simp))
  | str j=>obtain ⟨t',rfl⟩:=ry;exact PySem.EqNone.eq_none_str (bo I q (by simp))
  | _=>exact absurd (show false=true from hs) Bool.false_ne_true
 | bl i=>
  cases rx
  cases y with
  | cy=>cases ry;exact PySem.EqNone.eq_bool_none (bo I q (by simp))
  | bl j=>cases ry;exact eq_bool (bo I q zw)
  | str j=>obtain ⟨t',rfl⟩:=ry;exact PySem.EqMixed.eq_bool_str (bo I q (by simp))
  | _=>exact absurd (show false=true from hs) Bool.false_ne_true
 | int i=>
  obtain ⟨t,rfl⟩:=rx
  cases y with
  | cy=>cases ry;exact PySem.EqNone.eq_int_none (bo I q (by simp))
  | int j=>obtain ⟨t',rfl⟩:=ry;exact eq_int (bo I q vO)
  | str j=>obtain ⟨t',rfl⟩:=ry;exact PySem.EqMixed.eq_int_str (bo I q (by simp))
  | _=>exact absurd (show false=true from hs) Bool.false_ne_true
 | str i=>
  obtain ⟨t,rfl⟩:=rx
  cases y with
  | cy=>cases ry;exact PySem.EqNone.eq_str_none (bo I q (by simp))
  | bl j=>cases ry;exact PySem.EqMixed.eq_str_bool (bo I q (by simp))
  | int j=>obtain ⟨t',rfl⟩:=ry;exact PySem.EqMixed.eq_str_int (bo I q (by simp))
  | str j=>obtain ⟨t',rfl⟩:=ry;exact eq_str (bo I q vP)
  | _=>exact absurd (show false=true from hs) Bool.false_ne_true
 | wX i=>
  obtain ⟨t,rfl⟩:=rx
  cases y with
  | wX j=>obtain ⟨t',rfl⟩:=ry;exact PySem.W.eq_bytes (bo I q vQ)
  | _=>exact absurd (show false=true from hs) Bool.false_ne_true
 | _=>cases y<;>exact absurd (show false=true from hs) Bool.false_ne_true
theorem Ef:gI X (compareOp .NotEq) XU:=by
 intro pins s σ H x y v u Q I rx ry h
 obtain ⟨hs,q⟩:=h
 cases x with
 | cy=>
  cases rx
  cases y with
  | cy=>cases ry;exact PySem.EqNone.ne_none_none (bo I q (by simp))
  | bl j=>cases ry;exact PySem.EqNone.ne_none_bool (bo I q (by simp))
  | int j=>obtain ⟨t',rfl⟩:=ry;exact PySem.EqNone.ne_none_int (bo I q (by simp))
  | str j=>obtain ⟨t',rfl⟩:=ry;exact PySem.EqNone.ne_none_str (bo I q (by simp))
  | _=>exact absurd (show false=true from hs) Bool.false_ne_true
 | bl i=>
  cases rx
  cases y with
  | cy=>cases ry;exact PySem.EqNone.ne_bool_none (bo I q (by simp))
  | bl j=>cases ry;exact ne_bool (bo I q (congrArg not zw))
  | str j=>obtain ⟨t',rfl⟩:=ry;exact PySem.EqMixed.ne_bool_str (bo I q (by simp))
  | _=>exact absurd (show false=true from hs) Bool.false_ne_true
 | int i=>
  obtain ⟨t,rfl⟩:=rx
  cases y with
  | cy=>cases ry;exact PySem.EqNone.ne_int_none (bo I q (by simp))
  | int j=>obtain ⟨t',rfl⟩:=ry;exact ne_int (bo I q (congrArg not vO))
  | str j=>obtain ⟨t',rfl⟩:=ry;exact PySem.EqMixed.ne_int_str (bo I q (by simp))
  | _=>exact absurd (show false=true from hs) Bool.false_ne_true
 | str i=>
  obtain ⟨t,rfl⟩:=rx
  cases y with
  | cy=>cases ry;exact PySem.EqNone.ne_str_none (bo I q (by simp))
  | bl j=>cases ry;exact PySem.EqMixed.ne_str_bool (bo I q (by simp))
  | int j=>obtain ⟨t',rfl⟩:=ry;exact PySem.EqMixed.ne_str_int (bo I q (by simp))
  | str j=>obtain ⟨t',rfl⟩:=ry;exact ne_str (bo I q (congrArg not vP))
  | _=>exact absurd (show false=true from hs) Bool.false_ne_true
 | wX i=>
  obtain ⟨t,rfl⟩:=rx
  cases y with
  | wX j=>obtain ⟨t',rfl⟩:=ry;exact PySem.W.ne_bytes (bo I q (congrArg not vQ))
  | _=>exact absurd (show false=true from hs) Bool.false_ne_true
 | _=>cases y<;>exact absurd (show false=true from hs) Bool.false_ne_true
theorem lW:gI X (compareOp .Lt) (BI fun i j=> .bl (decide (i<j))):=Cc fun _ _ _ _ _ _ _ q=>lt_int q
theorem fc:gI X (compareOp .LtE) (BI fun i j=> .bl (decide (i<=j))):=Cc fun _ _ _ _ _ _ _ q=>le_int q
theorem oE:gI X (compareOp .Gt) (BI fun i j=> .bl (decide (j<i))):=Cc fun _ _ _ _ _ _ _ q=>gt_int q
theorem Eg:gI X (compareOp .GtE) (BI fun i j=> .bl (decide (j<=i))):=Cc fun _ _ _ _ _ _ _ q=>ge_int q
theorem xf:gI X (compareOp .Lt) (fun x y H Q=> ∃i j,x= .str i/\y= .str j/\Q (.bl (decide (i.cps.toList<j.cps.toList))) H):=by
 intro pins s σ H x y v u Q I rx ry h
 obtain ⟨i,j,rfl,rfl,q⟩:=h
 obtain ⟨t,rfl⟩:=rx
 obtain ⟨t',rfl⟩:=ry
 exact lt_str (bo I q rfl)
theorem xg:gI X (compareOp .In) (fun x y H Q=> ∃i j,x= .str i/\y= .str j/\Q (.bl (!(Builtin.Str.occurrences j i 0 j.length 1).isEmpty)) H):=by
 intro pins s σ H x y v u Q I rx ry h
 obtain ⟨i,j,rfl,rfl,q⟩:=h
 obtain ⟨t,rfl⟩:=rx
 obtain ⟨t',rfl⟩:=ry
 exact in_str (bo I q rfl)
theorem Cd:gI X (compareOp .IsNot) (fun x y H Q=>y= .cy/\Q (.bl (!decide (x= .cy))) H):=by
 intro pins s σ H x y v u Q I rx ry h
 obtain ⟨rfl,q⟩:=h
 cases ry
 refine isnot_none_gen (bo I q ?_)
 cases x<;>first
  |(cases rx;rfl)
  |(obtain ⟨t,rfl⟩:=rx;rfl)
theorem bb (b:Expr) {op:CmpOp} (h:op≠ .In:=by decide) (h2:op≠ .NotIn:=by decide):behindInMarks op b=false:=by
 have e1:(op==CmpOp.In)=false:=by cases op<;>first | rfl | exact absurd rfl h
 have e2:(op==CmpOp.NotIn)=false:=by cases op<;>first | rfl | exact absurd rfl h2
 cases b<;>simp[behindInMarks,e1,e2]
theorem jE {op:CmpOp} {r:R2} (ho:gI X (compareOp op) r) (ha:PE X a ta) (hb:PE X b tb) (hm:behindInMarks op b=false):PE X (.Compare a [op] [b] pos) (MG r ta tb):=by
 intro pins s σ H Q I h
 exact wpAny_Compare1 (FE ha hb I h fun v u s2 x y H2 I2 rx ry q=>ho pins s2 σ H2 x y v u Q I2 rx ry q) hm
noncomputable def Eh (t:TE):TT:=fun σ H Q=>t σ H fun x H'=> ∃k,x= .bl k/\Q k H'
theorem aH {op:CmpOp} {r:R2} (ho:gI X (compareOp op) r) (ha:PE X a ta) (hb:PE X b tb) (hm:behindInMarks op b=false):PT X (.Compare a [op] [b] pos) (Eh (MG r ta tb)):=by
 intro pins s σ H Q I h
 refine wpAny_isTrue_Compare1 (bU (ha pins s σ H _ I h) fun v s1 ⟨x,H1,I1,r1,q1⟩=>bU (hb pins s1 σ H1 _ I1 q1) fun u s2 ⟨y,H2,I2,r2,q2⟩=>
  bU (ho pins s2 σ H2 x y v u _ I2 r1 r2 q2) fun c s3 ⟨z,H3,I3,r3,k,e,q3⟩=>?_) hm
 subst e
 cases r3
 exact wpAny_truthy_bool ⟨H3,I3,q3⟩
noncomputable def FG (r r':R2) (ta tb tc:TE):TE:=fun σ H Q=>ta σ H fun x H1=>tb σ H1 fun y H2=>r x y H2 fun z H3=> ∃k,z= .bl k/\
 (if k=true then tc σ H3 fun w' H4=>r' y w' H4 Q else Q (.bl false) H3)
theorem c_ {op OT:CmpOp} {r r':R2} (ho:gI X (compareOp op) r) (gG:gI X (compareOp OT) r') (ha:PE X a ta) (hb:PE X b tb) (hc:PE X c tc)
  (hm:lastMarks [op,OT] [b,c]=false:=by with_unfolding_all rfl):PT X (.Compare a [op,OT] [b,c] pos) (Eh (FG r r' ta tb tc)):=by
 intro pins s σ H Q I h
 refine isTrue_chain (bU (ha pins s σ H _ I h) fun v s1 ⟨x,H1,I1,r1,q1⟩=>test_link (bU (hb pins s1 σ H1 _ I1 q1) fun u s2 ⟨y,H2,I2,r2,q2⟩=>
  bU (ho pins s2 σ H2 x y v u _ I2 r1 r2 q2) fun d s3 ⟨z,H3,I3,r3,k,e,q3⟩=>?_)) hm
 subst e
 cases r3
 refine wpAny_truthy_bool ?_
 cases k with
 | false=>
  obtain ⟨k',e',q'⟩:=q3
  cases e'
  exact ite_ff ⟨H3,I3,q'⟩
 | true=>
  refine ite_tt (test_last (bU (hc pins s3 σ H3 _ I3 q3) fun w' s4 ⟨z',H4,I4,r4,q4⟩=>bU (gG pins s4 σ H4 y z' u w' _ I4 r2 r4 q4) fun d' s5 ⟨z2,H5,I5,r5,k2,e2,q5⟩=>?_))
  subst e2
  cases r5
  exact wpAny_truthy_bool ⟨H5,I5,q5⟩
noncomputable def OU (K:PySem.W.Frag) (x:V) (H:Hp) (k:Bool):Prop:=
 match x with
 | .cy=>k=false
 | .bl b=>k=b
 | .int i=>k=(i != 0)
 | .str y=>y.length<=sizeLine/\k=((y.length:Int) != 0)
 | .wX y=>y.size<=sizeLine/\k=((y.size:Int) != 0)
 | .ref p=>(∃xs,aJ K H p xs/\k=!xs.isEmpty)\/(∃xs,aY K H p xs/\k=!xs.isEmpty)\/ ∃kvs,H p=some (.dK kvs)/\k=!kvs.isEmpty
 | _=>False
theorem uk {κ:Type} {kvs:List (κ×V)} {vs:List (κ×Value)} (r:KV kvs vs):(!vs.isEmpty)=!kvs.isEmpty:=by
 cases r<;>rfl
theorem lX {xs:List V} {az:List Value} (r:Vals xs az):(!az.toArray.isEmpty)=!xs.isEmpty:=by
 cases r<;>simp
theorem fZ:(sizeLine:Nat)<2 ^ 63:=by rw[sizeLine_eq];decide
theorem FH:OQ X (fun x H Q=> ∃k,OU X.K x H k/\Q k H):=by
 intro pins s σ H x v Q I rx h
 obtain ⟨k,e,q⟩:=h
 have hl:=fZ
 have hs:sizeLine=16777216:=sizeLine_eq
 cases x with
 | cy=>
  cases rx
  have e':k=false:=e
  subst e'
  exact truthy_none ⟨H,I,q⟩
 | bl b=>
  cases rx
  have e':k=b:=e
  subst e'
  exact wpAny_truthy_bool ⟨H,I,q⟩
 | int i=>
  obtain ⟨t,rfl⟩:=rx
  have e':k=(i != 0):=e
  subst e'
  exact PySem.P.truthy_int ⟨H,I,q⟩
 | str y=>
  obtain ⟨t,rfl⟩:=rx
  obtain ⟨hy,e'⟩:y.length<=sizeLine/\k=((y.length:Int) != 0):=e
  subst e'
  exact PySem.P.truthy_str (by omega) ⟨H,I.tok _,q⟩
 | wX y=>
  obtain ⟨t,rfl⟩:=rx
  obtain ⟨hy,e'⟩:y.size<=sizeLine/\k=((y.size:Int) != 0):=e
  subst e'
  exact PySem.W.truthy_bytes (by omega) ⟨H,I.tok _,q⟩
 | ref p=>
  cases rx
  have e':(∃xs,aJ X.K H p xs/\k=!xs.isEmpty)\/(∃xs,aY X.K H p xs/\k=!xs.isEmpty)\/ ∃kvs,H p=some (.dK kvs)/\k=!kvs.isEmpty:=e
  rcases e' with ⟨xs,hx,e'⟩ | ⟨xs,hx,e'⟩ | ⟨kvs,hx,e'⟩
  ·subst e'
   obtain ⟨az,r,pl,hz⟩:=I.list hx
   have hlen:=r.length
   exact wpAny_truthy_list pl.isList (by simp only[List.size_toArray];omega) ⟨H,I.tok _,by rw[lX r];exact q⟩
  ·subst e'
   obtain ⟨az,r,pl,hz⟩:=I.tuple hx
   have hlen:=r.length
   exact truthy_tuple pl (by simp only[List.size_toArray];omega) ⟨H,I.tok _,by rw[lX r];exact q⟩
  ·subst e'
   obtain ⟨hz,hS,vs,r,m⟩:kvs.length<=sizeLine/\(p==sysModules)=false/\ ∃vs,KV kvs vs/\s.heap.DictOf (bJ X.prog X.w) p vs:=I.bq p _ hx
   have hlen:kvs.length=vs.length:=Paired.length r
   exact wpAny_truthy_dict hS m (by omega) ⟨H,I.tok _,by rw[uk r];exact q⟩
 | _=>exact (show False from e).elim
theorem um:gI X (binaryOp .Add) (fun x y H Q=> ∃i j,x= .str i/\y= .str j/\i.length+j.length<=sizeLine/\Q (.str (i++j)) H):=by
 intro pins s σ H x y v u Q I rx ry h
 obtain ⟨i,j,rfl,rfl,hz,q⟩:=h
 obtain ⟨t,rfl⟩:=rx
 obtain ⟨t',rfl⟩:=ry
 exact add_str (fun t' tk=>⟨.str (i++j),H,I.tok _,⟨_,rfl⟩,q⟩) hz
theorem vals1 {x:V} {us:List Value} (r:Vals [x] us): ∃u,us=[u]/\RelV x u:=by
 cases r with
 | cons r1 r2=>cases r2;exact ⟨_,rfl,r1⟩
theorem vals2 {x y:V} {us:List Value} (r:Vals [x,y] us): ∃u w',us=[u,w']/\RelV x u/\RelV y w':=by
 cases r with
 | cons r1 r2=>
  cases r2 with
  | cons r3 r4=>cases r4;exact ⟨_,_,rfl,r1,r3⟩
theorem xh (hc:X.calm=true):cY X (.builtin "max") (fun xs H Q=> ∃i j,xs=[.int i, .int j]/\Q (.int (if j>i then j else i)) H):=by
 intro pins s σ H xs us Q I r h
 obtain ⟨i,j,rfl,q⟩:=h
 obtain ⟨u,w',rfl,⟨t,rfl⟩,⟨t',rfl⟩⟩:=vals2 r
 refine max_two_ints (I.ok.hd hc) fun h' tk k=>⟨_,H,I.kept k,?_,q⟩
 by_cases hj:j>i
 ·rw[if_pos hj,if_pos hj];exact ⟨_,rfl⟩
 ·rw[if_neg hj,if_neg hj];exact ⟨_,rfl⟩
theorem xj (hc:X.calm=true):cY X (.builtin "min") (fun xs H Q=> ∃i j,xs=[.int i, .int j]/\Q (.int (if j<i then j else i)) H):=by
 intro pins s σ H xs us Q I r h
 obtain ⟨i,j,rfl,q⟩:=h
 obtain ⟨u,w',rfl,⟨t,rfl⟩,⟨t',rfl⟩⟩:=vals2 r
 refine min_two_ints (I.ok.hd hc) fun h' tk k=>⟨_,H,I.kept k,?_,q⟩
 by_cases hj:j<i
 ·rw[if_pos hj,if_pos hj];exact ⟨_,rfl⟩
 ·rw[if_neg hj,if_neg hj];exact ⟨_,rfl⟩
theorem ki:cY X (.type "int") (fun xs H Q=>(∃i,xs=[.int i]/\Q (.int i) H)\/ ∃k,xs=[.bl k]/\Q (.int (if k then 1 else 0)) H):=by
 intro pins s σ H xs us Q I r h
 rcases h with ⟨i,rfl,q⟩ | ⟨k,rfl,q⟩
 ·obtain ⟨u,rfl,t,rfl⟩:=vals1 r
  exact call_int_int ⟨.int i,H,I,⟨_,rfl⟩,q⟩
 ·obtain ⟨u,rfl,r1⟩:=vals1 r
  cases r1
  exact call_int_bool ⟨.int (if k then 1 else 0),H,I.tok _,⟨_,rfl⟩,q⟩
end
end L2
namespace L2
open PySem PySem.Spec PyProof.Rows
structure FI (h:Heap) (x dx C:Addr) (mA:Str->Option Value):Prop where
 obj:h.get? x=some (PySem.W.instObj C dx)
 ns:h.Ns1 dx mA
 ne:dx≠x
theorem xk {h:Heap} {dx:Addr} {mA:Str->Option Value} (n:h.Ns1 dx mA): ∃od,h.get? dx=some od/\ ∀name,PySem.W.lookIn name od=some (mA name):=by
 obtain ⟨o,es,ep,ho,hd,hk,_,hm⟩:=n
 refine ⟨o,ho,fun name=>?_⟩
 have e:=hm name
 unfold nsFind findBy at e
 rw[<-Array.find?_toList]at e
 unfold PySem.W.lookIn
 rw[hd]
 dsimp only
 split
 ·rename_i y q
  rw[q]at e
  exact congrArg some e
 ·rename_i q
  rw[q]at e
  have a:es.toList.any (·.refKey)=false:=by
   rw[List.any_eq_false]
   intro y hy
   obtain ⟨z,t,OV⟩:=hk y (Array.mem_toList_iff.mp hy)
   simp[DictEntry.refKey,OV]
  have a': ¬es.toList.any (·.refKey)=true:=by rw[a];exact Bool.false_ne_true
  rw[if_neg a']
  exact congrArg some e
theorem FI.look {h:Heap} {x dx C:Addr} {mA:Str->Option Value} (I:FI h x dx C mA): ∃od,PySem.W.InstAt h x (PySem.W.instObj C dx) C (some od)/\ ∀name,PySem.W.lookIn name od=some (mA name):=
 let ⟨od,ho,hl⟩:=xk I.ns
 ⟨od,⟨I.obj,rfl,rfl,ho⟩,hl⟩
section
variable {prog:Program} {w:World} {A:Around} {E:Value->Shared->Prop} {s:Shared} {K:PySem.W.Frag} {x dx C f:Addr} {mA:Str->Option Value} {name:Str} {v:Value}
end
theorem lN.some_of {v:V} {o:Option Value} (r:lN (some v) o): ∃u,o=some u/\RelV v u:=by
 cases o with
 | none=>exact (show False from r).elim
 | some u=>exact ⟨u,rfl,r⟩
section
variable {P:Program} {w:World} {H H':Hp} {h h':Heap} {a C dx:Addr} {fs XH:List (Str×V)}
theorem Ce (bq:jm P w H h) (e:H a=some (.ins C dx fs)): ∃mA,FI h a dx C mA/\(∀f,lN (fs.lookup f) (mA f))/\PySem.Within mA (fs.map (·.1))/\fs.length<=1000/\H dx=some (.own a):=by
 obtain ⟨d,z,ne,ob,mA,n,r,q⟩:=(show cb P w H h a (.ins C dx fs) from bq a _ e)
 exact ⟨mA,⟨ob,n,ne⟩,r,q,z,d⟩
end
structure OW (K:PySem.W.Frag) (C:Addr):Prop where
 pg:PySem.W.plainGet K C Str.empty=true
 hd:PySem.W.hasDictIn K C=true
 po:PySem.W.plainOver K C=true
 sa:PySem.W.findIn K (.ref C) "__setattr__"=some (some (.builtin "object.__setattr__"))
theorem OW.get {K:PySem.W.Frag} {C:Addr} (c:OW K C) (f:Str):PySem.W.plainGet K C f=true:=c.pg
structure Con (K:PySem.W.Frag) (C:Addr) (f:Str) (v:V) (u:Value):Prop where
 at_:PySem.W.findIn K (.ref C) f=some (some u)
 rel:RelV v u
 get:PySem.W.specialIn K u "__get__"=some none
 cp:PySem.W.copiedNames.contains f=false
structure Meth (K:PySem.W.Frag) (C:Addr) (m:Str) (f:Addr):Prop where
 at_:PySem.W.findIn K (.ref C) m=some (some (.ref f))
 fn:PySem.W.isFn K (.ref f)=true
 kp:PySem.W.keepIn K (.ref f)=true
section
variable {X:Cx} {pins:List (Addr×Obj)} {σ:St} {H:Hp} {s:Shared} {a C dx:Addr} {fs:List (Str×V)} {f:Str} {v:V} {A:Around} {E:Value->Shared->Prop}
end
section
variable {X:Cx} {o e value:Expr} {f:Str} {pos pos' OX:Pos} {ta tv:TE}
end
section
variable {X:Cx} {pins:List (Addr×Obj)} {σ:St} {H:Hp} {s:Shared} {A:Around} {E:Value->Shared->Prop} {Q:Value->Shared->Prop} {c:Value} {b:Bool}
inductive lb (K:PySem.W.Frag) (H:Hp):V->Value->Prop where
 | cy:lb K H .cy (.type "NoneType")
 | bl (x:Bool):lb K H (.bl x) (.type "bool")
 | int (i:Int):lb K H (.int i) (.type "int")
 | str (x:Str):lb K H (.str x) (.type "str")
 | BF (x:UInt64):lb K H (.BF x) (.type "float")
 | lst {a:Addr} {xs:List V} (e:H a=some (.lst xs)):lb K H (.ref a) (.type "list")
 | vI {a:Addr} {o:Obj} {xs:List V} (e:H a=some (.vI o (.lst xs))):lb K H (.ref a) (.type "list")
 | tup {a:Addr} {xs:List V} (e:H a=some (.tup xs)):lb K H (.ref a) (.type "tuple")
 | dK {a:Addr} {kvs:List (Key×V)} (e:H a=some (.dK kvs)):lb K H (.ref a) (.type "dict")
 | dT {a:Addr} {kvs:List (List Key×V)} (e:H a=some (.dT kvs)):lb K H (.ref a) (.type "dict")
 | ins {a C dx:Addr} {fs:List (Str×V)} (e:H a=some (.ins C dx fs)) (cl:OW K C) (ha:PySem.W.findIn K (.ref C) "__class__"=some (some (.builtin "object.__class__")))
   (hn:PySem.W.specialIn K (.builtin "object.__class__") "__get__"=some (some (.builtin "getset_descriptor.__get__"))) (uo:PySem.W.takesIn K (.builtin "object.__class__")=some true)
   (hm:PySem.W.mroIn K C (.type "object")=some true):lb K H (.ref a) (.ref C)
theorem iP {x:V} {u t:Value} (I:Inv X pins σ H s) (rx:RelV x u) (ty:lb X.K H x t) (e:PySem.W.kitOne X.K t c=some b) (h: ∀tk,Q (.bool b) { s with toks:=tk }):
  wpAny (model X.prog X.w) A (call (.builtin "isinstance") [u,c]) Q E s:=by
 cases ty with
 | cy=>cases (show u=Value.none from rx);exact PySem.W.kia_one PySem.W.kitx_none I.rn True.intro e (fun z=>nomatch z) h
 | bl y=>cases (show u=Value.bool y from rx);exact PySem.W.kia_one PySem.W.kitx_bool I.rn True.intro e (fun z=>nomatch z) h
 | int i=>obtain ⟨t,q⟩:=(show ∃t,u=Value.int i t from rx);cases q;exact PySem.W.kia_one PySem.W.kitx_int I.rn True.intro e (fun z=>nomatch z) h
 | str y=>obtain ⟨t,q⟩:=(show ∃t,u=Value.str y t from rx);cases q;exact PySem.W.kia_one PySem.W.kitx_str I.rn True.intro e (fun z=>nomatch z) h
 | BF y=>obtain ⟨t,q⟩:=(show ∃t,u=Value.float y t from rx);cases q;exact PySem.W.kia_one PySem.W.kitx_float I.rn True.intro e (fun z=>nomatch z) h
 | @lst a xs ea=>
  cases (show u=Value.ref a from rx)
  obtain ⟨_,_,n,_,h1⟩:=(show cb X.prog X.w H s.heap a (.lst xs) from I.bq a _ ea)
  exact PySem.W.kia_one PySem.W.kitx_list I.rn ⟨_,h1,rfl⟩ e (fun z=>nomatch z) h
 | @vI a ob xs ea=>
  cases (show u=Value.ref a from rx)
  obtain ⟨_,_,_,n,_,h1⟩:=(show cb X.prog X.w H s.heap a (.vI ob (.lst xs)) from I.bq a _ ea)
  exact PySem.W.kia_one PySem.W.kitx_list I.rn ⟨_,h1,rfl⟩ e (fun z=>nomatch z) h
 | @tup a xs ea=>
  cases (show u=Value.ref a from rx)
  obtain ⟨_,_,_,p⟩:=(show cb X.prog X.w H s.heap a (.tup xs) from I.bq a _ ea)
  obtain ⟨o,h1,h2,_⟩:=p
  exact PySem.W.kia_one PySem.W.kitx_tuple I.rn ⟨o,h1,h2⟩ e (fun z=>nomatch z) h
 | @dK a kvs ea=>
  cases (show u=Value.ref a from rx)
  obtain ⟨_,_,vs,_,p⟩:=(show cb X.prog X.w H s.heap a (.dK kvs) from I.bq a _ ea)
  obtain ⟨o,es,ep,h1,h2,_⟩:=p
  exact PySem.W.kia_one PySem.W.kitx_dict I.rn ⟨o,h1,h2.1⟩ e (fun z=>nomatch z) h
 | @dT a kvs ea=>
  cases (show u=Value.ref a from rx)
  obtain ⟨_,_,xs,_,o,es,ep,h1,h2,_⟩:=(show cb X.prog X.w H s.heap a (.dT kvs) from I.bq a _ ea)
  exact PySem.W.kia_one PySem.W.kitx_dict I.rn ⟨o,h1,h2.1⟩ e (fun z=>nomatch z) h
 | @ins a C dx fs ea cl ha hn uo hm=>
  cases (show u=Value.ref a from rx)
  obtain ⟨mA,O,_⟩:=Ce I.bq ea
  obtain ⟨od,J,_⟩:=O.look
  exact PySem.W.kia_one (PySem.W.kitx_own (cl.get _) cl.hd ha hn uo hm) I.rn J e (fun z=>nomatch z) h
end
end L2
namespace L2
open PySem PySem.Spec PyProof.Rows
structure fP (k:Nat) (A:Around):Prop where
 hd:A.handled=none
 dp:A.depth+3*k+5<recursionLimit
 un:A.units+16*k+200<cLine
 gd:A.guards=some []
theorem fP.mono {j k:Nat} {A:Around} (r:fP k A) (h:j<=k):fP j A:=⟨r.hd,by have:=r.dp;omega,by have:=r.un;omega,r.gd⟩
theorem fP.deeper {k:Nat} {A:Around} (r:fP (k+1) A) (env:Env):fP k (A.deeper env):=
 ⟨r.hd,by have:=r.dp;show A.depth+1+3*k+5<_;omega,by have:=r.un;show A.units+3+16*k+200<_;omega,r.gd⟩
theorem fP.depth {k:Nat} {A:Around} (r:fP k A):A.depth<recursionLimit:=by have:=r.dp;omega
theorem fP.units {k:Nat} {A:Around} (r:fP k A):A.units+64<cLine:=by have:=r.un;omega
noncomputable def OY:TA:=fun _ H Q=>Q [] H
noncomputable def JJ (ta:TE) (tr:TA):TA:=fun σ H Q=>ta σ H fun x H1=>tr σ H1 fun xs H2=>Q (x::xs) H2
section
variable {X:Cx} {e:Expr} {es:List Expr} {te:TE} {t:TA} {pos:Pos}
theorem ab:PA X [] OY:=fun _ _ _ _ H Q I h=>Calls.spliced_nil ⟨[],H,I, .nil,h⟩
theorem aa (ha:PE X e te) (hr:PA X es t) (hs:starEach (e::es) X.env=(false,eval e X.env)::starEach es X.env:=by rfl):PA X (e::es) (JJ te t):=by
 intro pos pins s σ H Q I h
 rw[hs]
 show wpAny _ _ (spliced ((false,eval e X.env)::backTo pos (starEach es X.env))) _ _ s
 refine Calls.spliced_cons (bU (ha pins s σ H _ I h) fun u s1 ⟨x,H1,I1,r1,q1⟩=>?_)
 exact bU (hr pos pins s1 σ H1 _ I1 q1) fun us s2 ⟨xs,H2,I2,r2,q2⟩=>⟨x::xs,H2,I2, .cons r1 r2,q2⟩
noncomputable def OZ (t:TA):TE:=fun σ H Q=>t σ H fun xs H1=>xs.length<=sizeLine/\ ∀p,H1 p=none->Q (.ref p) (upd H1 p (.tup xs))
noncomputable def O0 (t:TA):TE:=fun σ H Q=>t σ H fun xs H1=>xs.length<=sizeLine/\ ∀p,H1 p=none->Q (.ref p) (upd H1 p (.lst xs))
theorem bY {x1} (h:PA X es t):PE X (.Tuple es x1 pos) (OZ t):=by
 intro pins s σ H Q I hq
 refine wpAny_Tuple_spliced (bU (h pos pins s σ H _ I hq) fun us s1 ⟨xs,H1,I1,r,z,q⟩=>⟨by rw[<-r.length];exact z,?_⟩)
 have hf:H1 s1.heap.objs.size=none:=I1.bq.fresh (Nat.le_refl _)
 refine ⟨.ref s1.heap.objs.size,upd H1 s1.heap.objs.size (.tup xs),I1.laid (t':=s1.toks) (fun b u e=>Heap.get?_push_of_some _ e) (Nat.le_refl _) ?_,rfl,q _ hf⟩
 exact ⟨z,us,r,⟨_,Heap.get?_push_size _ rfl,rfl,_,rfl⟩⟩
theorem bC (h:PA X es t):PE X (.List es pos) (O0 t):=by
 intro pins s σ H Q I hq
 refine wpAny_List_spliced (bU (h pos pins s σ H _ I hq) fun us s1 ⟨xs,H1,I1,r,z,q⟩=>⟨by rw[<-r.length];exact z,?_⟩)
 have hf:H1 s1.heap.objs.size=none:=I1.bq.fresh (Nat.le_refl _)
 refine ⟨.ref s1.heap.objs.size,upd H1 s1.heap.objs.size (.lst xs),I1.laid (t':=s1.toks) (fun b u e=>Heap.get?_push_of_some _ e) (Nat.le_refl _) ?_,rfl,q _ hf⟩
 exact ⟨z,us,0,r,Heap.get?_push_size _ rfl⟩
end
noncomputable abbrev Sp:=List V->Hp->VK->XK->Prop
noncomputable abbrev zy:=List Env->Hp->Shared->XK->Value->Shared->Prop
structure Cf (P:Program) (w:World) (K:PySem.W.Frag) (mg:Str->Option Value) (base:Heap) (A:Around) (outer:List Env) (s:Shared) (H:Hp):Prop where
 frames:A.frames=some outer
 mod:Mod K mg base
 bs: ∀b o,base.get? b=some o->s.heap.get? b=some o/\H b=none
 D8:base.objs.size<=s.heap.objs.size
 lP:s.heap.FunFrames base outer
 Io: ∀b∈vJ outer,H b=none
 bq:jm P w H s.heap
 bare:AllBare s.gens
noncomputable def CE (outer:List Env) (P:Program) (w:World) (H:Hp) (s:Shared) (Q:VK) (u:Value) (s':Shared):Prop:=
 ∃v H',s'.os=s.os/\AllBare s'.gens/\Un (vJ outer) [] H H' s.heap s'.heap/\jm P w H' s'.heap/\RelV v u/\Q v H'
noncomputable def CR (CX:zy) (outer:List Env) (P:Program) (w:World) (H:Hp) (s:Shared) (Q:VK) (E:XK) (r:Result) (s':Shared):Prop:=
 match r with
 | .ok (.ret u)=>CE outer P w H s Q u s'
 | .ok _=>False
 | .error e=>CX outer H s E e s'
structure cf (P:Program) (w:World) (K:PySem.W.Frag) (mg:Str->Option Value) (base:Heap) (CX:zy) (k:Nat) (f:Addr) (fd:FuncData) (ps:List Str) (sp:Sp):Prop where
 len: ∀vs H Q E,sp vs H Q E->vs.length=ps.length
 run: ∀(A:Around) (outer:List Env) (s:Shared) (H:Hp) (args:Args) (us:List Value) (vs:List V) (Q:VK) (E:XK),fP k A->Cf P w K mg base A outer s H->BindsTo s fd args (ps.zip us)->Vals vs us->sp vs H Q E->
  codeAny (model P w) A (.call (.ref f) args) (CR CX outer P w H s Q E) s
section
variable {X:Cx} {pins:List (Addr×Obj)} {σ:St} {H:Hp} {s s':Shared}
theorem Inv.O1 (I:Inv X pins σ H s):Cf X.prog X.w X.K X.mg X.base X.A X.stack s H:=
 ⟨I.ok.frames,I.ok.mod,I.bs,Nat.le_trans I.ok.D8 I.sz,I.stack,I.vK,I.bq,I.bare⟩
theorem Inv.after {Q:VK} {u:Value} (I:Inv X pins σ H s) (h:CE X.stack X.prog X.w H s Q u s'):EP X pins σ Q u s':=by
 obtain ⟨v,H',os,bare,un,bq,r,q⟩:=h
 obtain ⟨hh,g,d,t,os'⟩:=s'
 obtain rfl:os'=s.os:=os
 exact ⟨v,H',I.call (h':=hh) (g':=g) (d':=d) (t':=t) (ch:=[]) un bq bare (fun b z=>absurd z (by simp)),r,q⟩
end
noncomputable def JK (sp:Sp) (Ei:List V) (E:XK) (t:TA):TE:=fun σ H Q=>t σ H fun vs H1=>sp (vs++Ei) H1 Q E
noncomputable def Binds (K:PySem.W.Frag) (fd:FuncData) (ps:List Str) (ds:List Value):Prop:=
 ∀(s:Shared) (us:List Value),K.In s.heap->(us++ds).length=ps.length->BindsTo s fd ⟨us,[]⟩ (ps.zip (us++ds))
theorem Binds.all {K:PySem.W.Frag} {fd:FuncData} {ps:List Str} (h: ∀us:List Value,us.length=ps.length->bindArgs fd ⟨us,[]⟩=pure (ps.zip us)):Binds K fd ps []:=fun s us _ hl=>by
 rw[List.append_nil]at hl ⊢
 exact .of_eq (h us hl)
noncomputable def Passes (CX:zy) (X:Cx) (E:XK):Prop:= ∀(pins:List (Addr×Obj)) (σ:St) (H:Hp) (s:Shared) (e:Value) (s':Shared),Inv X pins σ H s->CX X.stack H s E e s'->X.xe e s'
section
variable {X:Cx} {CX:zy} {k:Nat} {f C:Addr} {fd:FuncData} {ps:List Str} {sp:Sp} {Ei:List V} {ds:List Value} {E:XK} {x m:Str} {p pos apos:Pos} {e o:Expr} {es:List Expr} {ta:TE} {t:TA}
theorem FJ {pins:List (Addr×Obj)} {σ:St} {H:Hp} {s:Shared} {Q:VK} {us:List Value} {vs:List V} (F:cf X.prog X.w X.K X.mg X.base CX k f fd ps sp) (hr:fP k X.A) (hb:Binds X.K fd ps ds) (hd:Vals Ei ds) (hx:Passes CX X E)
  (I:Inv X pins σ H s) (r:Vals vs us) (h:sp (vs++Ei) H Q E):wpAny (model X.prog X.w) X.A (call (.ref f) us) (EP X pins σ Q) X.xe s:=by
 have r2:Vals (vs++Ei) (us++ds):=r.append hd
 have hl:(us++ds).length=ps.length:=by rw[<-r2.length];exact F.len _ _ _ _ h
 refine wpAny_call (codeAny_mono (F.run X.A X.stack s H ⟨us,[]⟩ (us++ds) (vs++Ei) Q E hr I.O1 (hb s us I.rn hl) r2 h) fun r s' hq=>?_)
 cases r with
 | error e=>exact hx pins σ H s e s' I hq
 | ok fl=>
  cases fl with
  | ret u=>exact I.after hq
  | next=>exact False.elim hq
  | brk=>exact False.elim hq
  | cont=>exact False.elim hq
theorem ao (F:cf X.prog X.w X.K X.mg X.base CX k f fd ps sp) (hr:fP k X.A) (hg:Gl X x) (hm:X.mg x=some (.ref f)) (hk:PySem.W.keepIn X.K (.ref f)=true) (hb:Binds X.K fd ps ds) (hd:Vals Ei ds) (hx:Passes CX X E)
  (ha:PA X (e::es) t) (JL:(x==("__debug__":Str))=false:=by decide) (he:starEach (e::es) X.env=(false,eval e X.env)::starEach es X.env:=by rfl) (jd:(backTo pos (starEach es X.env)).any (·.1)=false:=by rfl):
  PE X (.Call (.Name x p) (e::es) [] pos) (JK sp Ei E t):=by
 intro pins s σ H Q I h
 refine wpAny_Call_Name_kw (B7 I hg hm ?_ JL)
 refine PySem.W.callWith_K (h₀:=X.base) I.ok.mod.Oq hk (bU (ha pos pins s σ H _ I h) fun us s1 ⟨vs,H1,I1,r,q⟩=>⟨I1.rn,?_⟩) he jd
 exact FJ F hr hb hd hx I1 r q
structure Mk (K:PySem.W.Frag) (C f:Addr):Prop where
 makes:PySem.W.makesIn K C=true
 init:PySem.W.findIn K (.ref C) "__init__"=some (some (.ref f))
 fn:PySem.W.isFn K (.ref f)=true
 kp:PySem.W.keepIn K (.ref C)=true
end
section
variable {X:Cx} {CX:zy} {k:Nat} {f C:Addr} {fd:FuncData} {ps ks:List Str} {sp:Sp} {E:XK} {x m:Str} {p pos apos XW:Pos} {e o:Expr} {es:List Expr} {kws:List Keyword} {te ta:TE} {t tk:TA} {nm:Option Str}
structure O2 (K:PySem.W.Frag) (fd:FuncData) (ps ks:List Str) (g:List Value->List Value->List Value) (gV:List V->List V->List V):Prop where
 to: ∀(s:Shared) (us ws:List Value),K.In s.heap->(g us ws).length=ps.length->BindsTo s fd ⟨us,ks.zip ws⟩ (ps.zip (g us ws))
 rel: ∀{vs:List V} {us:List Value} {zs:List V} {ws:List Value},Vals vs us->Vals zs ws->Vals (gV vs zs) (g us ws)
variable {g:List Value->List Value->List Value} {gV:List V->List V->List V}
end
structure aL (N P:List Str) (sc:Scope):Prop where
 kind:sc.kind= .function
 co:sc.isCoroutine=false
 gen:sc.isGenerator=false
 nd:N.Nodup
 pre:N.take P.length=P
 par: ∀x∈P,sc.names.lookup x=some .local\/sc.names.lookup x=some .cell
 FK: ∀y∈sc.names,y.2≠ .free
theorem oG {kindOf:Str->Option NameKind} {x:Str}: ∀{binds:List (Str×Value)} {m:Str->Option Value},(∀v,(x,v)∉binds)->bindL kindOf binds m x=m x
 | [],_,_=>rfl
 |(n,v)::r,m,h=>by
  unfold bindL
  rw[oG fun w hw=>h w (List.mem_cons_of_mem _ hw)]
  split
  ·have:x≠n:=by rintro rfl;exact h v List.mem_cons_self
   simp[this]
  ·rfl
theorem oH {kindOf:Str->Option NameKind} {x:Str}: ∀{binds:List (Str×Value)} {m:Str->Option Value},(∀v,(x,v)∉binds)->bindC kindOf binds m x=m x
 | [],_,_=>rfl
 |(n,v)::r,m,h=>by
  unfold bindC
  rw[oH fun w hw=>h w (List.mem_cons_of_mem _ hw)]
  split
  ·rfl
  ·have:x≠n:=by rintro rfl;exact h v List.mem_cons_self
   simp[this]
theorem oI {kindOf:Str->Option NameKind} {x:Str} {v:Value}: ∀{P:List Str} {vs:List Value} {i:Nat} {m:Str->Option Value},P.Nodup->P[i]? =some x->vs[i]? =some v->kindOf x=some .local->
  bindL kindOf (P.zip vs) m x=some v
 | [],_,_,_,_,h,_,_=>by simp at h
 | _::_,[],_,_,_,_,h,_=>by simp at h
 | p::P,w::vs,0,m,nd,h1,h2,hk=>by
  simp at h1 h2;subst h1;subst h2
  show bindL kindOf ((p,w)::P.zip vs) m p=_
  unfold bindL
  rw[oG fun v hv=>(List.nodup_cons.mp nd).1 (List.of_mem_zip hv).1,if_pos hk]
  simp
 | p::P,w::vs,i+1,m,nd,h1,h2,hk=>by
  show bindL kindOf ((p,w)::P.zip vs) m x=_
  unfold bindL
  exact oI (i:=i) (List.nodup_cons.mp nd).2 (by simpa using h1) (by simpa using h2) hk
theorem oJ {kindOf:Str->Option NameKind} {x:Str} {v:Value}: ∀{P:List Str} {vs:List Value} {i:Nat} {m:Str->Option Value},P.Nodup->P[i]? =some x->vs[i]? =some v->kindOf x≠some .local->
  bindC kindOf (P.zip vs) m x=some v
 | [],_,_,_,_,h,_,_=>by simp at h
 | _::_,[],_,_,_,_,h,_=>by simp at h
 | p::P,w::vs,0,m,nd,h1,h2,hk=>by
  simp at h1 h2;subst h1;subst h2
  show bindC kindOf ((p,w)::P.zip vs) m p=_
  unfold bindC
  rw[oH fun v hv=>(List.nodup_cons.mp nd).1 (List.of_mem_zip hv).1,if_neg hk]
  simp
 | p::P,w::vs,i+1,m,nd,h1,h2,hk=>by
  show bindC kindOf ((p,w)::P.zip vs) m x=_
  unfold bindC
  exact oJ (i:=i) (List.nodup_cons.mp nd).2 (by simpa using h1) (by simpa using h2) hk
noncomputable def start (N:List Str) (vs:List V):St:=vs.map some++List.replicate (N.length - vs.length) none
noncomputable def xl (CX:zy) (P:Program) (w:World) (K:PySem.W.Frag) (mg:Str->Option Value) (base:Heap) (N:List Str) (qual:Str) (scope:Scope) (f:Addr) (cd:Value) (A:Around) (outer:List Env) (s:Shared) (H:Hp) (E:XK):Cx where
 prog:=P
 w:=w
 K:=K
 mg:=mg
 base:=base
 A:=A.deeper (envOfC qual scope s.heap.objs.size f cd)
 N:=N
 s₀:=s
 H₀:=H
 env:=envOfC qual scope s.heap.objs.size f cd
 outer:=outer
 stack:=envOfC qual scope s.heap.objs.size f cd::outer
 ex:=[]
 calm:=true
 fn:=fun _=>true
 pn:=[]
 xe:=fun e s'=>wpAny (model P w) (A.deeper (envOfC qual scope s.heap.objs.size f cd)) (leaving (envOfC qual scope s.heap.objs.size f cd) e) (fun _ JM=>CX outer H s E e JM) (fun e' JM=>CX outer H s E e' JM) s'
theorem rA {sc:Scope} {n:Nat} {x:Str} (h:sc.names.lookup x=some .cell): ∃c,(cellsFrom n sc.names []).lookup x=some c:=by
 have q:=PySem.W.cellsFrom_some sc.names n [] (.inl h)
 exact Option.isSome_iff_exists.mp q
theorem xm {CX:zy} {P:Program} {w:World} {K:PySem.W.Frag} {mg:Str->Option Value} {base:Heap} {N ps:List Str} {qual:Str} {scope:Scope} {f:Addr} {cd:Value} {A:Around} {outer:List Env} {s s1:Shared} {H:Hp} {E:XK} {us:List Value} {vs:List V}
  (S:aL N ps scope) (hd:A.handled=none) (e0:Cf P w K mg base A outer s H) (hl:vs.length=ps.length) (r:Vals vs us)
  (x:InCallC s s.heap.objs.size (bindL (envOfC qual scope s.heap.objs.size f cd).kindOf (ps.zip us) fun _=>none) (cellsFrom (s.heap.objs.size+1) scope.names []) (bindC (envOfC qual scope s.heap.objs.size f cd).kindOf (ps.zip us) fun _=>none) s1):
  Inv (xl CX P w K mg base N qual scope f cd A outer s H E) [] (start N vs) H s1:=by
 have jd:ps.length<=N.length:=by have:=congrArg List.length S.pre;rw[List.length_take]at this;omega
 obtain ⟨h1,tk,rfl,hk⟩:=x.done
 have JN: ∀b:Addr,b∉(xl CX P w K mg base N qual scope f cd A outer s H E).ex:=fun b z=>absurd (show b∈([]:List Addr) from z) (by simp)
 refine ⟨⟨e0.mod,S.kind,rfl,rfl,Nat.le_refl _,fun y z c h1 h2=>?_,fun y hy=>?_,fun y c _ h=>?_,fun _=>hd,Around.frames_deeper e0.frames, .inr ⟨rfl,rfl⟩,fun b z=>absurd z (JN b),e0.bs,e0.D8,fun b _ _=>JN b,fun b z=>absurd z (JN b),e0.lP,e0.Io⟩,
  rfl,e0.bare,Un.kept hk,⟨_,x.toInCall.ns,fun i y v h1 h2 h3=>?_⟩,fun y c h=>⟨_,x.cell y c h⟩,e0.bq.fresh (Nat.le_refl _),fun y c h=>?_,fun p hp=>absurd (show p∈([]:List (Addr×Obj)) from hp) (by simp),e0.bq.kept hk,?_⟩
 ·exact name_of_addr x.apart (PySem.mem_of_lookup h1) (PySem.mem_of_lookup h2)
 ·have hy:scope.names.lookup y=some .cell\/scope.names.lookup y=some .free:=hy
  rcases hy with hy | hy
  ·exact rA hy
  ·exact absurd rfl (S.FK _ (PySem.mem_of_lookup hy))
 ·exact Nat.le_of_lt (x.above y c (PySem.mem_of_lookup h))
 ·have hi:i<vs.length:=by
   unfold start at h2
   by_cases hi:i<vs.length
   ·exact hi
   ·rw[List.getElem?_append_right (by simpa using hi)]at h2
    rw[List.getElem?_replicate]at h2
    split at h2<;>cases h2
  have ha:vs[i]? =some v:=by
   unfold start at h2
   rw[List.getElem?_append_left (by simpa using hi),List.getElem?_map]at h2
   cases e:vs[i]? with
   | none=>rw[e]at h2;cases h2
   | some a=>rw[e]at h2;cases h2;rfl
  obtain ⟨u,hu,rv⟩:=r.get ha
  have hp:ps[i]? =some y:=by
   rw[<-S.pre,List.getElem?_take_of_lt (by omega)];exact h1
  have VH:ps.Nodup:=by rw[<-S.pre];exact S.nd.sublist (List.take_sublist _ _)
  refine ⟨u,rv,?_⟩
  rcases S.par y (List.mem_of_getElem? hp) with k | k
  ·exact .inl ⟨k,oI VH hp hu k⟩
  ·obtain ⟨c,e⟩:=rA (n:=s.heap.objs.size+1) k
   refine .inr ⟨.inl k,c,e,?_⟩
   have q:=x.cell y c e
   rw[oJ VH hp hu (by show scope.names.lookup y≠_;rw[k];decide)]at q
   exact q
 ·exact e0.bq.fresh (Nat.le_of_lt (x.above y c (PySem.mem_of_lookup h)))
 ·unfold start
  show _=N.length
  rw[List.length_append,List.length_map,List.length_replicate]
  omega
theorem JO {CX:zy} {P:Program} {w:World} {K:PySem.W.Frag} {mg:Str->Option Value} {base:Heap} {k:Nat} {f:Addr} {name qual:Str} {params:Arguments} {body:List Stmt} {scope:Scope} {dV kV doc pm dw ct oc:Value} {an od:Option Addr}
  {Ej:Array (Option Value)} {N ps:List Str} {sp:Sp} (lk:K.lookup f=some ⟨oc,od, .func (PySem.W.fnOf name qual params body scope dV kV doc pm an dw ct),Ej⟩) (rq:PySem.W.codeIn K dw qual=true) (S:aL N ps scope)
  (len: ∀vs H Q E,sp vs H Q E->vs.length=ps.length)
  (zA: ∀(A:Around) (outer:List Env) (s:Shared) (H:Hp) (vs:List V) (Q:VK) (E:XK),fP k (A.deeper (envOfC qual scope s.heap.objs.size f dw))->sp vs H Q E->
   ∃t,w5 (xl CX P w K mg base N qual scope f dw A outer s H E) body t/\t { nx:=fun _ H'=>Q .cy H',rt:=Q } (start N vs) H):
  cf P w K mg base CX (k+1) f (PySem.W.fnOf name qual params body scope dV kV doc pm an dw ct) ps sp:=by
 refine ⟨len,fun A outer s H args us vs Q E hr e0 hb r t6=>?_⟩
 have hl:=len _ _ _ _ t6
 have KX:K.In s.heap:=e0.mod.Oq.keeps fun b o e=>(e0.bs b o e).1
 have lim:s.heap.NoLimit:=e0.mod.nolimit.keeps fun b o e=>(e0.bs b o e).1
 have gX: ∀y∈ps.zip us,scope.names.lookup y.1=some .local\/(scope.names.lookup y.1=some .cell/\((cellsFrom (s.heap.objs.size+1) scope.names []).lookup y.1).isSome=true):=fun ⟨n,v⟩ hy=>by
  rcases S.par n (List.of_mem_zip hy).1 with q | q
  ·exact .inl q
  ·exact .inr ⟨q,PySem.W.cellsFrom_some _ _ _ (.inl q)⟩
 refine codeAny_call_function hr.depth (KX _ _ lk) rfl S.co S.gen rfl (PySem.W.codeRec_of KX rq) (hb _ _ _ _ ?_)
 refine wpAny_newFunctionEnv_cells S.kind gX fun env he s1 x=>?_
 subst he
 refine ⟨lim.keeps x.toInCall.keep,codeAny_func ?_⟩
 obtain ⟨t,ht,hq⟩:=zA A outer s H vs Q E (hr.deeper _) t6
 have I:Inv (xl CX P w K mg base N qual scope f dw A outer s H E) [] (start N vs) H s1:=xm S hr.hd e0 hl r x
 refine wpAny_mono (ht [] s1 (start N vs) H _ I hq) (fun fl s' hs=>?_) fun e s' hs=>hs
 have fin: ∀{σ':St} {H':Hp} {v:V} {u:Value},Inv (xl CX P w K mg base N qual scope f dw A outer s H E) [] σ' H' s'->RelV v u->Q v H'->CE outer P w H s Q u s':=
  fun {σ' H' v u} J rv q=>⟨v,H',J.os,J.bare,J.base,J.bq,rv,q⟩
 cases fl with
 | ret u=>
  obtain ⟨v,σ',H',J,rv,q⟩:=hs
  exact fin J rv q
 | next=>
  obtain ⟨σ',H',J,q⟩:=hs
  exact fin (v:=V.cy) (u:=Value.none) J rfl q
 | brk=>
  obtain ⟨_,_,_,q⟩:=hs
  exact False.elim q
 | cont=>
  obtain ⟨_,_,_,q⟩:=hs
  exact False.elim q
end L2
namespace L2
open PySem PySem.Spec PyProof.Rows
section
variable {X:Cx} {x:Str} {p pos:Pos} {e:Expr} {es:List Expr} {t:TA} {id T:String} {r:List V->Hp->VK->Prop}
noncomputable def VI (r:List V->Hp->VK->Prop) (t:TA):TE:=fun σ H Q=>t σ H fun vs H1=>r vs H1 Q
theorem ax (hc:cY X (.builtin id) r) (hg:Gl X x) (hm:X.mg x=none) (hv:bootBuiltins x=some (.builtin id)) (ha:PA X (e::es) t) (hn:x≠"__name__":=by decide) (JL:(x==("__debug__":Str))=false:=by decide)
  (he:starEach (e::es) X.env=(false,eval e X.env)::starEach es X.env:=by rfl) (jd:(backTo pos (starEach es X.env)).any (·.1)=false:=by rfl):PE X (.Call (.Name x p) (e::es) [] pos) (VI r t):=by
 intro pins s σ H Q I h
 refine wpAny_Call_Name_kw (cM I hg hm hv ?_ hn JL)
 exact PyProof.Rows.callWith_builtin1 (bU (ha pos pins s σ H _ I h) fun us s1 ⟨vs,H1,I1,r1,q1⟩=>hc pins s1 σ H1 vs us Q I1 r1 q1) he jd
theorem aZ (hc:cY X (.type T) r) (hg:Gl X x) (hm:X.mg x=none) (hv:bootBuiltins x=some (.type T)) (ha:PA X (e::es) t) (hn:x≠"__name__":=by decide) (JL:(x==("__debug__":Str))=false:=by decide)
  (he:starEach (e::es) X.env=(false,eval e X.env)::starEach es X.env:=by rfl) (jd:(backTo pos (starEach es X.env)).any (·.1)=false:=by rfl):PE X (.Call (.Name x p) (e::es) [] pos) (VI r t):=by
 intro pins s σ H Q I h
 refine wpAny_Call_Name_kw (cM I hg hm hv ?_ hn JL)
 exact PyProof.Rows.callWith_type1 (bU (ha pos pins s σ H _ I h) fun us s1 ⟨vs,H1,I1,r1,q1⟩=>hc pins s1 σ H1 vs us Q I1 r1 q1) he jd
end
end L2
namespace HT
open PySem PyProof.Rows
section
open PySem.SeqAt
open PySem.AutoSeq1 (wpAny_loadPart')
open PySem.MeetsSeq PySem.MeetsSeq2 PySem.MeetsSeq3
end
section
variable {prog:Program} {w:World} {A:Around} {E:Value->Shared->Prop} {s:Shared}
noncomputable def jz (n d:Nat):Option Int->Nat
 | none=>d
 | some v=>if v<0 then (v+(n:Int)).toNat else min v.toNat n
theorem rB (n d:Nat):jz n d none=d:=rfl
theorem lE (n d k:Nat):jz n d (some (k:Int))=min k n:=by
 show (if (k:Int)<0 then ((k:Int)+(n:Int)).toNat else min (k:Int).toNat n)=min k n
 rw[if_neg (by omega),Int.toNat_natCast]
theorem FL (n d:Nat) (hd:d<=n) (o:Option Int):jz n d o<=n:=by
 cases o with
 | none=>exact hd
 | some v=>
  show (if v<0 then (v+(n:Int)).toNat else min v.toNat n)<=n
  by_cases hv:v<0
  ·rw[if_pos hv];omega
  ·rw[if_neg hv];exact Nat.min_le_right _ _
end
end HT
namespace L2
open PySem PySem.Spec PyProof.Rows
noncomputable abbrev TO:=St->Hp->(Option Int->Hp->Prop)->Prop
noncomputable def PO (X:Cx) (e:Option Expr) (t:TO):Prop:=
 ∀(pins:List (Addr×Obj)) (s:Shared) (σ:St) (H:Hp) (Q:Option Int->Hp->Prop),Inv X pins σ H s->t σ H Q->
  wpAny (model X.prog X.w) X.A (evalPart e X.env) (fun u s'=> ∃o H',Inv X pins σ H' s'/\IsPart u o/\Q o H') X.xe s
noncomputable def Cg:TO:=fun _ H Q=>Q none H
noncomputable def JP (t:TE):TO:=fun σ H Q=>t σ H fun x H1=> ∃i,x= .int i/\Q (some i) H1
section
variable {X:Cx} {e:Expr} {te:TE} {lo hi:Option Expr} {tl th:TO} {pos p2:Pos}
theorem bG:PO X none Cg:=by
 intro pins s σ H Q I h
 rw[evalPart_none]
 exact wpAny_pure ⟨none,H,I, .none,h⟩
theorem bw (h:PE X e te):PO X (some e) (JP te):=by
 intro pins s σ H Q I hw
 rw[evalPart_some]
 refine bU (h pins s σ H _ I hw) fun u s1 ⟨x,H1,I1,r1,q1⟩=>?_
 obtain ⟨i,rfl,q⟩:=q1
 obtain ⟨t,rfl⟩:=r1
 exact ⟨some i,H1,I1, .int i t,q⟩
noncomputable def MI (X:Cx) (r:V->Option Int->Option Int->Hp->VK->Prop):Prop:=
 ∀(pins:List (Addr×Obj)) (s:Shared) (σ:St) (H:Hp) (x:V) (v vl vu:Value) (lo hi:Option Int) (sl:Addr) (Q:VK),Inv X pins σ H s->RelV x v->s.heap.IsSliceOf sl vl vu .none->IsPart vl lo->IsPart vu hi->r x lo hi H Q->
  ∃T id,typeLookup (.type T) "__getitem__"=pure (some (.builtin id))/\s.TypeIs v T/\wpAny (model X.prog X.w) X.A (getItem v (.ref sl)) (EP X pins σ Q) X.xe s
noncomputable def XX (r:V->Option Int->Option Int->Hp->VK->Prop) (te:TE) (tl th:TO):TE:=fun σ H Q=>te σ H fun x H1=>tl σ H1 fun l H2=>th σ H2 fun u H3=>r x l u H3 Q
theorem bj {r:V->Option Int->Option Int->Hp->VK->Prop} (hr:MI X r) (he:PE X e te) (hl:PO X lo tl) (hu:PO X hi th):PE X (.Subscript e (.Slice lo hi none p2) pos) (XX r te tl th):=by
 intro pins s σ H Q I h
 refine Subscript_ (bU (he pins s σ H _ I h) fun v s1 ⟨x,H1,I1,r1,q1⟩=>?_)
 refine wpAny_Slice (bU (hl pins s1 σ H1 _ I1 q1) fun vl s2 ⟨l,H2,I2,pl,q2⟩=>bU (hu pins s2 σ H2 _ I2 q2) fun vu s3 ⟨u,H3,I3,pu,q3⟩=>?_)
 rw[evalPart_none]
 refine wpAny_pure ?_
 have I4:Inv X pins σ H3 { s3 with heap:=s3.heap.push { cls:= .type "slice",data:= .fields #[vl,vu, .none] } }:=I3.kept (t':=s3.toks) fun b ob q=>Heap.get?_push_of_some _ q
 obtain ⟨T,id,hT,ht,hg⟩:=hr pins { s3 with heap:=s3.heap.push { cls:= .type "slice",data:= .fields #[vl,vu, .none] } } σ H3 x v vl vu l u s3.heap.objs.size Q I4 r1 (Heap.IsSliceOf.new ..) pl pu q3
 show wpAny (model X.prog X.w) X.A (subscriptTail e (.Slice lo hi none p2) v (.ref s3.heap.objs.size)) (EP X pins σ Q) X.xe { s3 with heap:=s3.heap.push { cls:= .type "slice",data:= .fields #[vl,vu, .none] } }
 exact tail_any (ops:=[.ref s3.heap.objs.size,v]) ht hT hg (by with_unfolding_all rfl)
noncomputable def xn (xs:List V) (lo hi:Option Int):List V:=(xs.drop (HT.jz xs.length 0 lo)).take (HT.jz xs.length xs.length hi - HT.jz xs.length 0 lo)
theorem rC (xs:List V) (lo hi:Option Int):(xn xs lo hi).length<=xs.length:=by
 unfold xn
 rw[List.length_take,List.length_drop]
 omega
end
end L2
namespace L2
open PySem PySem.Spec PyProof.Rows
noncomputable def zB (n:Nat) (i:Int):Option Nat:=if 0<=i then (if i<n then some i.toNat else none) else if -(n:Int)<=i then some (i+n).toNat else none
noncomputable def oK {α:Type} (xs:List α) (i:Int):Option α:=(zB xs.length i).bind fun j=>xs[j]?
theorem vR {n:Nat} {i:Int} {j:Nat} (h:zB n i=some j):seqIndex? i n=some j/\j<n/\ -(n:Int)<=i/\i<n:=by
 unfold zB at h
 by_cases h0:0<=i
 ·rw[if_pos h0]at h
  by_cases h1:i<n
  ·rw[if_pos h1]at h
   have e:i.toNat=j:=Option.some.inj h
   exact ⟨by rw[seqIndex_of h0 h1,e],by omega,by omega,h1⟩
  ·rw[if_neg h1]at h;cases h
 ·rw[if_neg h0]at h
  by_cases h1: -(n:Int)<=i
  ·rw[if_pos h1]at h
   have e:(i+n).toNat=j:=Option.some.inj h
   exact ⟨by rw[seqIndex_neg (by omega) h1,e],by omega,h1,by omega⟩
  ·rw[if_neg h1]at h;cases h
theorem p7 {α:Type} {xs:List α} {i:Int} {v:α} (h:oK xs i=some v): ∃j,seqIndex? i xs.length=some j/\xs[j]? =some v/\j<xs.length/\ -(xs.length:Int)<=i/\i<xs.length:=by
 unfold oK at h
 cases e:zB xs.length i with
 | none=>rw[e]at h;cases h
 | some j=>
  rw[e]at h
  obtain ⟨h1,h2,h3,h4⟩:=vR e
  exact ⟨j,h1,h,h2,h3,h4⟩
theorem aQ {α:Type} {xs:List α} {j:Nat} {v:α} (h:xs[j]? =some v):oK xs (j:Int)=some v:=by
 have hj:j<xs.length:=(List.getElem?_eq_some_iff.mp h).1
 have e:zB xs.length (j:Int)=some j:=by
  unfold zB
  rw[if_pos (by omega),if_pos (by omega)];simp
 unfold oK;rw[e];exact h
theorem zC {α:Type} (xs:List α) (v:α):oK (xs++[v]) (-1)=some v:=by
 have hl:(xs++[v]).length=xs.length+1:=by simp
 have e:zB (xs++[v]).length (-1)=some xs.length:=by
  unfold zB
  rw[hl,if_neg (by decide),if_pos (by omega)]
  congr 1
  omega
 unfold oK
 rw[e]
 show (xs++[v])[xs.length]? =some v
 simp
noncomputable def Ci (b:Expr):Prop:= ∀o i,subscripted b false o i=operate [o,i] (getItem o i)
noncomputable def FN (X:Cx) (r:R2):Prop:=
 ∀(value slice:Expr) (pins:List (Addr×Obj)) (s:Shared) (σ:St) (H:Hp) (x y:V) (v u:Value) (Q:VK),Inv X pins σ H s->RelV x v->RelV y u->r x y H Q->
  subscripted slice false v u=operate [v,u] (getItem v u)->wpAny (model X.prog X.w) X.A (subscriptTail value slice v u) (EP X pins σ Q) X.xe s
noncomputable def vS (X:Cx) (id:String) (r:V->List V->Hp->VK->Prop):Prop:=
 ∀(pins:List (Addr×Obj)) (s:Shared) (σ:St) (H:Hp) (x:V) (xs:List V) (v:Value) (us:List Value) (Q:VK),Inv X pins σ H s->RelV x v->Vals xs us->r x xs H Q->
  wpAny (model X.prog X.w) X.A (call (.builtin id) (v::us)) (EP X pins σ Q) X.xe s
section
variable {X:Cx} {a b:Expr} {ta tb:TE} {pos:Pos}
theorem au {r:R2} (hr:FN X r) (ha:PE X a ta) (hb:PE X b tb) (hs:Ci b):PE X (.Subscript a b pos) (MG r ta tb):=by
 intro pins s σ H Q I h
 exact Subscript_ (FE ha hb I h fun v u s2 x y H2 I2 rx ry q=>hr a b pins s2 σ H2 x y v u Q I2 rx ry q (hs _ _))
noncomputable def JQ (K:PySem.W.Frag):R2:=fun x y H Q=> ∃p xs i v,x= .ref p/\y= .int i/\aJ K H p xs/\oK xs i=some v/\Q v H
noncomputable def JR (K:PySem.W.Frag):R2:=fun x y H Q=> ∃p xs i v,x= .ref p/\y= .int i/\aY K H p xs/\oK xs i=some v/\Q v H
noncomputable def O3:R2:=fun x y H Q=> ∃z i c,x= .str z/\y= .int i/\z.length<=sizeLine/\oK z.cps.toList i=some c/\Q (.str ⟨#[c]⟩) H
theorem Cj:FN X (JQ X.K):=by
 intro value slice pins s σ H x y v u Q I rx ry h hs
 obtain ⟨p,xs,i,z,rfl,rfl,hq,he,q⟩:=h
 cases rx
 obtain ⟨t,rfl⟩:=ry
 obtain ⟨az,r,pl,hz⟩:=I.list hq
 obtain ⟨j,h1,h2,h3,h4,h5⟩:=p7 he
 obtain ⟨w,ew,w_⟩:=r.get h2
 have hl:=r.length
 have hn:=fZ
 have fin:EP X pins σ Q w s:=⟨z,H,I,w_,q⟩
 by_cases h0:0<=i
 ·have hj:i.toNat=j:=by
   rw[seqIndex_of h0 h5]at h1
   exact Option.some.inj h1
  exact item_listR pl.isList h0 (by omega) (by rw[hj];simpa using ew) fin hs
 ·have hj:(i+(az.toArray.size:Int)).toNat=j:=by
   rw[seqIndex_neg (by omega) h4]at h1
   rw[List.size_toArray, <-hl]
   exact Option.some.inj h1
  exact subscriptTail_builtinR (x:=w) pl.isList.typeIs slot_list_getitem.lookup
   (wpAny_getItem_list_neg (Q:=fun r s'=>r=w/\EP X pins σ Q r s') pl.isList (by omega) (by rw[List.size_toArray]<;>omega) (by omega) (by rw[hj];simpa using ew) ⟨rfl,fin⟩) hs
theorem FO:FN X (JR X.K):=by
 intro value slice pins s σ H x y v u Q I rx ry h hs
 obtain ⟨p,xs,i,z,rfl,rfl,hq,he,q⟩:=h
 cases rx
 obtain ⟨t,rfl⟩:=ry
 obtain ⟨az,r,pl,hz⟩:=I.tuple hq
 obtain ⟨j,h1,h2,h3,h4,h5⟩:=p7 he
 obtain ⟨w,ew,w_⟩:=r.get h2
 have hl:=r.length
 have hn:=fZ
 have fin:EP X pins σ Q w s:=⟨z,H,I,w_,q⟩
 exact subscriptTail_builtinR (x:=w) pl.typeIs slot_tuple_getitem.lookup
  (getItem_tuple (j:=j) (Q:=fun r s'=>r=w/\EP X pins σ Q r s') pl (by omega) (by omega) (by rw[List.size_toArray, <-hl];exact h1) (by simpa using ew) ⟨rfl,fin⟩) hs
theorem FP:FN X O3:=by
 intro value slice pins s σ H x y v u Q I rx ry h hs
 obtain ⟨z,i,c,rfl,rfl,hz,he,q⟩:=h
 obtain ⟨t,rfl⟩:=rx
 obtain ⟨t',rfl⟩:=ry
 obtain ⟨j,h1,h2,h3,h4,h5⟩:=p7 he
 have hl:z.cps.toList.length=z.length:=by simp[Str.length]
 rw[hl]at h1 h4 h5
 have hn:=fZ
 exact tail_any (typeIs_str s z t) slot_str_getitem.lookup (getItem_str (c:=c) (by
  have e1:decide (i< -(2 ^ 63:Int))=false:=decide_eq_false (by omega)
  have e2:decide (i ≥ 2 ^ 63)=false:=decide_eq_false (by omega)
  rw[e1,e2,Bool.or_false]) (by rw[h1];simpa using h2) ⟨.str ⟨#[c]⟩,H,I.tok _,⟨_,rfl⟩,q⟩) hs
theorem uq (az:List Value) (n j:Nat) (u:Value):Obj.mapSeq (·.setIfInBounds j u) { cls:= .type "list",data:= .seq az.toArray n }={ cls:= .type "list",data:= .seq (az.set j u).toArray n }:=by
 simp[Obj.mapSeq]
theorem Inv.lst {pins:List (Addr×Obj)} {σ:St} {H:Hp} {s:Shared} {p:Addr} {xs:List V} (I:Inv X pins σ H s) (h:H p=some (.lst xs)):
  ∃(az:List Value) (n:Nat),Vals xs az/\s.heap.get? p=some { cls:= .type "list",data:= .seq az.toArray n }/\xs.length<=sizeLine:=by
 obtain ⟨z,az,n,r,e⟩:=I.bq p _ h
 exact ⟨az,n,r,e,z⟩
theorem Inv.FQ {pins:List (Addr×Obj)} {σ:St} {H:Hp} {s:Shared} {p:Addr} {xs ys:List V} {az its':List Value} {n n':Nat} {f:Obj->Obj} (I:Inv X pins σ H s) (h:H p=some (.lst xs))
  (ho:s.heap.get? p=some { cls:= .type "list",data:= .seq az.toArray n }) (hf:f { cls:= .type "list",data:= .seq az.toArray n }={ cls:= .type "list",data:= .seq its'.toArray n' }) (r:Vals ys its') (hz:ys.length<=sizeLine) (t:Nat):
  Inv X pins σ (upd H p (.lst ys)) { s with heap:=s.heap.update p f,toks:=t }:=by
 have e:(s.heap.update p f).get? p=some { cls:= .type "list",data:= .seq its'.toArray n' }:=by
  rw[Heap.get?_update_self f ho (by rw[hf]<;>rfl),hf]
 refine I.write (x:=p) (e:=p) (by rw[h];trivial) (.inl rfl) (fun b u hb q=>(Heap.get?_update_other _ _ (Ne.symm hb)).trans q) ⟨_,e⟩ ?_
 exact ⟨hz,its',n',r,e⟩
noncomputable def JS:V->V->V->Hp->(Hp->Prop)->Prop:=fun o i v H Q=> ∃p xs k j,o= .ref p/\i= .int k/\H p=some (.lst xs)/\zB xs.length k=some j/\Q (upd H p (.lst (xs.set j v)))
theorem set_list:JA X JS:=by
 intro pins s σ H o i v ov iv u Q I ro ri rv h
 obtain ⟨p,xs,k,j,rfl,rfl,hp,hj,q⟩:=h
 cases ro
 obtain ⟨t,rfl⟩:=ri
 obtain ⟨az,n,r,ho,hz⟩:=I.lst hp
 obtain ⟨h1,h2,h3,h4⟩:=vR hj
 have hl:=r.length
 have hn:=fZ
 have I':Inv X pins σ (upd H p (.lst (xs.set j v))) { s with heap:=s.heap.update p (Obj.mapSeq (·.setIfInBounds j u)) }:=
  I.FQ hp ho (uq az n j u) (r.set rv j) (by rw[List.length_set];exact hz) s.toks
 by_cases h0:0<=k
 ·have hk:k.toNat=j:=by
   rw[seqIndex_of h0 h4]at h1
   exact Option.some.inj h1
  exact PySem.W.ki_setAt ho h0 (by omega) (by rw[List.size_toArray, <-hl];exact h4) (by rw[hk];exact ⟨_,I',q⟩)
 ·have hk:(k+(az.toArray.size:Int)).toNat=j:=by
   rw[seqIndex_neg (by omega) h3]at h1
   rw[List.size_toArray, <-hl]
   exact Option.some.inj h1
  exact PySem.W.ki_setBack ho (by omega) (by rw[List.size_toArray, <-hl];exact h3) (by omega) (by rw[hk];exact ⟨_,I',q⟩)
theorem p8 (lo hi:Option Int) (n:Nat):(sliceBounds lo hi none n).1=((HT.jz n 0 lo:Nat):Int)/\(sliceBounds lo hi none n).2.1=((HT.jz n n hi:Nat):Int)/\(sliceBounds lo hi none n).2.2=1:=by
 refine ⟨?_,?_,rfl⟩
 ·cases lo with
  | none=>simp[sliceBounds,HT.jz]
  | some i=>
   simp only[sliceBounds,HT.jz,Option.getD_none,show (1:Int)>0 by decide,if_true]
   by_cases h:i<0
   ·simp only[h,if_true]<;>omega
   ·simp only[h,if_false]<;>omega
 ·cases hi with
  | none=>simp[sliceBounds,HT.jz]
  | some i=>
   simp only[sliceBounds,HT.jz,Option.getD_none,show (1:Int)>0 by decide,if_true]
   by_cases h:i<0
   ·simp only[h,if_true]<;>omega
   ·simp only[h,if_false]<;>omega
theorem nW (az:List Value) (lo hi:Option Int):slicePick az.toArray lo hi none=((az.drop (HT.jz az.length 0 lo)).take (HT.jz az.length az.length hi - HT.jz az.length 0 lo)).toArray:=by
 obtain ⟨h1,h2,h3⟩:=p8 lo hi az.toArray.size
 unfold slicePick
 rw[h1,h2,h3]
 simp only[sliceRange_one,pick_run,List.size_toArray]<;>rfl
noncomputable def JT (K:PySem.W.Frag):V->Option Int->Option Int->Hp->VK->Prop:=fun x lo hi H Q=> ∃a xs,x= .ref a/\aJ K H a xs/\ ∀p,H p=none->Q (.ref p) (upd H p (.lst (xn xs lo hi)))
theorem Ck:MI X (JT X.K):=by
 intro pins s σ H x v vl vu lo hi sl Q I rx hs pl pu h
 obtain ⟨a,xs,rfl,hx,q⟩:=h
 cases rx
 obtain ⟨az,r,ht,hz⟩:=I.list hx
 have hlen:=r.length
 refine ⟨"list",_,slot_list_getitem.lookup,ht.isList.typeIs,?_⟩
 refine wpAny_getItem_list_slice ht.isList hs pl pu .none (by simp) ?_ (by rw[List.size_toArray]<;>omega)
 rw[nW, <-hlen]
 refine ⟨.ref s.heap.objs.size,_,I.laid (t':=s.toks) (o:= .lst (xn xs lo hi)) (fun b ob q=>Heap.get?_push_of_some _ q) (Nat.le_refl _) ?_,rfl,q _ (I.bq.fresh (Nat.le_refl _))⟩
 exact ⟨Nat.le_trans (rC xs lo hi) hz,_,0,(r.drop (HT.jz xs.length 0 lo)).take (HT.jz xs.length xs.length hi - HT.jz xs.length 0 lo),Heap.get?_push_size _ rfl⟩
noncomputable def ip:V->Bool
 | .cy=>true
 | .bl _=>true
 | .int _=>true
 | .str _=>true
 | _=>false
noncomputable def yT:V->V->Bool
 | .cy, .cy=>true
 | .bl a, .bl b=>a==b
 | .bl a, .int b=>(if a then 1 else 0)==b
 | .int a, .bl b=>a==(if b then 1 else 0)
 | .int a, .int b=>a==b
 | .str a, .str b=>a==b
 | _,_=>false
theorem FR {A:Around} {s:Shared} {y x:V} {u v:Value} (ry:RelV y u) (rx:RelV x v) (fy:ip y=true) (fx:ip x=true):SeqAt.EqAt A s u v (yT y x):=by
 cases y with
 | cy=>
  cases ry
  cases x with
  | cy=>cases rx;exact SeqAt.EqAt.same _
  | bl b=>cases rx;exact SeqAt.EqAt.none_bool b
  | int b=>obtain ⟨t,rfl⟩:=rx;exact SeqAt.EqAt.none_int b t
  | str b=>obtain ⟨t,rfl⟩:=rx;exact SeqAt.EqAt.none_str b t
  | _=>exact absurd (show false=true from fx) Bool.false_ne_true
 | bl a=>
  cases ry
  cases x with
  | cy=>cases rx;exact SeqAt.EqAt.bool_none a
  | bl b=>cases rx;exact SeqAt.EqAt.bool_bool a b
  | int b=>obtain ⟨t,rfl⟩:=rx;exact SeqAt.EqAt.bool_int a b t
  | str b=>obtain ⟨t,rfl⟩:=rx;exact SeqAt.EqAt.bool_str a b t
  | _=>exact absurd (show false=true from fx) Bool.false_ne_true
 | int a=>
  obtain ⟨t',rfl⟩:=ry
  cases x with
  | cy=>cases rx;exact SeqAt.EqAt.int_none a t'
  | bl b=>cases rx;exact SeqAt.EqAt.int_bool a t' b
  | int b=>obtain ⟨t,rfl⟩:=rx;exact SeqAt.EqAt.int_int a t' b t
  | str b=>obtain ⟨t,rfl⟩:=rx;exact SeqAt.EqAt.int_str a t' b t
  | _=>exact absurd (show false=true from fx) Bool.false_ne_true
 | str a=>
  obtain ⟨t',rfl⟩:=ry
  cases x with
  | cy=>cases rx;exact SeqAt.EqAt.str_none a t'
  | bl b=>cases rx;exact SeqAt.EqAt.str_bool a t' b
  | int b=>obtain ⟨t,rfl⟩:=rx;exact SeqAt.EqAt.str_int a t' b t
  | str b=>obtain ⟨t,rfl⟩:=rx;exact SeqAt.EqAt.str_str a t' b t
  | _=>exact absurd (show false=true from fx) Bool.false_ne_true
 | _=>exact absurd (show false=true from fy) Bool.false_ne_true
noncomputable def rD (x:V) (u:Value):Bool:=match u with
 | .none=>yT .cy x
 | .bool b=>yT (.bl b) x
 | .int i _=>yT (.int i) x
 | .str z _=>yT (.str z) x
 | _=>false
theorem ur {x y:V} {u:Value} (r:RelV y u) (f:ip y=true):rD x u=yT y x:=by
 cases y with
 | cy=>cases r;rfl
 | bl b=>cases r;rfl
 | int i=>obtain ⟨t,rfl⟩:=r;rfl
 | str z=>obtain ⟨t,rfl⟩:=r;rfl
 | _=>exact absurd (show false=true from f) Bool.false_ne_true
theorem jF {x:V}: ∀{xs:List V} {us:List Value},Vals xs us->xs.all ip=true->us.any (rD x)=xs.any fun y=>yT y x
 | _,_, .nil,_=>rfl
 | y::xs,u::us, .cons r t,f=>by
  rw[List.all_cons,Bool.and_eq_true]at f
  rw[List.any_cons,List.any_cons,ur r f.1,jF t f.2]
theorem gi {A:Around} {s:Shared} {x:V} {v:Value} (rx:RelV x v) (fx:ip x=true): ∀{xs:List V} {us:List Value},Vals xs us->xs.all ip=true-> ∀u∈us,SeqAt.EqAt A s u v (rD x u)
 | _,_, .nil,_=>fun u hu=>by cases hu
 | y::xs,u::us, .cons r t,f=>fun u' hu=>by
  rw[List.all_cons,Bool.and_eq_true]at f
  rcases List.mem_cons.mp hu with rfl | hu
  ·rw[ur r f.1];exact FR r rx f.1 fx
  ·exact gi rx fx t f.2 u' hu
noncomputable def zD (x:V) (xs:List V):Bool:=xs.any fun y=>yT y x
noncomputable def MJ (K:PySem.W.Frag) (neg:Bool):R2:=fun x y H Q=> ∃p xs,y= .ref p/\(aJ K H p xs\/aY K H p xs)/\ip x=true/\xs.all ip=true/\Q (.bl (if neg then !zD x xs else zD x xs)) H
theorem xo:gI X (compareOp .In) (MJ X.K false):=by
 intro pins s σ H x y v u Q I rx ry h
 obtain ⟨p,xs,rfl,hq,fx,fs,q⟩:=h
 cases ry
 rcases hq with hq | hq
 ·obtain ⟨az,r,pl,hz⟩:=I.list hq
  refine SeqAt.in_listAt (rD x) pl.isList (fun w hw=>gi rx fx r fs w (by simpa using hw)) ⟨.bl _,H,I,rfl,?_⟩
  rw[show az.toArray.any (rD x)=az.any (rD x) by simp,jF r fs]
  exact q
 ·obtain ⟨az,r,pl,hz⟩:=I.tuple hq
  refine SeqAt.in_tupleAt (rD x) pl (fun w hw=>gi rx fx r fs w (by simpa using hw)) ⟨.bl _,H,I,rfl,?_⟩
  rw[show az.toArray.any (rD x)=az.any (rD x) by simp,jF r fs]
  exact q
theorem p9:gI X (compareOp .NotIn) (MJ X.K true):=by
 intro pins s σ H x y v u Q I rx ry h
 obtain ⟨p,xs,rfl,hq,fx,fs,q⟩:=h
 cases ry
 rcases hq with hq | hq
 ·obtain ⟨az,r,pl,hz⟩:=I.list hq
  refine SeqAt.notIn_listAt (rD x) pl.isList (fun w hw=>gi rx fx r fs w (by simpa using hw)) ⟨.bl _,H,I,rfl,?_⟩
  rw[show az.toArray.any (rD x)=az.any (rD x) by simp,jF r fs]
  exact q
 ·obtain ⟨az,r,pl,hz⟩:=I.tuple hq
  refine SeqAt.notIn_tupleAt (rD x) pl (fun w hw=>gi rx fx r fs w (by simpa using hw)) ⟨.bl _,H,I,rfl,?_⟩
  rw[show az.toArray.any (rD x)=az.any (rD x) by simp,jF r fs]
  exact q
theorem p_:cY X (.builtin "len") (fun xs H Q=> ∃p ys,xs=[.ref p]/\(aJ X.K H p ys\/aY X.K H p ys)/\Q (.int ys.length) H):=by
 intro pins s σ H xs us Q I r h
 obtain ⟨p,ys,rfl,hq,q⟩:=h
 obtain ⟨u,rfl,rx⟩:=vals1 r
 cases rx
 have hn:=fZ
 rcases hq with hq | hq
 ·obtain ⟨az,r',pl,hz⟩:=I.list hq
  have hlen:=r'.length
  exact Calls.call_len_list pl.isList (by simp only[List.size_toArray]<;>omega) ⟨.int ys.length,H,I.tok _,⟨s.toks+1,by rw[List.size_toArray,hlen]⟩,q⟩
 ·obtain ⟨az,r',pl,hz⟩:=I.tuple hq
  have hlen:=r'.length
  exact len_tuple pl (by simp only[List.size_toArray]<;>omega) ⟨.int ys.length,H,I.tok _,⟨s.toks+1,by rw[List.size_toArray,hlen]⟩,q⟩
theorem qd:cY X (.builtin "len") (fun xs H Q=> ∃z,xs=[.str z]/\z.length<=sizeLine/\Q (.int z.length) H):=by
 intro pins s σ H xs us Q I r h
 obtain ⟨z,rfl,hz,q⟩:=h
 obtain ⟨u,rfl,t,rfl⟩:=vals1 r
 have hn:=fZ
 exact len_str (by omega) ⟨.int z.length,H,I.tok _,⟨_,rfl⟩,q⟩
theorem qe:cY X (.type "list") (fun xs H Q=> ∃p ys,xs=[.ref p]/\(aJ X.K H p ys\/aY X.K H p ys)/\ ∀l,H l=none->Q (.ref l) (upd H l (.lst ys))):=by
 intro pins s σ H xs us Q I r h
 obtain ⟨p,ys,rfl,hq,q⟩:=h
 obtain ⟨u,rfl,rx⟩:=vals1 r
 cases rx
 have fin: ∀(az:List Value),Vals ys az->ys.length<=sizeLine-> ∀(h':Heap) (c':Nat),(∀b o',s.heap.get? b=some o'->h'.get? b=some o')->
   h'.get? s.heap.objs.size=some { cls:= .type "list",dict:=none,data:= .seq az.toArray c',slots:= #[] }->EP X pins σ Q (.ref s.heap.objs.size) { s with heap:=h' }:=fun az r' hz h' c' kp e=>
  ⟨.ref s.heap.objs.size,_,I.laid (t':=s.toks) kp (Nat.le_refl _) (show cb X.prog X.w _ h' _ (.lst ys) from ⟨hz,az,c',r',e⟩),rfl,q _ (I.bq.fresh (Nat.le_refl _))⟩
 rcases hq with hq | hq
 ·obtain ⟨az,r',pl,hz⟩:=I.list hq
  have hlen:=r'.length
  obtain ⟨o,ho,hc,n,hd⟩:=pl.isList
  exact call_list_seq p (.inl rfl) ho hc hd (fun h' c' kp e=>fin az r' hz h' c' kp e) (by simp only[List.size_toArray]<;>omega)
 ·obtain ⟨az,r',pl,hz⟩:=I.tuple hq
  have hlen:=r'.length
  obtain ⟨o,ho,hc,n,hd⟩:=pl
  exact call_list_seq p (.inr rfl) ho hc hd (fun h' c' kp e=>fin az r' hz h' c' kp e) (by simp only[List.size_toArray]<;>omega)
theorem nX:cY X (.type "tuple") (fun xs H Q=> ∃p ys,xs=[.ref p]/\((aJ X.K H p ys/\ ∀l,H l=none->Q (.ref l) (upd H l (.tup ys)))\/(aY X.K H p ys/\Q (.ref p) H))):=by
 intro pins s σ H xs us Q I r h
 obtain ⟨p,ys,rfl,h⟩:=h
 obtain ⟨u,rfl,rx⟩:=vals1 r
 cases rx
 rcases h with ⟨hq,q⟩ | ⟨hq,q⟩
 ·obtain ⟨az,r',pl,hz⟩:=I.list hq
  have hlen:=r'.length
  refine call_tuple_list pl.isList (fun h' kp=>?_) (by simp only[List.size_toArray]<;>omega)
  have I1:Inv X pins σ H { s with heap:=h' }:=I.kept (t':=s.toks) kp
  have I2:Inv X pins σ (upd H h'.objs.size (.tup ys)) { s with heap:=h'.push { cls:= .type "tuple",data:= .seq az.toArray } }:=
   I1.laid (t':=s.toks) (fun b o e=>Heap.get?_push_of_some _ e) (Nat.le_refl _) (show cb X.prog X.w _ _ _ (.tup ys) from ⟨hz,az,r',IsTup.new _ _⟩)
  exact ⟨.ref h'.objs.size,_,I2,rfl,q _ (I1.bq.fresh (Nat.le_refl _))⟩
 ·obtain ⟨az,r',pl,hz⟩:=I.tuple hq
  exact call_tuple_same pl ⟨.ref p,H,I,rfl,q⟩
noncomputable def O4 (K:PySem.W.Frag) (T:String) (x:V) (H:Hp):Prop:=match x with
 | .str _=>T="str"
 | .int _=>T="int"
 | .ref p=>(T="list"/\ ∃xs,aJ K H p xs)\/(T="tuple"/\ ∃o,K.lookup p=some o/\o.cls= .type "tuple"/\o.dict=none)\/
   (T="dict"/\((∃kvs,H p=some (.dK kvs))\/ ∃kvs,H p=some (.dT kvs)))\/(T="set"/\ ∃S n,H p=some (.set S n))
 | _=>False
theorem zE {pins:List (Addr×Obj)} {σ:St} {H:Hp} {s:Shared} {T:String} {x:V} {v:Value} (I:Inv X pins σ H s) (r:RelV x v) (ty:O4 X.K T x H):
  s.TypeIs v T/\ ∀a,v= .ref a-> ∃ob,s.heap.get? a=some ob/\ob.dict=none:=by
 cases x with
 | str z=>
  obtain ⟨t,rfl⟩:=r
  cases (show T="str" from ty)
  exact ⟨typeIs_str s z t,fun _ e=>nomatch e⟩
 | int i=>
  obtain ⟨t,rfl⟩:=r
  cases (show T="int" from ty)
  exact ⟨typeIs_int s i t,fun _ e=>nomatch e⟩
 | ref p=>
  cases r
  rcases ty with ⟨rfl,xs,hq⟩ | ⟨rfl,o,hk,hc,hd⟩ | ⟨rfl,hk⟩ | ⟨rfl,S,n,hk⟩
  ·obtain ⟨az,_,pl,_⟩:=I.list hq
   refine ⟨pl.isList.typeIs,fun a e=>?_⟩
   cases e
   obtain ⟨o,n,e,c,hd,_⟩:=pl
   exact ⟨o,e,hd⟩
  ·refine ⟨⟨o,I.rn p o hk,hc⟩,fun a e=>?_⟩
   cases e
   exact ⟨o,I.rn _ o hk,hd⟩
  ·have z: ∃o,s.heap.get? p=some o/\o.ExactDict:=by
    rcases hk with ⟨kvs,hk⟩ | ⟨kvs,hk⟩
    ·obtain ⟨_,_,_,_,o,_,_,e,ex,_⟩:=I.bq p _ hk
     exact ⟨o,e,ex⟩
    ·obtain ⟨_,_,_,_,o,_,_,e,ex,_⟩:=I.bq p _ hk
     exact ⟨o,e,ex⟩
   obtain ⟨o,e,ex⟩:=z
   refine ⟨⟨o,e,ex.1⟩,fun a e2=>?_⟩
   cases e2
   exact ⟨o,e,ex.2.1⟩
  ·obtain ⟨o,_,_,_,e,ex,_⟩:=I.bq p _ hk
   refine ⟨⟨o,e,ex.1⟩,fun a e2=>?_⟩
   cases e2
   exact ⟨o,e,ex.2.1⟩
 | _=>exact False.elim ty
noncomputable def JU (K:PySem.W.Frag) (T:String) (r:V->List V->Hp->VK->Prop) (to:TE):TE:=fun σ H Q=>to σ H fun x H1=>O4 K T x H1/\r x [] H1 Q
noncomputable def VJ (K:PySem.W.Frag) (T:String) (r:V->List V->Hp->VK->Prop) (to:TE) (t:TA):TE:=fun σ H Q=>to σ H fun x H1=>O4 K T x H1/\t σ H1 fun xs H2=>r x xs H2 Q
variable {o e:Expr} {es:List Expr} {to:TE} {t:TA} {name:Str} {apos dS:Pos} {T id:String} {r:V->List V->Hp->VK->Prop}
theorem FT (pa:PlainAttrs T) (slot:Slot T name id) (BJ:typeOf (.builtin id)=pure (.type "method_descriptor")) (hm:vS X id r) (ho:PE X o to)
  (lY:attributeBase o name X.env (eval o X.env)=eval o X.env:=by rfl) (lZ:(apos.endLine==dS.line)=true:=by rfl):PE X (.Call (.Attribute o name apos) [] [] dS) (JU X.K T r to):=by
 intro pins s σ H Q I h
 refine wpAny_Call_method0_late lY lZ (bU (ho pins s σ H _ I h) fun v s1 ⟨x,H1,I1,r1,ty,q1⟩=>?_)
 obtain ⟨h1,h2⟩:=zE I1 r1 ty
 exact ⟨T,id,pa,slot,BJ,h1,h2,Calls.callWith_builtin rfl (PySem.evalArgs_none (hm pins s1 σ H1 x [] v [] Q I1 r1 .nil q1))⟩
theorem JV (pa:PlainAttrs T) (slot:Slot T name id) (BJ:typeOf (.builtin id)=pure (.type "method_descriptor")) (hm:vS X id r) (ho:PE X o to) (ha:PA X (e::es) t)
  (lY:attributeBase o name X.env (eval o X.env)=eval o X.env:=by rfl)
  (Cm:((backTo dS (starEach (e::es) X.env)).all (fun x=>!x.1)&&(backToKw dS (keywordEach [] X.env)).all (fun x=>x.1.isSome)
   &&decide ((e::es).length+([]:List Keyword).length+(if ([]:List Keyword).isEmpty then 0 else 1)<30))=true:=by rfl)
  (lZ:(apos.endLine==dS.line)=true:=by rfl) (hs:starEach (e::es) X.env=(false,eval e X.env)::starEach es X.env:=by rfl) (uu:(backTo dS (starEach es X.env)).any (·.1)=false:=by rfl):
  PE X (.Call (.Attribute o name apos) (e::es) [] dS) (VJ X.K T r to t):=by
 intro pins s σ H Q I h
 refine wpAny_Call_method_late lY Cm lZ rfl (bU (ho pins s σ H _ I h) fun v s1 ⟨x,H1,I1,r1,ty,q1⟩=>?_)
 obtain ⟨h1,h2⟩:=zE I1 r1 ty
 refine ⟨T,id,pa,slot,BJ,h1,h2,?_⟩
 have hA:=ha dS pins s1 σ H1 _ I1 q1
 rw[hs]at hA ⊢
 refine Calls.callWith_builtin (by show (false||(backTo dS (starEach es X.env)).any (·.1))=false;rw[uu]<;>rfl) (Calls.evalArgs_plain ?_)
 exact bU hA fun us s2 ⟨vs,H2,I2,r2,q2⟩=>hm pins s2 σ H2 x vs v us Q I2 r1 r2 q2
/- xs.append(e),list.index on a zF tuple .. are vS facts of 06m -/
end
end L2
namespace L2
open PySem PySem.Spec PyProof.Rows
noncomputable def Iv (X:Cx) (id:String) (r:V->List V->Hp->VK->Prop):Prop:=
 ∀(pins:List (Addr×Obj)) (s:Shared) (σ:St) (H:Hp) (x:V) (xs:List V) (v:Value) (us:List Value) (Q:VK),Inv X pins σ H s->RelV x v->Vals xs us->r x xs H Q->
  wpAny (model X.prog X.w) X.A (call (.builtin id) (v::us)) (EP X pins σ Q) X.xe s
theorem Vals.one: ∀{x:V} {us:List Value},Vals [x] us-> ∃u,us=[u]/\RelV x u
 | _,_, .cons r .nil=>⟨_,rfl,r⟩
theorem Vals.zero: ∀{us:List Value},Vals [] us->us=[]
 | _, .nil=>rfl
theorem Vals.dropLast {xs:List V} {us:List Value} (h:Vals xs us):Vals xs.dropLast us.dropLast:=by
 induction h with
 | nil=>exact .nil
 | cons r t ih=>
  cases t with
  | nil=>exact .nil
  | cons q t'=>exact .cons r ih
theorem Vals.eraseIdx: ∀{xs:List V} {us:List Value} (i:Nat),Vals xs us->Vals (xs.eraseIdx i) (us.eraseIdx i)
 | _,_,_, .nil=> .nil
 | _,_,0, .cons _ t=>t
 | _,_,i+1, .cons r t=> .cons r (Vals.eraseIdx i t)
theorem Vals.rep {xs:List V} {us:List Value} (h:Vals xs us): ∀k:Nat,Vals (List.replicate k xs).flatten (List.replicate k us).flatten
 | 0=> .nil
 | k+1=>by
  rw[List.replicate_succ,List.replicate_succ,List.flatten_cons,List.flatten_cons]
  exact Vals.append h (Vals.rep h k)
theorem uv {α:Type} (l:List α):l.eraseIdx (l.length - 1)=l.dropLast:=by
 induction l with
 | nil=>rfl
 | cons a r ih=>
  cases r with
  | nil=>rfl
  | cons b r=>
   have e:(a::b::r).length - 1=((b::r).length - 1)+1:=by
    have h1:(a::b::r).length=r.length+2:=rfl
    have h2:(b::r).length=r.length+1:=rfl
    omega
   rw[e,List.eraseIdx_cons_succ,ih]
   all_goals rfl
theorem kj {α:Type}: ∀(l:List α) (i:Nat),(l.eraseIdx i).length<=l.length
 | [],_=>Nat.le_refl _
 | _::_,0=>Nat.le_succ _
 | _::r,i+1=>Nat.succ_le_succ (kj r i)
theorem foldl_rep (az:List Value): ∀(k:Nat) (acc:List Value),
  List.foldl (fun x1 x2=>x1++x2) acc.toArray (List.replicate k az.toArray)=(acc++(List.replicate k az).flatten).toArray
 | 0,acc=>by simp
 | k+1,acc=>by
  have e:acc.toArray++az.toArray=(acc++az).toArray:=by simp
  have e2:(acc++az)++(List.replicate k az).flatten=acc++(List.replicate (k+1) az).flatten:=by
   rw[List.replicate_succ,List.flatten_cons,List.append_assoc]
  rw[<-e2, <-foldl_rep az k (acc++az), <-e,List.replicate_succ,List.foldl_cons]
section
variable {X:Cx} {pins:List (Addr×Obj)} {σ:St} {H:Hp} {s:Shared} {l b:Addr} {xs ys zs:List V}
theorem Inv.xp {az its':List Value} {n:Nat} {f:Array Value->Array Value} {t':Nat} (I:Inv X pins σ H s) (hH:H l=some (.lst xs))
  (e:s.heap.get? l=some { cls:= .type "list",data:= .seq az.toArray n }) (hf:f az.toArray=its'.toArray) (hv:Vals ys its') (hz:ys.length<=sizeLine):
  Inv X pins σ (upd H l (.lst ys)) { s with heap:=s.heap.update l (Obj.mapSeq f),toks:=t' }:=by
 have q:=PySem.IsL.update e f
 rw[hf]at q
 refine I.write (x:=l) (e:=l) (by rw[hH];exact trivial) (.inl rfl) (fun b' u hb hu=>(Heap.get?_update_other s.heap (Obj.mapSeq f) (Ne.symm hb)).trans hu) ⟨_,q⟩ ?_
 exact ⟨hz,its',_,hv,q⟩
theorem Inv.JW {az:List Value} {t':Nat} (I:Inv X pins σ H s) (hv:Vals ys az) (hz:ys.length<=sizeLine):
  Inv X pins σ (upd H s.heap.objs.size (.lst ys)) { s with heap:=s.heap.push { cls:= .type "list",data:= .seq az.toArray },toks:=t' }:=
 I.laid (fun _ _ q=>Heap.get?_push_of_some _ q) (Nat.le_refl _) ⟨hz,az,0,hv,Heap.get?_push_size _ rfl⟩
theorem Inv.fresh (I:Inv X pins σ H s):H s.heap.objs.size=none:=I.bq.fresh (Nat.le_refl _)
theorem Inv.lg (I:Inv X pins σ H s) (hH:H l=some (.lst xs)):xs.length<=sizeLine/\ ∃(az:List Value) (n:Nat),Vals xs az/\xs.length=az.length/\s.heap.get? l=some { cls:= .type "list",data:= .seq az.toArray n }:=by
 obtain ⟨z,az,n,r,e⟩:=I.bq l _ hH
 exact ⟨z,az,n,r,r.length,e⟩
theorem rE {n:Nat} (h:n<=sizeLine):Builtin.List.listTooLong n=false:=by
 unfold Builtin.List.listTooLong
 exact decide_eq_false (by omega)
end
section
variable {X:Cx}
noncomputable def Cn:V->List V->Hp->VK->Prop:=fun x vs H Q=> ∃l xs y,x= .ref l/\vs=[y]/\H l=some (.lst xs)/\xs.length<sizeLine/\Q .cy (upd H l (.lst (xs++[y])))
theorem bu:Iv X "list.append" Cn:=by
 intro pins s σ H x vs v us Q I rx rv h
 obtain ⟨l,xs,y,rfl,rfl,hH,hz,q⟩:=h
 cases rx
 obtain ⟨u,rfl,ru⟩:=rv.one
 obtain ⟨z,az,n,r,hl,e⟩:=I.lg hH
 refine call_meets F.slot_list_append ⟨_,e,rfl⟩ F.entry_list_append (F.args_list_append_2 _ _) (PySem.list_append l az.toArray n u (by rw[List.size_toArray];omega)) ⟨e,?_⟩
 refine ⟨.cy,_,I.xp (its':=az++[u]) hH e (by simp) (r.append (.cons ru .nil)) ?_,rfl,q⟩
 rw[List.length_append,List.length_singleton]
 omega
noncomputable def Co:V->List V->Hp->VK->Prop:=fun x vs H Q=> ∃l b xs zs,x= .ref l/\vs=[.ref b]/\H l=some (.lst xs)/\H b=some (.lst zs)/\xs.length+zs.length<=sizeLine/\Q .cy (upd H l (.lst (xs++zs)))
theorem km:Iv X "list.extend" Co:=by
 intro pins s σ H x vs v us Q I rx rv h
 obtain ⟨l,b,xs,zs,rfl,rfl,hH,hB,hz,q⟩:=h
 cases rx
 obtain ⟨u,rfl,ru⟩:=rv.one
 cases ru
 obtain ⟨z,az,n,r,hl,e⟩:=I.lg hH
 obtain ⟨z2,uw,n2,r2,nQ,e2⟩:=I.lg hB
 have hsz:az.toArray.size+uw.toArray.size<=sizeLine:=by rw[List.size_toArray,List.size_toArray];omega
 have zG: ¬(!az.toArray.isEmpty&&Builtin.List.listTooLong (az.toArray.size+uw.toArray.size))=true:=by
  rw[rE hsz,Bool.and_false]
  exact Bool.false_ne_true
 refine call_meets F.slot_list_extend ⟨_,e,rfl⟩ F.entry_list_extend (F.args_list_extend_2 _ _)
  (AutoSeq1.list_extend_list_list_0 l az.toArray n b uw.toArray n2 zG (by rw[List.size_toArray];omega) (by omega)) ⟨e,e2,?_⟩
 refine ⟨.cy,_,I.xp (its':=az++uw) hH e (by simp) (r.append r2) ?_,rfl,q⟩
 rw[List.length_append]
 omega
noncomputable def O5:V->List V->Hp->VK->Prop:=fun x vs H Q=> ∃l xs y,x= .ref l/\vs=[]/\H l=some (.lst xs)/\xs[xs.length - 1]? =some y/\Q y (upd H l (.lst xs.dropLast))
theorem FU:Iv X "list.pop" O5:=by
 intro pins s σ H x vs v us Q I rx rv h
 obtain ⟨l,xs,y,rfl,rfl,hH,hy,q⟩:=h
 cases rx
 have FV:=rv.zero
 subst FV
 obtain ⟨z,az,n,r,hl,e⟩:=I.lg hH
 obtain ⟨u,hu,ru⟩:=r.get hy
 have XY:az.toArray[az.toArray.size - 1]? =some u:=by
  show az.toArray[az.length - 1]? =some u
  rw[<-Array.getElem?_toList, <-hl]
  exact hu
 refine call_meets F.slot_list_pop ⟨_,e,rfl⟩ F.entry_list_pop (F.args_list_pop_1 _) (MeetsSeq.list_pop_last l az.toArray n u XY (by rw[List.size_toArray];omega)) ⟨e,?_⟩
 refine ⟨y,_,I.xp (its':=az.dropLast) hH e ?_ r.dropLast ?_,ru,q⟩
 ·show az.toArray.eraseIdxIfInBounds (az.toArray.size - 1)=az.dropLast.toArray
  rw[List.size_toArray,List.eraseIdxIfInBounds_toArray,uv]
 ·rw[List.length_dropLast]
  omega
noncomputable def FW:V->List V->Hp->VK->Prop:=fun x vs H Q=> ∃l xs i k y,x= .ref l/\vs=[.int i]/\H l=some (.lst xs)/\ -(2 ^ 63)<=i/\i<2 ^ 63/\seqIndex? i xs.length=some k/\xs[k]? =some y/\Q y (upd H l (.lst (xs.eraseIdx k)))
theorem gj:Iv X "list.pop" FW:=by
 intro pins s σ H x vs v us Q I rx rv h
 obtain ⟨l,xs,i,k,y,rfl,rfl,hH,h1,h2,hk,hy,q⟩:=h
 cases rx
 obtain ⟨u,rfl,ru⟩:=rv.one
 obtain ⟨t,rfl⟩:=ru
 obtain ⟨z,az,n,r,hl,e⟩:=I.lg hH
 obtain ⟨w,hw,w_⟩:=r.get hy
 refine call_meets F.slot_list_pop ⟨_,e,rfl⟩ F.entry_list_pop (F.args_list_pop_2 _ _)
  (MeetsSeq.list_pop_at l az.toArray n i t k w (fitsIndex_both h1 h2) (by rw[List.size_toArray, <-hl];exact hk) (by rw[<-Array.getElem?_toList];exact hw) (by rw[List.size_toArray];omega)) ⟨e,?_⟩
 refine ⟨y,_,I.xp (its':=az.eraseIdx k) hH e ?_ (r.eraseIdx k) ?_,w_,q⟩
 ·show az.toArray.eraseIdxIfInBounds k=(az.eraseIdx k).toArray
  rw[List.eraseIdxIfInBounds_toArray]
 ·have:=kj xs k
  omega
noncomputable def O6:R2:=fun x y H Q=> ∃l b xs zs,x= .ref l/\y= .ref b/\H l=some (.lst xs)/\H b=some (.lst zs)/\xs.length+zs.length<=sizeLine/\ ∀p,H p=none->Q (.ref p) (upd H p (.lst (xs++zs)))
theorem iq:gI X (binaryOp .Add) O6:=by
 intro pins s σ H x y v u Q I rx ry h
 obtain ⟨l,b,xs,zs,rfl,rfl,hH,hB,hz,q⟩:=h
 cases rx
 cases ry
 obtain ⟨z,az,n,r,hl,e⟩:=I.lg hH
 obtain ⟨z2,uw,n2,r2,nQ,e2⟩:=I.lg hB
 refine PySem.P.add_list e e2 ?_ (by rw[List.size_toArray,List.size_toArray];omega)
 have ea:az.toArray++uw.toArray=(az++uw).toArray:=by simp
 rw[ea]
 exact ⟨.ref _,_,I.JW (t':=s.toks) (r.append r2) (by rw[List.length_append];omega),rfl,q _ I.fresh⟩
noncomputable def O7:R2:=fun x y H Q=> ∃l k xs,x= .ref l/\y= .int k/\H l=some (.lst xs)/\ -(2 ^ 63)<=k/\k<2 ^ 63/\xs.length*k.toNat<=sizeLine/\
 ∀p,H p=none->Q (.ref p) (upd H p (.lst (List.replicate k.toNat xs).flatten))
theorem len_rep {α:Type} (xs:List α) (k:Nat):(List.replicate k xs).flatten.length=k*xs.length:=by
 induction k with
 | zero=>simp
 | succ k ih=>rw[List.replicate_succ,List.flatten_cons,List.length_append,ih,Nat.succ_mul,Nat.add_comm]
theorem FX:gI X (binaryOp .Mult) O7:=by
 intro pins s σ H x y v u Q I rx ry h
 obtain ⟨l,k,xs,rfl,rfl,hH,h1,h2,hz,q⟩:=h
 cases rx
 obtain ⟨t,rfl⟩:=ry
 obtain ⟨z,az,n,r,hl,e⟩:=I.lg hH
 have hlen:az.toArray.size*k.toNat<=sizeLine:=by rw[List.size_toArray, <-hl];exact hz
 have O8: ¬az.toArray.size*k.toNat>(2 ^ 63 - 1) / 8:=by
  have:(sizeLine:Nat)<=(2 ^ 63 - 1) / 8:=by decide
  omega
 have JX: ¬(!Builtin.List.listFitsIndex k)=true:=by
  rw[fitsIndex_both h1 h2]
  exact Bool.false_ne_true
 have zG: ¬Builtin.List.listTooLong (az.toArray.size*k.toNat)=true:=by
  rw[rE hlen]
  exact Bool.false_ne_true
 have FY:List.foldl (fun x1 x2=>x1++x2) #[] (List.replicate (if az.toArray.isEmpty=true then 0 else k.toNat) az.toArray)=(List.replicate k.toNat az).flatten.toArray:=by
  have f0: ∀m:Nat,List.foldl (fun x1 x2=>x1++x2) #[] (List.replicate m az.toArray)=(List.replicate m az).flatten.toArray:=fun m=>by
   have:=foldl_rep az m []
   rw[List.nil_append]at this
   exact this
  rw[f0]
  cases az with
  | nil=>simp
  | cons a r'=>rw[if_neg (by simp)]
 refine wpAny_binaryOp_repeat_ref (T:="list") (U:="int") (by decide) ⟨_,e,rfl⟩ (fun s'=>typeIs_int s' k t) noFill_list_mul F.fills_int_mul F.slot_int_rmul repeat_list F.slot_int_index.lookup
  (call_meets F.slot_int_rmul (typeIs_int s k t) F.entry_int_rmul (F.args_int_rmul_2 _ _) (int___rmul___int_list k t l az.toArray n)
   ⟨e,rfl,⟨_,e,rfl⟩,call_meets F.slot_list_mul ⟨_,e,rfl⟩ F.entry_list_mul (F.args_list_mul_2 _ _) (AutoListH.list___mul___list_int_3 l az.toArray n k t JX O8 zG) ⟨e,?_⟩⟩)
 rw[FY]
 exact ⟨.ref _,_,I.JW (t':=s.toks) (r.rep k.toNat) (by rw[len_rep,Nat.mul_comm];exact hz),rfl,q _ I.fresh⟩
end
section
variable {prog:Program} {w:World} {A:Around} {E:Value->Shared->Prop} {s:Shared}
end
section
variable {X:Cx}
end
end L2
namespace VL
open PySem PySem.W PySem.Calls PyProof.Rows
theorem lh {P:Params} {h:Heap}: ∀(ns:List Int) (vs:List Value),WellAll P h vs (ns.map WData.int)->IntsAre vs ns:=by
 intro ns
 induction ns with
 | nil=>
  intro vs w
  rw[List.map_nil]at w
  cases w
  exact .nil
 | cons n ns ih=>
  intro vs w
  rw[List.map_cons]at w
  cases w with
  | cons a b=>
   cases a
   exact .cons _ _ (ih _ b)
theorem xq {l:OpenLaw} {n:Nat} (hn:l.most=some n) {P:Params} {h:Heap} {args:List WData} {vals:List Value}
  (Cp:l.row.toRowW.claim.pre args=true) (nY:WellAll P h vals args):
  ∃a vs ns,vals=[Value.ref a]/\args=[WData.list (ns.map WData.int)]/\h.get? a=some { cls:= .type "list",data:= .seq vs.toArray }/\IntsAre vs ns/\ns.length<=n:=by
 have XZ:WShape.hasAll [] args [.list .int]=true:=(pre_splitW Cp).1
 have hc:l.pre.holds [] { args:=args }=true:=(pre_splitW Cp).2
 obtain ⟨d,r,rfl,h1,h2⟩:=hasAllW_cons XZ
 obtain rfl:=hasAllW_nil h2
 obtain ⟨xs,rfl,h3⟩:=hasW_list h1
 obtain ⟨ns,rfl⟩:=items_int h3
 have hlen:ns.length<=n:=by
  unfold OpenLaw.pre at hc
  have h4:(WTm.not (.lt (.lit (.int (n:Int))) (.len (.arg 0)))).holds [] { args:=[.list (ns.map .int)] }=true:=by
   have h4:=(holds_andW hc).1
   rw[hn]at h4
   exact h4
  have h5:=condW_of h4 (w_not (w_lt w_lit (w_len_list (w_arg rfl))))
  rw[List.length_map]at h5
  refine Nat.le_of_not_lt fun q=>?_
  have q':(n:Int)<((ns.length:Nat):Int):=by omega
  first
   |(rw[decide_eq_true q']at h5;exact absurd h5 (by decide))
   |(simp at h5;omega)
 cases nY with
 | cons w1 w2=>
  cases w2
  cases w1 with
  | list ho jn=>exact ⟨_,_,ns,rfl,rfl,ho,lh ns _ jn,hlen⟩
theorem xr (l:OpenLaw) (args:List WData):l.row.toRowW.claim.post args (.bool true) args=true:=
 postW_of (r:=l.row.toRowW) (X:=(true==true))
  (show WShape.has [] (.bool true) .bool=true by first | rfl | decide | simp[WShape.has,WShape.arms,WShape.armsAll])
  (show (WTm.eq .res (.lit (.bool true))).value [] { args:=args,res:=some (.bool true),after:=args }=some (.bool (true==true)) from w_eq_bool (w_res rfl) w_lit) rfl
theorem rF {l:OpenLaw} {n:Nat} {q:Program} {loose:List Str} {XP:(Str->Option Value)->Heap->Prop} {YP:World->Heap->Prop} {d:DefRec}
  (hn:l.most=some n) (JY:d.params.defaults=[])
  (call: ∀(w:World) (s₀ s₁:Shared) (mg mb:Str->Option Value) (fa:Addr) (o:Obj) (pm cd doc:Value) (a:Addr) (vs:List Value) (ns:List Int),
   Ground q loose [] XP w s₀ mg mb s₁.heap->YP w s₁.heap->
   s₁.heap.get? fa=some o->o.data= .func (docDef d.name d.params d.body d.scope pm cd doc)->s₁.heap.CodeRec cd d.name->mg d.name=some (.ref fa)->
   s₁.heap.get? a=some { cls:= .type "list",data:= .seq vs.toArray }->IntsAre vs ns->ns.length<=n->s₁.gens= #[]->
   codeAny (model l.prog w) callerA (.call (.ref fa) ⟨[.ref a],[]⟩) (fun r s'=>r= .ok (.ret (.bool true))/\OldK s₁.heap s'.heap/\s'.os=s₁.os/\AllBare s'.gens) s₁):
  WalkO q loose XP YP l.row.toRowW d [] (fun f vs=>PySem.call f vs):=by
 intro w s₀ s₁ mg mb G Y fa o pm cd doc dV kV ho hd rq hD hmg hg args vals as Cp X0 hrd nY Ek
 obtain rfl:dV= .none:=Dflts.none hD JY
 obtain rfl:kV= .none:=Dflts.noKw hD
 obtain ⟨a,vs,ns,rfl,rfl,FZ,hints,hlen⟩:=xq hn Cp nY
 refine enter_call (codeAny_mono (call w s₀ s₁ mg mb fa o pm cd doc a vs ns G Y ho (fd_plain hd) rq hmg FZ hints hlen hg) fun r s' hq=>?_)
 obtain ⟨rfl,h2,h3,h4⟩:=hq
 exact ⟨.inl ⟨.bool true, .bool true,[],rfl,fun _=>rfl, .bool true,xr l _,fun _=>⟨List.Pairwise.nil,fun _ hm=>(nomatch hm)⟩⟩,h2,h3,h4⟩
section
variable {prog:Program} {w:World} {A:Around} {E:Value->Shared->Prop} {s:Shared} {K:Frag}
noncomputable def ledger (h:Heap) (L d:Addr):List (Addr×Obj):=(List.range h.objs.size).filterMap fun a=>if a=L\/a=d then none else (h.get? a).map fun o=>(a,o)
end
end VL
namespace L2
open PySem PySem.Spec PyProof.Rows
theorem oM: ∀{vs:List Value} {ns:List Int},IntsAre vs ns->Vals (ns.map V.int) vs
 | _,_, .nil=> .nil
 | _,_, .cons n t h=> .cons ⟨t,rfl⟩ (oM h)
noncomputable def F_ (H:Hp):Prop:= ∀b,H b=none\/ ∃o xs,H b=some (.vI o (.lst xs))
theorem zH {P:Program} {w:World} {K:PySem.W.Frag} {mg mb:Str->Option Value} {CX:zy} {k:Nat} {fa a:Addr} {fd:FuncData} {x:Str} {sp:Sp} {s₁:Shared} {vs:List Value} {ns:List Int}
  (KX:K.In s₁.heap) (Cq:s₁.heap.Ns mainGlobals mg) (hb:s₁.heap.Ns builtinsNs mb) (O9: ∀x:Str,x≠"__name__"->mb x=bootBuiltins x) (O_:s₁.heap.NoLimit) (hg:s₁.gens= #[])
  (ha:s₁.heap.get? a=some { cls:= .type "list",data:= .seq vs.toArray }) (hi:IntsAre vs ns) (hl:ns.length<=sizeLine) (hr:fP k callerA)
  (F: ∀base:Heap,K.In base->base.Ns mainGlobals mg->cf P w K mg base CX k fa fd [x] sp) (JZ: ∀(s:Shared) (u:Value),BindsTo s fd ⟨[u],[]⟩ [(x,u)])
  (t6: ∀H:Hp,F_ H->aJ K H a (ns.map V.int)->sp [.ref a] H (fun v _=>v= .bl true) fun _ _ _=>False)
  (Pa: ∀H e s',CX [] H s₁ (fun _ _ _=>False) e s'->False):
  codeAny (model P w) callerA (.call (.ref fa) ⟨[.ref a],[]⟩) (fun r s'=>r= .ok (.ret (.bool true))/\OldK s₁.heap s'.heap/\s'.os=s₁.os/\AllBare s'.gens) s₁:=by
 have rv:=oM hi
 have Pb:=hi.length
 -- from an abstract heap in VM nothing but Ca script may be tracked
 have core: ∀H:Hp,F_ H->aJ K H a (ns.map V.int)->jm P w H s₁.heap->(∀b,H b≠none->b=a)->(H a≠none->K.lookup a=none)->
   codeAny (model P w) callerA (.call (.ref fa) ⟨[.ref a],[]⟩) (fun r s'=>r= .ok (.ret (.bool true))/\OldK s₁.heap s'.heap/\s'.os=s₁.os/\AllBare s'.gens) s₁:=by
  intro H hO hS bq hA hK
  have vT: ∀{b:Addr} {o:Obj},s₁.heap.get? b=some o->H b=none->(pX s₁.heap H).get? b=some o:=fun e n=>zj e n
  have JN: ∀{b:Addr} {o:Obj} {es:Array DictEntry} {ep:Nat},s₁.heap.get? b=some o->o.data= .dict es ep->H b=none:=fun {b o es ep} e d=>by
   cases q:H b with
   | none=>rfl
   | some u=>
    have e':b=a:=hA b (by rw[q];simp)
    subst e'
    rw[ha]at e;cases e
    have d':Data.seq vs.toArray _=Data.dict es ep:=d
    cases d'
  have MK: ∀{b:Addr} {m:Str->Option Value},s₁.heap.Ns b m->(pX s₁.heap H).Ns b m:=fun {b m} ⟨o,es,ep,e,d,r⟩=>⟨o,es,ep,vT e (JN e d),d,r⟩
  have VN:K.In (pX s₁.heap H):=fun b o e=>vT (KX b o e) (by
   cases q:H b with
   | none=>rfl
   | some u=>
    have e':b=a:=hA b (by rw[q];simp)
    subst e'
    rw[hK (by rw[q];simp)]at e;cases e)
  have hM:Mod K mg (pX s₁.heap H):=⟨VN,MK Cq,⟨mb,MK hb,O9⟩,let ⟨mc,h1,h2⟩:=O_;⟨mc,MK h1,h2⟩⟩
  have e0:Cf P w K mg (pX s₁.heap H) callerA [] s₁ H:=⟨rfl,hM,fun b o e=>B4 e,Nat.le_of_eq (wY _ _),trivial,fun b hb=>absurd (show b∈([]:List Addr) from hb) (by simp),bq, .of_eq hg⟩
  refine codeAny_mono ((F _ VN (MK Cq)).run callerA [] s₁ H ⟨[.ref a],[]⟩ [.ref a] [.ref a] _ _ hr e0 (JZ s₁ (.ref a)) (.cons rfl .nil) (t6 H hO hS)) fun r s' h=>?_
  cases r with
  | error e=>exact (Pa H e s' h).elim
  | ok fl=>
   cases fl with
   | next=>exact False.elim h
   | brk=>exact False.elim h
   | cont=>exact False.elim h
   | ret u=>
    obtain ⟨v,H',os,bare,un,Pc,r',q⟩:=h
    have q':v= .bl true:=q
    subst q'
    obtain rfl:u=Value.bool true:=r'
    refine ⟨rfl,OldK.of_keep fun b o e=>?_,os,bare⟩
    cases q:H b with
    | none=>exact un.keep b o e q (by intro z;exact absurd (show b∈([]:List Addr) from z) (by simp)) (by simp)
    | some u=>
     rcases hO b with z | ⟨ob,xs,z⟩
     ·rw[q]at z;cases z
     ·have z2:=un.lO b ob _ z
      obtain ⟨e1,_⟩:=bq b _ z
      obtain ⟨e2,_⟩:=Pc b _ z2
      rw[e]at e1;cases e1
      exact e2
 cases hk:K.lookup a with
 | some o=>
  -- Ca script is one of Ca zF own objects
  have e:=KX a o hk
  rw[ha]at e
  cases e
  refine core (fun _=>none) (fun _=> .inl rfl) (.inr ⟨_,vs.toArray,_,hk,rfl,rfl,rfl,by rw[List.size_toArray,Pb];exact hl,by simpa using rv⟩) (fun b u z=>by have z':(none:Option HO)=some u:=z;cases z') (fun b z=>absurd rfl z) fun z=>absurd rfl z
 | none=>
  refine core (fun b=>if b=a then some (.vI { cls:= .type "list",data:= .seq vs.toArray } (.lst (ns.map V.int))) else none) (fun b=>?_) (.inl (.inr ⟨{ cls:= .type "list",data:= .seq vs.toArray },if_pos rfl⟩)) (fun b u z=>?_) (fun b z=>?_) fun _=>hk
  ·by_cases hb:b=a
   ·exact .inr ⟨_,_,if_pos hb⟩
   ·exact .inl (if_neg hb)
  ·by_cases hb:b=a
   ·have z':=(if_pos hb).symm.trans z
    cases z'
    subst hb
    exact ⟨ha,by rw[List.length_map];exact hl,vs,_,rv,ha⟩
   ·have z':=(if_neg hb).symm.trans z
    cases z'
  ·by_cases hb:b=a
   ·exact hb
   ·exact absurd (if_neg hb) z
end L2
namespace L2
open PySem PySem.Spec PyProof.Rows
noncomputable abbrev VO {K:PySem.W.Frag} {h:Heap} (_:K.In h):PySem.W.Frag:=K
theorem vU {l:PySem.W.OpenLaw} {n k:Nat} {q:Program} {loose:List Str} {XP:(Str->Option Value)->Heap->Prop} {YP:World->Heap->Prop} {d:DefRec} {K:Params->PySem.W.Frag} {CX:World->zy} {sp:World->Sp} {x:Str}
  (hn:l.most=some n) (VP:n<=sizeLine) (JY:d.params.defaults=[]) (hr:fP k callerA)
  (hY: ∀(w:World) (h:Heap),YP w h->(K w.params).In h)
  (F: ∀(w:World) (mg:Str->Option Value) (fa:Addr) (h:Heap),(K w.params).In h->h.Ns mainGlobals mg->mg d.name=some (.ref fa)->
   ∃fd:FuncData,(∀(s:Shared) (u:Value),BindsTo s fd ⟨[u],[]⟩ [(x,u)])/\
    ∀base:Heap,(K w.params).In base->base.Ns mainGlobals mg->cf l.prog w (K w.params) mg base (CX w) k fa fd [x] (sp w))
  (t6: ∀(w:World) (H:Hp) (a:Addr) (ns:List Int),ns.length<=n->F_ H->aJ (K w.params) H a (ns.map V.int)->sp w [.ref a] H (fun v _=>v= .bl true) fun _ _ _=>False)
  (Pa: ∀(w:World) (H:Hp) (s:Shared) (e:Value) (s':Shared),CX w [] H s (fun _ _ _=>False) e s'->False):
  PySem.W.WalkO q loose XP YP l.row.toRowW d [] (fun f vs=>PySem.call f vs):=by
 refine VL.rF hn JY fun w s₀ s₁ mg mb fa o pm cd doc a vs ns G Y ho hd rq hmg FZ hints hlen hg=>?_
 have KX:=hY w _ Y
 obtain ⟨fd,hb,hF⟩:=F w mg fa _ KX G.T.g hmg
 exact zH KX G.T.g G.T.b G.T.builtins G.T.nolimit hg FZ hints (Nat.le_trans hlen VP) hr hF hb (fun H hO hS=>t6 w H a ns hlen hO hS) fun H e s'=>Pa w H s₁ e s'
end L2
/- THE X1 ML (shape;LID,My.* are VQ):
  My.Adr:a structure of Ca addresses X2 X3 VR names (classes,Iw);My.Txt K t:a structure (Prop) of Ca equations over K;
  My.Ga:{K} {implicit addresses ..} (e1:nsIn K mainGlobals "law"=some (some (.ref f))) (e2:K.lookup f=some ⟨oc,od, .func (fnOf "law" "law" params body scope dV kV doc pm an dw ct),sl⟩) (e3:codeIn K dw "law"=true) .. : ∃t,My.Txt K t
set_option maxRecDepth 100000 in
set_option maxHeartbeats 0 in
theorem PySem.Challenge.cw_LID_holds : PySem.Challenge.rw_LID.Holds := by
 w_on;o_law;k_head;(case hw=>w_witness2)
 k_fill
 refine L2.vU (l:=PySem.Challenge.rw_LID) (n:=63) (k:=40) (x:="script") (CX:=fun w=> ..) (sp:=fun _=>My.kn) rfl (by decide) rfl ⟨rfl,by decide,by decide⟩ (fun w h Y=>PySem.W.kIn_of Y) ?F ?S ?C
 case F=>
  intro w mg fa h KX G hmg
  have T: ∃t,My.Txt (L2.VO KX) t:=by
   dsimp only [L2.VO] -- K X4 VS as «<heap const>w.params» for k_is
   refine' My.Ga ?e1 ?e2 ?e3 ..
   (case e1=>PySem.W.k_is) -- in Ca order:a name->az address->az object->az parts
   (case e2=>PySem.W.k_is)
   ..
  obtain ⟨t,T⟩:=T
  have e0:=hmg.symm.trans (PySem.W.mg_of KX G T.law)
  cases e0 -- fa is Ca VT own address
  exact ⟨_,fun s u=> .of_eq rfl,fun base kb nb=>My.Gb T kb nb⟩ -- if «.of_eq rfl» comes too early:refine' ⟨_,?b,fun base kb nb=>My.Gb T kb nb⟩;exact fun s u=> .of_eq rfl
 case S=>exact fun w H a ns hl hO hS=> ..
 case C=>exact ..
(Ca tactic k_is has no namespace:write k_is) -/
namespace L2
open PySem PySem.Spec PyProof.Rows
noncomputable def aK (s:Stmt):Arguments:=match s with
 | .FunctionDef _ a _ _ _ _ _ _ _ _=>a
 | _=>{ posonlyargs:=[],args:=[],vararg:=none,kwonlyargs:=[],kw_defaults:=[],kwarg:=none,defaults:=[] }
noncomputable def aI (s:Stmt):List Stmt:=match s with
 | .FunctionDef _ _ b _ _ _ _ _ _ _=>b
 | _=>[]
noncomputable def ak (s:Stmt):Scope:=match s with
 | .FunctionDef _ _ _ _ _ _ sc _ _ _=>sc
 | _=>{ kind:= .function,names:=[],isGenerator:=false,isCoroutine:=false }
noncomputable abbrev gc:zy:=fun _ _ _ _ _ _=>False
noncomputable abbrev E0:XK:=fun _ _ _=>False
theorem aC {X:Cx}:Passes gc X E0:=fun _ _ _ _ _ _ _ h=>h.elim
structure Iy (K:PySem.W.Frag) (x qual:Str) (st:Stmt) (f:Addr) (fd:FuncData):Prop where
 ex: ∃(oc:Value) (od:Option Addr) (kV doc pm:Value) (an:Option Addr) (dw ct:Value) (Ej:Array (Option Value)),
  fd=PySem.W.fnOf x qual (aK st) (aI st) (ak st) .none kV doc pm an dw ct/\K.lookup f=some ⟨oc,od, .func fd,Ej⟩/\PySem.W.codeIn K dw qual=true
 kp:PySem.W.keepIn K (.ref f)=true
section
variable {P:Program} {w:World} {K:PySem.W.Frag} {mg:Str->Option Value} {base:Heap}
theorem Iy.ok {x qual:Str} {st:Stmt} {f:Addr} {fd:FuncData} {N ps:List Str} {k:Nat} {sp:Sp} (F:Iy K x qual st f fd) (S:aL N ps (ak st)) (len: ∀vs H Q E,sp vs H Q E->vs.length=ps.length)
  (zA: ∀(dw:Value) (A:Around) (outer:List Env) (s:Shared) (H:Hp) (vs:List V) (Q:VK) (E:XK),fP k (A.deeper (envOfC qual (ak st) s.heap.objs.size f dw))->sp vs H Q E->
   ∃t,w5 (xl gc P w K mg base N qual (ak st) f dw A outer s H E).ME (aI st) t/\t { nx:=fun _ H'=>Q .cy H',rt:=Q } (start N vs) H):cf P w K mg base gc (k+1) f fd ps sp:=by
 obtain ⟨oc,od,kV,doc,pm,an,dw,ct,Ej,rfl,lk,rq⟩:=F.ex
 refine JO lk rq S len fun A outer s H vs Q E hr t6=>?_
 obtain ⟨t,h,q⟩:=zA dw A outer s H vs Q E hr t6
 exact ⟨t,h.ME,q⟩
theorem Iy.binds {x qual:Str} {st:Stmt} {f:Addr} {fd:FuncData} {ps:List Str} (F:Iy K x qual st f fd)
  (h: ∀(kV doc pm:Value) (an:Option Addr) (dw ct:Value) (us:List Value),us.length=ps.length->bindArgs (PySem.W.fnOf x qual (aK st) (aI st) (ak st) .none kV doc pm an dw ct) ⟨us,[]⟩=pure (ps.zip us)):Binds K fd ps []:=by
 obtain ⟨oc,od,kV,doc,pm,an,dw,ct,Ej,rfl,lk,rq⟩:=F.ex
 exact .all (h kV doc pm an dw ct)
theorem bf {x qual:Str} {st:Stmt} {f:Addr} {oc:Value} {od an:Option Addr} {Ej:Array (Option Value)} {kV doc pm dw ct:Value} (l:K.lookup f=some ⟨oc,od, .func (PySem.W.fnOf x qual (aK st) (aI st) (ak st) .none kV doc pm an dw ct),Ej⟩)
  (c:PySem.W.codeIn K dw qual=true) (k:PySem.W.keepIn K (.ref f)=true):Iy K x qual st f (PySem.W.fnOf x qual (aK st) (aI st) (ak st) .none kV doc pm an dw ct):=⟨⟨oc,od,kV,doc,pm,an,dw,ct,Ej,rfl,l,c⟩,k⟩
end
theorem cI {A:Around} {k:Nat} (hr:fP k A):A.units+1<cLine:=Nat.lt_of_le_of_lt (Nat.add_le_add_left (by decide:1<=64) _) hr.units
section
variable {X:Cx}
theorem pv (i:Nat) {x:Str} {pos:Pos} (hN:X.N[i]? =some x:=by rfl) (hv:Jq X.env.scope x:=by first | exact Or.inl rfl | exact Or.inr (Or.inl rfl) | exact Or.inr (Or.inr rfl)) (hd:(x==("__debug__":Str))=false:=by decide)
  (rq:(x==("__classdict__":Str))=false:=by decide):PE X (.Name x pos) (Ju i):=Ft hN hv hd rq
end
theorem J0 {A B:Prop} (h:B):if false=true then A else B:=by
 rw[if_neg Bool.false_ne_true]
 exact h
theorem Pd {A B:Prop} (h:A):if true=true then A else B:=by
 rw[if_pos rfl]
 exact h
theorem dH {c A B:Prop} [Decidable c] (h1:c->A) (h2: ¬c->B):if c then A else B:=by
 by_cases h:c
 ·rw[if_pos h]
  exact h1 h
 ·rw[if_neg h]
  exact h2 h
noncomputable def ah (H H':Hp):Prop:= ∀b o,H b=some o->H' b=some o
theorem ah.refl (H:Hp):ah H H:=fun _ _ h=>h
theorem ah.trans {H H1 H2:Hp} (a:ah H H1) (b:ah H1 H2):ah H H2:=fun c o h=>b c o (a c o h)
theorem ah.free {H H':Hp} (e:ah H H') {l:Addr} (h:H' l=Option.none):H l=Option.none:=by
 cases q:H l with
 | none=>rfl
 | some o=>
  rw[e l o q]at h
  cases h
theorem ah.seq {K:PySem.W.Frag} {H H':Hp} {a:Addr} {xs:List V} (e:ah H H') (h:aJ K H a xs):aJ K H' a xs:=by
 rcases h with (h | ⟨o,h⟩) | h
 ·exact .inl (.inl (e _ _ h))
 ·exact .inl (.inr ⟨o,e _ _ h⟩)
 ·exact .inr h
end L2
namespace L2
open PySem PySem.Spec PyProof.Rows
noncomputable def hJ (env:Env):List (Str×NameKind)->List (Str×Addr)->List (Str×Addr)
 | [],acc=>acc
 |(n,k)::r,acc=>hJ env r (if k== .free then (match env.cells.lookup n with | some a=>(n,a)::acc | none=>acc) else acc)
theorem eZ {env:Env}: ∀(names:List (Str×NameKind)) (acc:List (Str×Addr)),(∀y∈names,y.2= .free-> ∃c,env.cells.lookup y.1=some c)->
  (forIn names acc fun (x:Str×NameKind) (cs:List (Str×Addr))=>(if (x.2==NameKind.free)=true then do let a <-cellOf env x.1;pure (ForInStep.yield ((x.1,a)::cs)) else pure (ForInStep.yield cs):Sem (ForInStep (List (Str×Addr)))))=pure (hJ env names acc)
 | [],acc,_=>rfl
 |(n,k)::r,acc,h=>by
  rw[List.forIn_cons]
  have hr: ∀y∈r,y.2= .free-> ∃c,env.cells.lookup y.1=some c:=fun y hy=>h y (List.mem_cons_of_mem _ hy)
  cases hk:(k==NameKind.free) with
  | false=>
   have e1:hJ env ((n,k)::r) acc=hJ env r acc:=by
    show hJ env r (if (k==NameKind.free)=true then (match env.cells.lookup n with | some a=>(n,a)::acc | none=>acc) else acc)=_
    rw[hk,if_neg Bool.false_ne_true]
   rw[e1, <-eZ r acc hr]
   simp only[hk,Bool.false_eq_true,if_false,pure_bind]
  | true=>
   obtain ⟨c,hc⟩:=h (n,k) List.mem_cons_self (by simpa using hk)
   have e1:hJ env ((n,k)::r) acc=hJ env r ((n,c)::acc):=by
    have w4:env.cells.lookup n=some c:=hc
    show hJ env r (if (k==NameKind.free)=true then (match env.cells.lookup n with | some a=>(n,a)::acc | none=>acc) else acc)=_
    rw[hk,w4,if_pos rfl]
   have e2:cellOf env n=pure c:=by
    have w4:env.cells.lookup n=some c:=hc
    unfold cellOf
    rw[w4]
   rw[e1, <-eZ r ((n,c)::acc) hr]
   simp only[hk,if_true,e2,pure_bind]
theorem je {scope:Scope} {env:Env} (h: ∀y∈scope.names,y.2= .free-> ∃c,env.cells.lookup y.1=some c):closureFor scope env=pure (hJ env scope.names []):=by
 have e:=eZ scope.names [] h
 simp only[closureFor]
 rw[e]
 rfl
theorem ko {env:Env} {x:Str} {c:Addr}: ∀(names:List (Str×NameKind)) (acc:List (Str×Addr)),(∀y d,acc.lookup y=some d->env.cells.lookup y=some d)->(hJ env names acc).lookup x=some c->env.cells.lookup x=some c
 | [],acc,ha,h=>ha x c h
 |(n,k)::r,acc,ha,h=>by
  refine ko r _ (fun y d q=>?_) h
  by_cases hk:(k==NameKind.free)=true
  ·rw[if_pos hk]at q
   cases e:env.cells.lookup n with
   | none=>rw[e]at q;exact ha y d q
   | some a=>
    rw[e]at q
    have q':List.lookup y ((n,a)::acc)=some d:=q
    rw[List.lookup_cons]at q'
    cases hy:(y==n) with
    | true=>
     rw[hy]at q'
     have:y=n:=by simpa using hy
     subst this
     rw[e];exact q'
    | false=>rw[hy]at q';exact ha y d q'
  ·rw[if_neg hk]at q;exact ha y d q
theorem rG {env:Env} {x:Str}: ∀(names:List (Str×NameKind)) (acc:List (Str×Addr)),(∃c,acc.lookup x=some c)-> ∃c,(hJ env names acc).lookup x=some c
 | [],acc,h=>h
 |(n,k)::r,acc,⟨c,hc⟩=>by
  refine rG r _ ?_
  by_cases hk:(k==NameKind.free)=true
  ·rw[if_pos hk]
   cases e:env.cells.lookup n with
   | none=>exact ⟨c,hc⟩
   | some a=>
    show ∃c,List.lookup x ((n,a)::acc)=some c
    rw[List.lookup_cons]
    cases hy:(x==n) with
    | true=>exact ⟨a,rfl⟩
    | false=>exact ⟨c,hc⟩
  ·rw[if_neg hk];exact ⟨c,hc⟩
theorem l_ {env:Env} {x:Str}: ∀(names:List (Str×NameKind)) (acc:List (Str×Addr)),(∀y∈names,y.2= .free-> ∃c,env.cells.lookup y.1=some c)->names.lookup x=some .free-> ∃c,(hJ env names acc).lookup x=some c
 | [],acc,_,h=>by simp at h
 |(n,k)::r,acc,hf,h=>by
  have hr: ∀y∈r,y.2= .free-> ∃c,env.cells.lookup y.1=some c:=fun y hy=>hf y (List.mem_cons_of_mem _ hy)
  rw[List.lookup_cons]at h
  cases hy:(x==n) with
  | true=>
   rw[hy]at h
   have hk:k= .free:=Option.some.inj h
   subst hk
   have hx:x=n:=by simpa using hy
   subst hx
   obtain ⟨c,hc⟩:=hf (x, .free) List.mem_cons_self rfl
   have w4:env.cells.lookup x=some c:=hc
   refine rG r _ ⟨c,?_⟩
   rw[if_pos (show (NameKind.free==NameKind.free)=true by decide),w4]
   show List.lookup x ((x,c)::acc)=some c
   rw[List.lookup_cons]
   simp
  | false=>
   rw[hy]at h
   exact l_ r _ hr h
theorem jG {env:Env}: ∀{names:List (Str×NameKind)} {x:Str},names.lookup x=some .free->
  ((names.map fun (n,k)=>if (k==NameKind.free&&env.scope.kind== .function&&env.kindOf n==some .cell) then (n,NameKind.cell) else (n,k)).lookup x=some .cell\/
   (names.map fun (n,k)=>if (k==NameKind.free&&env.scope.kind== .function&&env.kindOf n==some .cell) then (n,NameKind.cell) else (n,k)).lookup x=some .free)
 | [],_,h=>by simp at h
 |(n,k)::r,x,h=>by
  have ih:= @jG env r x
  show (List.lookup x ((if (k==NameKind.free&&env.scope.kind== .function&&env.kindOf n==some .cell)=true then (n,NameKind.cell) else (n,k))::_)=_\/List.lookup x ((if (k==NameKind.free&&env.scope.kind== .function&&env.kindOf n==some .cell)=true then (n,NameKind.cell) else (n,k))::_)=_)
  cases hx:x==n with
  | true=>
   simp only[List.lookup_cons,hx]at h
   cases h
   by_cases hc:((NameKind.free==NameKind.free)&&env.scope.kind== .function&&env.kindOf n==some .cell)=true
   ·rw[if_pos hc];simp[List.lookup_cons,hx]
   ·rw[if_neg hc];simp[List.lookup_cons,hx]
  | false=>
   simp only[List.lookup_cons,hx]at h
   by_cases hc:(k==NameKind.free&&env.scope.kind== .function&&env.kindOf n==some .cell)=true
   ·rw[if_pos hc];simp only[List.lookup_cons,hx];exact ih h
   ·rw[if_neg hc];simp only[List.lookup_cons,hx];exact ih h
theorem jH {env:Env}: ∀{names:List (Str×NameKind)} {x:Str},(∀y∈names,y.2≠ .cell)->
  ((names.map fun (n,k)=>if (k==NameKind.free&&env.scope.kind== .function&&env.kindOf n==some .cell) then (n,NameKind.cell) else (n,k)).lookup x=some .cell\/
   (names.map fun (n,k)=>if (k==NameKind.free&&env.scope.kind== .function&&env.kindOf n==some .cell) then (n,NameKind.cell) else (n,k)).lookup x=some .free)->names.lookup x=some .free
 | [],_,_,h=>by simp at h
 |(n,k)::r,x,hn,h=>by
  have ih:= @jH env r x (fun y hy=>hn y (List.mem_cons_of_mem _ hy))
  have hk:=hn (n,k) List.mem_cons_self
  have h':(List.lookup x ((if (k==NameKind.free&&env.scope.kind== .function&&env.kindOf n==some .cell)=true then (n,NameKind.cell) else (n,k))::(r.map fun (n,k)=>if (k==NameKind.free&&env.scope.kind== .function&&env.kindOf n==some .cell) then (n,NameKind.cell) else (n,k)))=some .cell\/List.lookup x ((if (k==NameKind.free&&env.scope.kind== .function&&env.kindOf n==some .cell)=true then (n,NameKind.cell) else (n,k))::(r.map fun (n,k)=>if (k==NameKind.free&&env.scope.kind== .function&&env.kindOf n==some .cell) then (n,NameKind.cell) else (n,k)))=some .free):=h
  cases hx:x==n with
  | true=>
   rw[List.lookup_cons,hx]
   by_cases hc:(k==NameKind.free&&env.scope.kind== .function&&env.kindOf n==some .cell)=true
   ·have:(k==NameKind.free)=true:=by
     rw[Bool.and_eq_true,Bool.and_eq_true]at hc;exact hc.1.1
    have Pe:k= .free:=by simpa using this
    rw[Pe]
   ·rw[if_neg hc]at h'
    simp only[List.lookup_cons,hx]at h'
    rcases h' with h' | h'
    ·exact absurd (Option.some.inj h') hk
    ·exact h'
  | false=>
   rw[List.lookup_cons,hx]
   by_cases hc:(k==NameKind.free&&env.scope.kind== .function&&env.kindOf n==some .cell)=true
   ·rw[if_pos hc]at h';simp only[List.lookup_cons,hx]at h';exact ih h'
   ·rw[if_neg hc]at h';simp only[List.lookup_cons,hx]at h';exact ih h'
noncomputable abbrev BK:Value->Shared->Prop:=fun _ _=>False
theorem qf {prog:Program} {w:World} {A:Around} {R:Result->Shared->Prop} {s:Shared} {elt target iter:Expr} {ifs:List Expr} {scope:Scope} {pos:Pos} {it acc:Value} {env:Env} (I:Nat->Shared->Prop)
  (turn: ∀n s,I n s->wpAny (model prog w) A (pyNext it) (fun r s₁=>match r with
   | none=>R (.ok .next) s₁
   | some v=>wpAny (model prog w) A (letOwnedTupleGo target it v) (fun _ VU=>wpAny (model prog w) A (assign target env v) (fun _ s₂=>
     wpAny (model prog w) A (forIn ifs true fun c r=>if r=true then do let ok <-isTrue c env (eval c env);pure (ForInStep.yield ok) else pure (ForInStep.yield r)) (fun ok s₃=>
      if ok=true then wpAny (model prog w) A (eval elt env) (fun x s₄=>
       wpAny (model prog w) A (call (.builtin "list.append") [acc,x]) (fun _ s₅=> ∃m,m<n/\I m s₅) BK s₄) BK s₃
      else ∃m,m<n/\I m s₃) BK s₂) BK VU) BK s₁) BK s)
  (n:Nat) (h:I n s):codeAny (model prog w) A (.compLoop (.ListComp elt [⟨target,iter,ifs,0⟩] scope pos) 0 it acc env) R s:=by
 refine codeAny_loop rfl I (fun n s hI=>?_) n h
 show wpAny _ A ((compTurn (.ListComp elt [⟨target,iter,ifs,0⟩] scope pos) 0 it acc env).onRaise (fun x=>do noteFrame x env;theTreesLotGoes x)) _ _ s
 refine wpAny_noted ?_
 rw[compTurn_list]
 have no: ∀{F:Value->Shared->Prop} (e:Value) (s':Shared),BK e s'->F e s':=fun _ _ h=>h.elim
 refine wpAny_bind (wpAny_standAt (wpAny_bind (wpAny_mono (turn n s hI) (fun r s₁ h₁=>?_) no)))
 cases r with
 | none=>exact wpAny_pure h₁
 | some v=>
  refine wpAny_bind (wpAny_mono h₁ (fun _ VU X5=>?_) no)
  refine wpAny_bind (wpAny_mono X5 (fun _ s₂ h₂=>wpAny_bind (wpAny_mono h₂ (fun ok s₃ h₃=>?_) no)) no)
  cases ok with
  | false=>exact wpAny_pure ⟨rfl,h₃⟩
  | true=>
   exact wpAny_bind (wpAny_bind (wpAny_mono h₃ (fun x s₄ h₄=>wpAny_bind (wpAny_mono h₄ (fun _ s₅ h₅=>wpAny_pure (wpAny_pure ⟨rfl,h₅⟩)) no)) no))
noncomputable def bL (X:Cx) (scope:Scope) (C:Addr) (Nc:List Str) (s:Shared) (H:Hp) (fp:List Addr):Cx where
 prog:=X.prog
 w:=X.w
 K:=X.K
 mg:=X.mg
 base:=X.base
 A:=X.A
 N:=Nc
 s₀:=s
 H₀:=H
 env:=compEnvC scope (hJ X.env scope.names []) C X.env
 outer:=X.stack
 stack:=X.stack
 ex:=fp
 fn:=fun _=>false
 calm:=X.calm
 pn:=[]
 xe:=BK
noncomputable def i_ (X:Cx) (scope:Scope):List Str->List (Option Nat)->Prop
 | [],[]=>True
 | _::ys,none::os=>i_ X scope ys os
 | y::ys,some j::os=>(X.N[j]? =some y/\scope.names.lookup y=some .free/\(X.env.kindOf y=some .cell\/X.env.kindOf y=some .free))/\i_ X scope ys os
 | _,_=>False
noncomputable def jI (σ:St) (ix:List (Option Nat)):St:=ix.map fun o=>match o with | none=>none | some j=>(σ[j]?).getD none
noncomputable def Wk:St->St->Prop
 | [],[]=>True
 | none::a,_::b=>Wk a b
 | some v::a,w::b=>w=some v/\Wk a b
 | _,_=>False
theorem Wk.len: ∀{a b:St},Wk a b->a.length=b.length
 | [],[],_=>rfl
 | none::a,_::b,h=>congrArg (· +1) (Wk.len (a:=a) (b:=b) h)
 | some _::a,_::b,h=>congrArg (· +1) (Wk.len (a:=a) (b:=b) h.2)
theorem Wk.get: ∀{a b:St} {i:Nat} {v:V},Wk a b->a[i]? =some (some v)->b[i]? =some (some v)
 | [],[],i,v,_,h=>by simp at h
 | none::a,x::b,0,v,_,h=>by simp at h
 | none::a,x::b,i+1,v,k,h=>by
  have:=Wk.get (a:=a) (b:=b) (i:=i) (v:=v) k (by simpa using h)
  simpa using this
 | some y::a,x::b,0,v,k,h=>by
  have e:y=v:=by simpa using h
  subst e
  simp[k.1]
 | some y::a,x::b,i+1,v,k,h=>by
  have:=Wk.get (a:=a) (b:=b) (i:=i) (v:=v) k.2 (by simpa using h)
  simpa using this
theorem i_.len {X:Cx} {scope:Scope}: ∀{N:List Str} {ix:List (Option Nat)},i_ X scope N ix->ix.length=N.length
 | [],[],_=>rfl
 | _::ys,none::os,h=>congrArg (· +1) (i_.len (N:=ys) (ix:=os) h)
 | _::ys,some _::os,h=>congrArg (· +1) (i_.len (N:=ys) (ix:=os) h.2)
theorem i_.get {X:Cx} {scope:Scope}: ∀{N:List Str} {ix:List (Option Nat)} {i j:Nat},i_ X scope N ix->ix[i]? =some (some j)-> ∃y,N[i]? =some y/\X.N[j]? =some y/\scope.names.lookup y=some .free/\(X.env.kindOf y=some .cell\/X.env.kindOf y=some .free)
 | [],[],i,j,_,h=>by simp at h
 | y::ys,none::os,0,j,_,h=>by simp at h
 | y::ys,none::os,i+1,j,k,h=>by
  obtain ⟨z,h1,h2⟩:=i_.get (N:=ys) (ix:=os) (i:=i) (j:=j) k (by simpa using h)
  exact ⟨z,by simpa using h1,h2⟩
 | y::ys,some j'::os,0,j,k,h=>by
  have e:j'=j:=by simpa using h
  subst e
  exact ⟨y,by simp,k.1⟩
 | y::ys,some j'::os,i+1,j,k,h=>by
  obtain ⟨z,h1,h2⟩:=i_.get (N:=ys) (ix:=os) (i:=i) (j:=j) k.2 (by simpa using h)
  exact ⟨z,by simpa using h1,h2⟩
theorem xt {σ:St} {ix:List (Option Nat)} {i:Nat} {v:V} (h:(jI σ ix)[i]? =some (some v)): ∃j,ix[i]? =some (some j)/\σ[j]? =some (some v):=by
 unfold jI at h
 rw[List.getElem?_map]at h
 cases e:ix[i]? with
 | none=>rw[e]at h;cases h
 | some o=>
  rw[e]at h
  cases o with
  | none=>cases h
  | some j=>
   refine ⟨j,rfl,?_⟩
   have h':some ((σ[j]?).getD none)=some (some v):=h
   cases q:σ[j]? with
   | none=>rw[q]at h';cases h'
   | some z=>rw[q]at h';cases h';rfl
end L2
namespace L2
open PySem PySem.Spec PyProof.Rows
theorem uz {X:Cx} {pins:List (Addr×Obj)} {σ:St} {H:Hp} {s:Shared} (I:Inv X pins σ H s) {scope:Scope} {Nc:List Str} {ix:List (Option Nat)} (yU:i_ X scope Nc ix) (gg: ∀y∈scope.names,y.2≠ .cell)
  (gX:scope.kind= .function) (qg: ∀y∈scope.names,y.2= .free->X.env.kindOf y.1=some .cell\/X.env.kindOf y.1=some .free) {fp:List Addr} (hf: ∀b∈fp,la X pins H b) (J3: ∀b∈fp, ∃o,s.heap.get? b=some o)
  {C:Addr} {h':Heap} {t':Nat} {m0:Str->Option Value} (hC:s.heap.objs.size<=C) (Cq:h'.Ns C m0) (k: ∀b o,s.heap.get? b=some o->h'.get? b=some o):
  Inv (bL X scope C Nc s H fp) [] (jI σ ix) H { s with heap:=h',toks:=t' }:=by
 have Iz: ∀y∈scope.names,y.2= .free-> ∃c,X.env.cells.lookup y.1=some c:=fun y hy e=>I.ok.has y.1 (qg y hy e)
 have jJ: ∀{x:Str} {c:Addr},(hJ X.env scope.names []).lookup x=some c->X.env.cells.lookup x=some c:=fun {x c} e=>ko scope.names [] (fun y d q=>by simp at q) e
 refine ⟨⟨I.ok.mod,gX,I.ok.glob,I.ok.blt,hC,fun x y c h1 h2=>I.ok.inj x y c (jJ h1) (jJ h2),fun x hx=>?_,fun x c h=>?_,I.ok.hd,I.ok.frames, .inl rfl,fun b hb=>?_,I.bs,Nat.le_trans I.ok.D8 I.sz,fun b o e hb=>?_,fun b hb hs=>?_,I.stack,I.vK⟩,
  rfl,I.bare,Un.kept k,⟨m0,Cq,fun i x v h1 h2 h3=>?_⟩,fun x c e=>?_,I.bq.fresh hC,fun x c e=>I.ia x c (jJ e),fun p hp=>absurd (show p∈([]:List (Addr×Obj)) from hp) (by simp),I.bq.kept k,?_⟩
 ·have B9:scope.names.lookup x=some .free:=jH gg hx
  exact l_ scope.names [] Iz B9
 ·exact absurd (show false=true from h) (by decide)
 ·refine ⟨?_,fun x c e=>(hf b hb).2.2.2.2.1 x c (jJ e)⟩
  obtain ⟨o,ho⟩:=J3 b hb
  exact Nat.ne_of_lt (Nat.lt_of_lt_of_le (Heap.lt_size ho) hC)
 ·rcases (hf b hb).2.2.2.1 with z | z
  ·exact I.ok.zk b o e z
  ·exact absurd (Nat.lt_of_lt_of_le (Heap.lt_size e) (Nat.le_trans I.ok.D8 z)) (Nat.lt_irrefl _)
 ·rcases List.mem_cons.mp (I.lQ b hs) with z | z
  ·exact (hf b hb).2.1 z
  ·exact (hf b hb).2.2.1 z
 ·obtain ⟨j,e1,e2⟩:=xt h2
  obtain ⟨y,y1,y2,y3,y4⟩:=yU.get e1
  have VW:Nc[i]? =some x:=h1
  rw[y1]at VW
  cases VW
  obtain ⟨m,hn,hl⟩:=I.loc
  have hv:Jq X.env.scope x:=by
   rcases y4 with z | z
   ·exact .inr (.inl z)
   ·exact .inr (.inr z)
  obtain ⟨u,r,l⟩:=hl j x v y2 e2 hv
  refine ⟨u,r, .inr ⟨jG y3,?_⟩⟩
  rcases l with ⟨l,_⟩ | ⟨_,c,hc,q⟩
  ·rcases y4 with z | z
   ·rw[z]at l;cases l
   ·rw[z]at l;cases l
  ·obtain ⟨c',w4⟩:=l_ scope.names [] Iz y3
   have e:=jJ w4
   rw[hc]at e
   cases e
   obtain ⟨o,ho,hd⟩:=q
   exact ⟨c,w4,o,k _ _ ho,hd⟩
 ·obtain ⟨v,o,ho,hd⟩:=I.cell x c (jJ e)
  exact ⟨v,o,k _ _ ho,hd⟩
 ·show (jI σ ix).length=Nc.length
  unfold jI
  rw[List.length_map]
  exact yU.len
theorem xu {X:Cx} {pins vL:List (Addr×Obj)} {σ σ':St} {H H':Hp} {s s':Shared} (I:Inv X pins σ H s) {scope:Scope} {Nc:List Str} {fp:List Addr} {C D:Addr} (J:Inv (bL X scope C Nc s H fp) vL σ' H' s')
  (hf: ∀b∈fp,la X pins H b) (hD:s.heap.objs.size<=D) (hC:s.heap.objs.size<=C) (Gd:D≠C) {az:List Value} {n:Nat} {acc:List V} (eD:s'.heap.get? D=some { cls:= .type "list",data:= .seq az.toArray n }) (r:Vals acc az)
  (hz:acc.length<=sizeLine) (nD:H' D=none) {oC:Obj} (eC:s'.heap.get? C=some oC) (dC: ∀v,oC.data≠ .cell v):Inv X (pins++[(C,oC)]) σ (upd H' D (.lst acc)) s':=by
 have lt: ∀b o,s.heap.get? b=some o->b≠D:=fun b o e=>Nat.ne_of_lt (Nat.lt_of_lt_of_le (Heap.lt_size e) hD)
 have U:Un (vJ X.stack) fp H H' s.heap s'.heap:=J.base
 have U':Un (vJ X.stack) fp H (upd H' D (.lst acc)) s.heap s'.heap:=
  ⟨U.keep,U.slot,fun b o e n hx=>by rw[aj (lt b o e)];exact U.free b o e n hx,U.there,fun b xs e=>by rw[aj (aq (U.nU b xs e) nD)];exact U.nU b xs e,
   fun b o u e=>by rw[aj (aq (U.lO b o u e) nD)];exact U.lO b o u e,fun b ps e=>by
    obtain ⟨more,q⟩:=U.pW b ps e
    exact ⟨more,by rw[aj (aq q nD)];exact q⟩⟩
 have bq:jm X.prog X.w (upd H' D (.lst acc)) s'.heap:=fun b u e=>by
  by_cases hb:b=D
  ·subst hb
   rw[ae]at e;cases e
   exact ⟨hz,az,n,r,eD⟩
  ·rw[aj hb]at e
   exact (J.bq b u e).rl (fun c v _ q=>q) (fun c q=>by rw[aj (aq q nD)];exact q) fun c xs q=>by rw[aj (aq q nD)];exact q
 have I':Inv X pins σ (upd H' D (.lst acc)) s':=I.Jt (ch:=fp) J.os U' bq J.bare fun b hb=>by
  obtain ⟨_,h1,_,h2,h3,h4⟩:=hf b hb
  exact ⟨h2,h1,h3,h4⟩
 refine I'.jB fun p hp=>?_
 rcases List.mem_append.mp hp with z | z
 ·exact I'.pin p (List.mem_append_right _ z)
 ·have e:p=(C,oC):=List.mem_singleton.mp z
  subst e
  refine ⟨eC,?_,Nat.ne_of_gt (Nat.lt_of_lt_of_le I.lt hC),I.Fp hC,dC⟩
  rw[aj (Ne.symm Gd)]
  exact J.free
noncomputable def PF (Y:Cx) (ifs:List Expr) (tc:TT):Prop:=
 ∀(pins:List (Addr×Obj)) (s:Shared) (σ:St) (H:Hp) (Q:Bool->Hp->Prop),Inv Y pins σ H s->tc σ H Q->
  wpAny (model Y.prog Y.w) Y.A (forIn ifs true fun c r=>if r=true then do let ok <-isTrue c Y.env (eval c Y.env);pure (ForInStep.yield ok) else pure (ForInStep.yield r)) (TP Y pins σ Q) Y.xe s
noncomputable def Ge:TT:=fun _ H Q=>Q true H
theorem fD {Y:Cx}:PF Y [] Ge:=fun _ _ _ H _ I h=>wpAny_tests_nil ⟨H,I,h⟩
theorem me {Y:Cx} {c:Expr} {tc:TT} (h:PT Y c tc):PF Y [c] tc:=fun pins s σ H Q I hw=>wpAny_tests_one (h pins s σ H Q I hw)
noncomputable def jK (J:It) (σc:St) (g:TG) (tc:TT) (te:TE) (Q:VK) (H1:Hp):Prop:=
 ∃W:Nat->Nat->List V->Hp->Prop,(∃m,W 0 m [] H1)/\ ∀i m acc H,W i m acc H->acc.length<sizeLine/\
 ((J.stop i H/\ ∀D,H D=none->Q (.ref D) (upd H D (.lst acc)))\/
  (J.go i H/\ ∀x H',J.uh i H x H'->g x σc H' fun σ2 H2=>Wk σc σ2/\tc σ2 H2 fun b H3=>if b=true then te σ2 H3 fun v H4=> ∃m',m'<m/\W (i+1) m' (acc++[v]) H4 else ∃m',m'<m/\W (i+1) m' acc H3))
noncomputable def rH (wi:TI) (ix:List (Option Nat)) (g:TG) (tc:TT) (te:TE):TE:=fun σ H Q=>wi σ H fun J H1=>jK J (jI σ ix) g tc te Q H1
theorem oN {X:Cx} {tg iter elt:Expr} {ifs:List Expr} {scope:Scope} {pos:Pos} {wi:TI} {g:TG} {tc:TT} {te:TE} {Nc:List Str} {ix:List (Option Nat)} (hi:PI X tg iter wi) (jf:X.calm=true) (yU:i_ X scope Nc ix)
  (gg: ∀y∈scope.names,y.2≠ .cell) (gX:scope.kind= .function) (qg: ∀y∈scope.names,y.2= .free->X.env.kindOf y.1=some .cell\/X.env.kindOf y.1=some .free)
  (hG: ∀C s H fp,PG (bL X scope C Nc s H fp) tg g) (hT: ∀C s H fp,PF (bL X scope C Nc s H fp) ifs tc) (hE: ∀C s H fp,PE (bL X scope C Nc s H fp) elt te)
  {pins:List (Addr×Obj)} {s:Shared} {σ:St} {H:Hp} {Q:VK} (I:Inv X pins σ H s) (h:rH wi ix g tc te σ H Q) {RR:Value->Addr->Result->Shared->Prop}
  (X6: ∀(D C:Addr) (oC:Obj) (m:Str->Option Value) (H':Hp) (s':Shared),s'.heap.get? C=some oC->s'.heap.Ns C m->la X pins H' C->Inv X (pins++[(C,oC)]) σ H' s'->Q (.ref D) H'->RR (.ref D) C (.ok .next) s'):
  wpAny (model X.prog X.w) X.A (eval iter X.env) (fun v s1=>wpAny (model X.prog X.w) X.A (pyIter v) (fun it s2=>wpAny (model X.prog X.w) X.A (newList []) (fun acc s3=>
   wpAny (model X.prog X.w) X.A (newFunctionEnv scope X.env.globals (hJ X.env scope.names []) [] X.env.qual none .none (some X.env)) (fun J4 s4=>
    codeAny (model X.prog X.w) X.A (.compStart (.ListComp elt [⟨tg,iter,ifs,0⟩] scope pos) 0 it acc { J4 with scope:=relabel scope X.env }) (RR acc J4.locals) s4) X.xe s3) X.xe s2) X.xe s1) X.xe s:=by
 refine bU (hi pins s σ H _ I h) fun v s1 h1=>bU h1 fun OM s2 h2=>?_
 obtain ⟨it,fp,tn,J,H2,e,I2,T,gW,f2,W,⟨m0,w0⟩,turn⟩:=h2
 subst e
 refine wpAny_newObj_type (wpAny_newFunctionEnv gg (by intro y hy;simp at hy) (fun h₁ Gf Cr=>?_) gX)
 dsimp only at Gf Cr ⊢
 generalize Pf:s2.heap.push { cls:= .type "list",dict:=none,data:= .seq ([]:List Value).toArray }=P2 at Gf Cr ⊢
 have hC:P2.objs.size=s2.heap.objs.size+1:=by rw[<-Pf,Heap.size_push]
 have Gd:s2.heap.objs.size≠P2.objs.size:=by rw[hC];exact Nat.ne_of_lt (Nat.lt_succ_self _)
 have Gg:s2.heap.objs.size<=P2.objs.size:=by rw[hC];exact Nat.le_succ _
 have Fs: ∀b,b<s2.heap.objs.size->b≠P2.objs.size:=fun b hb=>by rw[hC];exact Nat.ne_of_lt (Nat.lt_succ_of_lt hb)
 have old: ∀b o,s2.heap.get? b=some o->h₁.get? b=some o:=fun b o e=>Cr.extBut b o (Fs b (Heap.lt_size e)) (Heap.get?_push_of_some _ (Pf▸Heap.get?_push_of_some _ e))
 have uA:h₁.get? s2.heap.objs.size=some { cls:= .type "list",data:= .seq ([]:List Value).toArray }:=Cr.extBut _ _ Gd (Heap.get?_push_of_some _ (Pf▸Heap.get?_push_size _ rfl))
 have VX:tn 0 h₁:=T.keep 0 _ _ gW fun b _ o e=>old b o e
 have J3: ∀b∈fp, ∃o,s2.heap.get? b=some o:=fun b hb=>let ⟨o,e,_⟩:=T.obj 0 _ gW b hb;⟨o,e⟩
 have VY: ∀b∈fp,s2.heap.objs.size≠b:=fun b hb=>let ⟨o,e⟩:=J3 b hb;Nat.ne_of_gt (Heap.lt_size e)
 have IY:=uz I2 yU gg gX qg f2 J3 (t':=s2.toks+([]:List (Str×Value)).length) Gg Gf old
 have Pg: ∀b,s2.heap.objs.size<=b->b∉vJ X.stack:=fun b hb hs=>by
  rcases List.mem_cons.mp (I2.lQ b hs) with z | z
  ·exact absurd (Nat.lt_of_lt_of_le I2.lt hb) (by rw[z];exact Nat.lt_irrefl _)
  ·exact I2.Fp hb z
 have jJ: ∀{x:Str} {c:Addr},(hJ X.env scope.names []).lookup x=some c->X.env.cells.lookup x=some c:=fun {x c} e=>ko scope.names [] (fun y d q=>by simp at q) e
 have J5: ∀x c,(hJ X.env scope.names []).lookup x=some c->c≠s2.heap.objs.size:=fun x c e z=>by
  obtain ⟨v,q⟩:=I2.cell x c (jJ e)
  exact absurd (q.lt) (by rw[z];exact Nat.lt_irrefl _)
 have fY: ∀{pl:List (Addr×Obj)} {H':Hp},(∀p∈pl,p.1=s2.heap.objs.size)->(∀b∈fp,H' b=none)-> ∀b∈fp,la (bL X scope P2.objs.size Nc s2 H2 fp) pl H' b:=fun {pl H'} jd hn b hb=>by
  refine ⟨hn b hb,?_,?_, .inl hb,fun x c e=>(f2 b hb).2.2.2.2.1 x c (jJ e),fun p hp=>?_⟩
  ·obtain ⟨o,e⟩:=J3 b hb
   exact Fs b (Heap.lt_size e)
  ·intro hs
   rcases List.mem_cons.mp (I2.lQ b hs) with z | z
   ·exact (f2 b hb).2.1 z
   ·exact (f2 b hb).2.2.1 z
  ·rw[jd p hp]
   exact VY b hb
 have loop: ∀s₃:Shared,s₃={ s2 with heap:=h₁,toks:=s2.toks+([]:List (Str×Value)).length }->
   codeAny (model X.prog X.w) X.A (.compLoop (.ListComp elt [⟨tg,iter,ifs,0⟩] scope pos) 0 (.ref it) (.ref s2.heap.objs.size) (compEnvC scope (hJ X.env scope.names []) P2.objs.size X.env)) (RR (.ref s2.heap.objs.size) P2.objs.size) s₃:=by
  rintro s₃ rfl
  refine qf (fun n s'=> ∃i acc az nn H',Inv (bL X scope P2.objs.size Nc s2 H2 fp) [] (jI σ ix) H' s'/\tn i s'.heap/\(∀b∈fp,H' b=none)/\
   s'.heap.get? s2.heap.objs.size=some { cls:= .type "list",data:= .seq (az:List Value).toArray nn }/\Vals acc az/\H' s2.heap.objs.size=none/\W i n acc H') ?_ m0
   ⟨0,[],[],0,H2,IY,VX,fun b hb=>(f2 b hb).1,uA, .nil,I2.bq.fresh (Nat.le_refl _),w0⟩
  rintro n s3 ⟨i,acc,az,nn,H3,I3,yQ,yR,eD,rv,nD,w3⟩
  obtain ⟨hz,alt⟩:=turn i n acc H3 w3
  have IP:Inv (bL X scope P2.objs.size Nc s2 H2 fp) [(s2.heap.objs.size,{ cls:= .type "list",data:= .seq az.toArray nn })] (jI σ ix) H3 s3:=I3.jB fun p hp=>by
   have e:p=(s2.heap.objs.size,_):=List.mem_singleton.mp hp
   subst e
   refine ⟨eD,nD,Gd,Pg _ (Nat.le_refl _),fun v z=>?_⟩
   have z':Data.seq az.toArray nn=Data.cell v:=z
   cases z'
  have jd: ∀p∈[(s2.heap.objs.size,({ cls:= .type "list",data:= .seq az.toArray nn }:Obj))],p.1=s2.heap.objs.size:=fun p hp=>by
   have e:p=(s2.heap.objs.size,_):=List.mem_singleton.mp hp
   rw[e]
  rcases alt with ⟨stop,fin⟩ | ⟨go,step⟩
  ·refine bU (T.done (bL X scope P2.objs.size Nc s2 H2 fp) rfl rfl rfl jf i _ s3 _ H3 BK IP (fY jd yR) yQ stop) fun r s4 ⟨hr,I4⟩=>?_
   subst hr
   obtain ⟨m,hn,_⟩:=id I4.loc
   obtain ⟨oC,es,ep,eC,dC,_⟩:=id hn
   have X7:=(I4.pin (s2.heap.objs.size,_) (List.mem_append_right _ (List.mem_singleton.mpr rfl))).1
   have Ph:=fin _ nD
   refine X6 _ _ oC m _ s4 eC hn ?_ (xu I2 I4 f2 (Nat.le_refl _) Gg Gd X7 rv (Nat.le_of_lt hz) nD eC fun v z=>?_) Ph
   ·refine I2.jD Gg ?_
    rw[aj (Ne.symm Gd)]
    exact I4.free
   ·rw[dC]at z;cases z
  ·refine bU (T.item (bL X scope P2.objs.size Nc s2 H2 fp) rfl rfl rfl jf i _ s3 _ H3 BK IP (fY jd yR) yQ go) fun r s4 ⟨u,hr,h4⟩=>?_
   subst hr
   refine bU h4 fun _ s5 ⟨x,H5,I5,r5,y5,yS,Ec⟩=>?_
   have OO:=I5.pinned (fY jd Ec) (T.obj _ _ yS)
   refine bU (hG _ s2 H2 fp _ s5 _ H5 x u _ OO r5 (step x H5 y5)) fun _ s6 ⟨σ6,H6,I6,wk,q6⟩=>?_
   refine bU (hT _ s2 H2 fp _ s6 σ6 H6 _ I6 q6) fun b s7 ⟨H7,I7,q7⟩=>?_
   have again: ∀{H9:Hp} {s9:Shared} {m':Nat},Inv (bL X scope P2.objs.size Nc s2 H2 fp) ([(s2.heap.objs.size,({ cls:= .type "list",data:= .seq az.toArray nn }:Obj))]++lV fp s5.heap) σ6 H9 s9->
     (s9.heap.get? s2.heap.objs.size=some { cls:= .type "list",data:= .seq az.toArray nn }/\H9 s2.heap.objs.size=none)/\tn (i+1) s9.heap/\(∀b∈fp,H9 b=none)/\Inv (bL X scope P2.objs.size Nc s2 H2 fp) [] (jI σ ix) H9 s9:=fun {H9 s9 m'} I9=>by
    have pD:=I9.pin (s2.heap.objs.size,_) (List.mem_append_right _ (List.mem_append_left _ (List.mem_singleton.mpr rfl)))
    refine ⟨⟨pD.1,pD.2.1⟩,T.keep _ _ _ yS fun b hb o e=>(I9.pin (b,o) (List.mem_append_right _ (List.mem_append_right _ (gH hb e)))).1,fun b hb=>?_,?_⟩
    ·obtain ⟨o,e,d⟩:=T.obj _ _ yS b hb
     exact (I9.pin (b,o) (List.mem_append_right _ (List.mem_append_right _ (gH hb e)))).2.1
    ·exact (I9.weak wk.len fun i v e=>wk.get e).jB fun p hp=>absurd hp (by simp)
   cases b with
   | false=>
    rw[if_neg Bool.false_ne_true]at q7 ⊢
    obtain ⟨m',hm,w7⟩:=q7
    obtain ⟨⟨e7,n7⟩,t7,f7,J7⟩:=again (m':=0) I7
    exact ⟨m',hm,i+1,acc,az,nn,H7,J7,t7,f7,e7,rv,n7,w7⟩
   | true=>
    rw[if_pos rfl]at q7 ⊢
    refine bU (hE _ s2 H2 fp _ s7 σ6 H7 _ I7 q7) fun y s8 ⟨v,H8,I8,r8,m',hm,w8⟩=>?_
    obtain ⟨⟨e8,n8⟩,t8,f8,J8⟩:=again (m':=0) I8
    refine wpAny_list_append_plain (items:=az.toArray) ⟨nn,e8⟩ (fun h9 IA VZ=>?_) (by rw[List.size_toArray, <-rv.length];exact Nat.le_of_lt hz)
    obtain ⟨n9,e9⟩:=IA
    refine ⟨m',hm,i+1,acc++[v],az++[y],n9,H8,J8.turned (t':=s8.toks) (fun b o hb e=>(VZ.2 b hb).trans e) n8 Gd (.inr (Nat.le_refl _)) J5 (fun p hp=>absurd hp (by simp[bL])),?_,f8,?_,rv.append (.cons r8 .nil),n8,w8⟩
    ·exact T.keep _ _ _ t8 fun b hb o e=>(VZ.2 b (Ne.symm (VY b hb))).trans e
    ·simpa using e9
 exact codeAny_compStart_list (loop _ rfl) (T.self _ 0 _ _ _ VX (loop _ rfl))
theorem Cs {X:Cx} {tg iter elt:Expr} {ifs:List Expr} {scope:Scope} {pos:Pos} {wi:TI} {g:TG} {tc:TT} {te:TE} (Nc:List Str) (ix:List (Option Nat)) (hi:PI X tg iter wi) (jf:X.calm=true) (yU:i_ X scope Nc ix)
  (gg: ∀y∈scope.names,y.2≠ .cell) (gX:scope.kind= .function) (qg: ∀y∈scope.names,y.2= .free->X.env.kindOf y.1=some .cell\/X.env.kindOf y.1=some .free)
  (uB: ∀x∈scope.names,x.2= .local->scope.names.lookup x.1=some .local)
  (hG: ∀C s H fp,PG (bL X scope C Nc s H fp) tg g) (hT: ∀C s H fp,PF (bL X scope C Nc s H fp) ifs tc) (hE: ∀C s H fp,PE (bL X scope C Nc s H fp) elt te)
  (hs: ∀x,foldedSetIterable iter X.env x=pure x:=by intro _;rfl):PE X (.ListComp elt [⟨tg,iter,ifs,0⟩] scope pos) (rH wi ix g tc te):=by
 intro pins s σ H Q I h
 rw[eval_ListComp]
 have Iz: ∀y∈scope.names,y.2= .free-> ∃c,X.env.cells.lookup y.1=some c:=fun y hy e=>I.ok.has y.1 (qg y hy e)
 refine wpAny_comprehension_free (use:=none) rfl hs (je Iz) gX uB (oN hi jf yU gg gX qg hG hT hE I h (RR:=fun acc C=>compPost (model X.prog X.w) X.A X.xe none (EP X pins σ Q) acc C) ?_)
 intro D C oC m H' s' eC hn fC I' q
 refine ⟨m,hn,fun h' Pj=>⟨.ref D,H',?_,rfl,q⟩⟩
 exact I'.ik.turned (t':=s'.toks) (fun b o hb e=>(Pj.2 b hb).trans e) fC.1 fC.2.1 fC.2.2.2.1 fC.2.2.2.2.1 fC.2.2.2.2.2
theorem Ct {X:Cx} {i:Nat} {x:Str} {tg iter elt:Expr} {ifs:List Expr} {scope:Scope} {pos zI pos':Pos} {wi:TI} {g:TG} {tc:TT} {te:TE} (Nc:List Str) (ix:List (Option Nat)) (hN:X.N.Nodup) (J6:X.N[i]? =some x) (hx:Loc X.env.scope x)
  (IB:swapsWith (.ListComp elt [⟨tg,iter,ifs,0⟩] scope pos) (some (.Name x pos')) zI.line X.env=pure true) (hi:PI X tg iter wi) (jf:X.calm=true) (yU:i_ X scope Nc ix)
  (gg: ∀y∈scope.names,y.2≠ .cell) (gX:scope.kind= .function) (qg: ∀y∈scope.names,y.2= .free->X.env.kindOf y.1=some .cell\/X.env.kindOf y.1=some .free)
  (uB: ∀x∈scope.names,x.2= .local->scope.names.lookup x.1=some .local)
  (hG: ∀C s H fp,PG (bL X scope C Nc s H fp) tg g) (hT: ∀C s H fp,PF (bL X scope C Nc s H fp) ifs tc) (hE: ∀C s H fp,PE (bL X scope C Nc s H fp) elt te)
  (hs: ∀x,foldedSetIterable iter X.env x=pure x:=by intro _;rfl) (hf:X.fn x=true\/X.env.scope.names.lookup x=some .local:=by first | exact .inl rfl | exact .inr rfl | assumption):
  PS X (.Assign [.Name x pos'] (.ListComp elt [⟨tg,iter,ifs,0⟩] scope pos) zI) (B8 (rH wi ix g tc te) (vN i)):=by
 intro pins s σ H E I h
 have Iz: ∀y∈scope.names,y.2= .free-> ∃c,X.env.cells.lookup y.1=some c:=fun y hy e=>I.ok.has y.1 (qg y hy e)
 rw[exec_Assign_Name_used _ _ _ _ IB]
 refine wpAny_bind (wpAny_standAt (wpAny_bind ?_))
 show wpAny _ X.A (do let _ <-comprehension (.ListComp elt [⟨tg,iter,ifs,0⟩] scope pos) scope X.env _ (newList []) false (eval iter X.env) (some (assign (.Name x pos') X.env))) _ _ s
 refine wpAny_bind (wpAny_mono (wpAny_comprehension_free (use:=some (assign (.Name x pos') X.env)) (Q:=fun _ s'=>SP X pins E .next s') rfl hs (je Iz) gX uB
  (oN hi jf yU gg gX qg hG hT hE I h (RR:=fun acc C=>compPost (model X.prog X.w) X.A X.xe (some (assign (.Name x pos') X.env)) (fun _ s'=>SP X pins E .next s') acc C) ?_)) (fun _ s' hq=>wpAny_pure (wpAny_pure hq)) fun _ _ e=>e)
 intro D C oC m H' s' eC hn fC I' q
 show wpAny _ X.A (assign (.Name x pos') X.env (.ref D)) _ _ _
 refine wpAny_assign_Name (gf I' hN J6 hx (show RelV (.ref D) _ from rfl) (fun JM V0=>?_) hf)
 have pC:=V0.pin (C,oC) (List.mem_append_right _ (List.mem_append_right _ (List.mem_singleton.mpr rfl)))
 refine ⟨m,?_,fun h' Pj=>?_⟩
 ·obtain ⟨o,es,ep,e,r⟩:=hn
  rw[eC]at e;cases e
  exact ⟨oC,es,ep,pC.1,r⟩
 ·refine ⟨_,H',V0.ik.turned (t':=JM.toks) (fun b o hb e=>(Pj.2 b hb).trans e) fC.1 fC.2.1 fC.2.2.2.1 fC.2.2.2.2.1 fC.2.2.2.2.2,q⟩
end L2
namespace L2
open PySem PySem.Spec PyProof.Rows
noncomputable def S (l:List Nat):Str:=⟨l.toArray⟩
theorem fE (l:List Nat):(S l).cps.toList=l:=by simp[S]
theorem da (l:List Nat):(S l).length=l.length:=by simp[S,Str.length]
theorem ir (l:List Nat):(S l).cps.size=l.length:=by simp[S]
theorem J9 {a b:List Nat} (h:S a=S b):a=b:=by
 have:=congrArg (fun x:Str=>x.cps.toList) h
 simpa [S]using this
theorem Pk (x:Str):x=S x.cps.toList:=by cases x;simp[S]
theorem J_ (a b:List Nat):S a++S b=S (a++b):=by
 apply Str.ext'
 apply Array.toList_inj.mp
 simp[S,Str.cps_append]
theorem El {a b:List Nat}:decide (V.str (S a)=V.str (S b))=decide (a=b):=by
 by_cases h:a=b
 ·subst h;simp
 ·rw[decide_eq_false h,decide_eq_false]
  intro q
  exact h (J9 (V.str.inj q))
noncomputable def cut {α:Type} (xs:List α) (lo hi:Option Int):List α:=(xs.drop (HT.jz xs.length 0 lo)).take (HT.jz xs.length xs.length hi - HT.jz xs.length 0 lo)
theorem rJ (n d:Nat) (v:Int):max 0 (min (if v<0 then v+(n:Int) else v) (n:Int))=((HT.jz n d (some v):Nat):Int):=by
 show _=(((if v<0 then (v+(n:Int)).toNat else min v.toNat n):Nat):Int)
 by_cases hv:v<0
 ·simp only[if_pos hv];omega
 ·simp only[if_neg hv];omega
theorem kO (lo hi:Option Int) (n:Nat):Builtin.Str.strSliceIndices lo hi 1 n=(List.range (HT.jz n n hi - HT.jz n 0 lo)).map (HT.jz n 0 lo+ ·):=by
 have h1:(1:Int)>0:=by decide
 rw[<-sliceRange_one]
 unfold Builtin.Str.strSliceIndices
 simp only[h1,if_true]
 congr 1
 ·cases lo with
  | none=>rfl
  | some v=>exact rJ n 0 v
 ·cases hi with
  | none=>rfl
  | some v=>exact rJ n n v
theorem Cu (l:List Nat) (lo hi:Option Int):Txt.slice (S l) lo hi=S (cut l lo hi):=by
 have hx:((Builtin.Str.strSliceIndices lo hi 1 (S l).length).filterMap ((S l).cps[·]?))=cut l lo hi:=by
  rw[da,kO,pick_run,fE]
  rfl
 have hlen:(Builtin.Str.strSliceIndices lo hi 1 (S l).length).length=HT.jz l.length l.length hi - HT.jz l.length 0 lo:=by
  rw[da,kO,List.length_map,List.length_range]
 unfold Txt.slice
 by_cases hc:((1:Int)==1&&(Builtin.Str.strSliceIndices lo hi 1 (S l).length).length==(S l).length)=true
 ·rw[if_pos hc]
  rw[hlen,da]at hc
  have e:HT.jz l.length l.length hi - HT.jz l.length 0 lo=l.length:=by simpa using hc
  have h2:=HT.FL l.length l.length (Nat.le_refl _) hi
  have e0:HT.jz l.length 0 lo=0\/l.length=0:=by omega
  unfold cut
  rw[e]
  rcases e0 with z | z
  ·rw[z];simp
  ·have:l=[]:=List.eq_nil_of_length_eq_zero z
   subst this
   simp
 ·rw[if_neg hc]
  rw[hx]
  rfl
section
variable {X:Cx}
theorem cE {x:Str} {j pos} (l:List Nat) (h:x=S l):PE X (.Constant (.str x) j pos) (tC (.str (S l))):=by
 subst h
 exact Fu
noncomputable def Ka:R2:=fun x y H Q=> ∃a b,x= .str (S a)/\y= .str (S b)/\a.length+b.length<=sizeLine/\Q (.str (S (a++b))) H
theorem cJ:gI X (binaryOp .Add) Ka:=by
 intro pins s σ H x y v u Q I rx ry h
 obtain ⟨a,b,rfl,rfl,hz,q⟩:=h
 exact um pins s σ H _ _ v u Q I rx ry ⟨S a,S b,rfl,rfl,by rw[da,da];exact hz,by rw[J_];exact q⟩
noncomputable def Kb:R2:=fun x y H Q=> ∃l i c,x= .str (S l)/\y= .int i/\l.length<=sizeLine/\oK l i=some c/\Q (.str (S [c])) H
theorem kq:FN X Kb:=by
 intro value slice pins s σ H x y v u Q I rx ry h hs
 obtain ⟨l,i,c,rfl,rfl,hz,he,q⟩:=h
 exact FP value slice pins s σ H _ _ v u Q I rx ry ⟨S l,i,c,rfl,rfl,by rw[da];exact hz,by rw[fE];exact he,q⟩ hs
noncomputable def Pl:V->Option Int->Option Int->Hp->VK->Prop:=fun x lo hi H Q=> ∃l,x= .str (S l)/\l.length<=sizeLine/\Q (.str (S (cut l lo hi))) H
theorem gk:MI X Pl:=by
 intro pins s σ H x v vl vu lo hi sl Q I rx hs pl pu h
 obtain ⟨l,rfl,hz,q⟩:=h
 obtain ⟨t,rfl⟩:=rx
 refine ⟨"str",_,F.slot_str_getitem.lookup,typeIs_str _ _ _,?_⟩
 have key: ∀(a b:Option (Int×Tok)),vl=partValue a->vu=partValue b->a.map (·.1)=lo->b.map (·.1)=hi->wpAny (model X.prog X.w) X.A (getItem (.str (S l) t) (.ref sl)) (EP X pins σ Q) X.xe s:=by
  rintro a b rfl rfl rfl rfl
  obtain ⟨o,e,c,d⟩:=hs
  refine wpAny_getItem_str_slice (l:=a) (u:=b) (st:=none) ⟨o,e,c,d⟩ rfl (post_val_or_str ⟨?_,fun t' k=>?_⟩)
  ·exact Nat.le_trans (Txt.slice_le (S l) _ _) (by rw[da];exact hz)
  ·exact ⟨.str (S (cut l _ _)),H,I.tok _,⟨t',congrArg (fun z=>Value.str z t') (Cu l _ _)⟩,q⟩
 cases pl with
 | none=>
  cases pu with
  | none=>exact key none none rfl rfl rfl rfl
  | int i ti=>exact key none (some (i,ti)) rfl rfl rfl rfl
 | int i ti=>
  cases pu with
  | none=>exact key (some (i,ti)) none rfl rfl rfl rfl
  | int j tj=>exact key (some (i,ti)) (some (j,tj)) rfl rfl rfl rfl
theorem bg:cY X (.builtin "len") (fun xs H Q=> ∃l,xs=[.str (S l)]/\l.length<=sizeLine/\Q (.int l.length) H):=by
 intro pins s σ H xs us Q I r h
 obtain ⟨l,rfl,hz,q⟩:=h
 exact qd pins s σ H _ us Q I r ⟨S l,rfl,by rw[da];exact hz,by rw[da];exact q⟩
noncomputable def bX (l:List Nat):List V:=l.map fun c=>V.str (S [c])
theorem uC {l:List Nat}: ∀{acc:List Value},acc.length=l.length->(∀j v,acc[j]? =some v->SignAt (S l) j v)->Vals (bX l) acc:=by
 induction l with
 | nil=>intro acc h _;have:acc=[]:=List.eq_nil_of_length_eq_zero h;subst this;exact .nil
 | cons c l ih=>
  intro acc h k
  cases acc with
  | nil=>cases h
  | cons a acc=>
   refine .cons ?_ (ih (by simpa using h) fun j v e=>?_)
   ·obtain ⟨c',u,e1,e2⟩:=k 0 a rfl
    have:c=c':=by simpa [S]using e1
    subst this
    exact ⟨u,e2⟩
   ·obtain ⟨c',u,e1,e2⟩:=k (j+1) v (by simpa using e)
    exact ⟨c',u,by simpa [S]using e1,e2⟩
theorem gK (hc:X.calm=true):cY X (.type "list") (fun xs H Q=> ∃l,xs=[.str (S l)]/\l.length<=sizeLine/\ ∀p,H p=none->Q (.ref p) (upd H p (.lst (bX l)))):=by
 intro pins s σ H xs us Q I r h
 obtain ⟨l,rfl,hz,q⟩:=h
 obtain ⟨u,rfl,t,rfl⟩:=vals1 r
 refine call_list_str (I.ok.hd hc) (S l) t (fun h' tk bH c' hk e uA=>?_) (by rw[ir];exact hz)
 obtain ⟨h1,h2⟩:=uA
 rw[ir]at h1
 refine ⟨.ref s.heap.objs.size,_,I.laid (t':=tk) (o:= .lst (bX l)) hk (Nat.le_refl _) ?_,rfl,q _ I.fresh⟩
 exact ⟨by unfold bX;rw[List.length_map];exact hz,bH.toList,c',uC (by simpa using h1) (fun j v e=>h2 j v (by simpa using e)),by simpa using e⟩
noncomputable def Pn:R2:=fun x y H Q=> ∃c l,x= .str (S [c])/\y= .str (S l)/\Q (.bl (decide (c∈l))) H
theorem zJ:gI X (compareOp .In) Pn:=by
 intro pins s σ H x y v u Q I rx ry h
 obtain ⟨c,l,rfl,rfl,q⟩:=h
 refine xg pins s σ H _ _ v u Q I rx ry ⟨S [c],S l,rfl,rfl,?_⟩
 have e:=StrLaws.found_one (S l) c
 rw[fE]at e
 rw[show (S [c])=(⟨#[c]⟩:Str) from rfl,e]
 exact q
end
end L2
namespace L2
open PySem PySem.Spec PyProof.Rows
theorem oP (s sub:Str) (hi:Nat): ∀(l:List Nat) (st:Array Nat×Nat),1<=st.fst.size->(forIn l st (StrLaws.occBody s sub hi 1)).run.fst=st.fst
 | [],st,h=>rfl
 | a::l,st,h=>by
  rw[List.forIn_cons]
  unfold StrLaws.occBody
  rw[if_neg (fun z=>absurd z.1.1.1 (Nat.not_lt.mpr h))]
  exact oP s sub hi l _ h
theorem occ_first (s sub:Str) (hi:Nat): ∀(l:List Nat) (free:Nat),(∀i∈l,free<=i)->
  (forIn l ((#[]:Array Nat),free) (StrLaws.occBody s sub hi 1)).run.fst.toList=(l.find? fun i=>decide (i+sub.length<=hi)&&Builtin.Str.subAt s sub i).toList
 | [],free,_=>rfl
 | a::l,free,hf=>by
  rw[List.forIn_cons,List.find?_cons]
  unfold StrLaws.occBody
  have ha:free<=a:=hf a List.mem_cons_self
  by_cases hc:a+sub.length<=hi/\Builtin.Str.subAt s sub a=true
  ·rw[if_pos ⟨⟨⟨by simp,ha⟩,hc.1⟩,hc.2⟩]
   have:(decide (a+sub.length<=hi)&&Builtin.Str.subAt s sub a)=true:=by simp[hc]
   rw[this]
   show (forIn l (#[].push a,a+sub.length) (StrLaws.occBody s sub hi 1)).run.fst.toList=_
   rw[oP s sub hi l _ (by simp)]
   rfl
  ·rw[if_neg (fun z=>hc ⟨z.1.2,z.2⟩)]
   have:(decide (a+sub.length<=hi)&&Builtin.Str.subAt s sub a)=false:=by
    cases h1:decide (a+sub.length<=hi) with
    | false=>rfl
    | true=>
     cases h2:Builtin.Str.subAt s sub a with
     | false=>rfl
     | true=>exact absurd ⟨of_decide_eq_true h1,h2⟩ hc
   rw[this]
   exact occ_first s sub hi l free fun i MM=>hf i (List.mem_cons_of_mem _ MM)
theorem subAt_one (l:List Nat) (c i:Nat):Builtin.Str.subAt (S l) (S [c]) i=(l[i]? ==some c):=by
 unfold Builtin.Str.subAt
 rw[da]
 show ((S l).cps.extract i (i+1)== #[c])=_
 have e:((S l).cps.extract i (i+1))=((l.drop i).take 1).toArray:=by
  apply Array.toList_inj.mp
  simp[S,List.take_drop]
 rw[e]
 by_cases h:i<l.length
 ·have e2:(l.drop i).take 1=[l[i]]:=by
   rw[List.drop_eq_getElem_cons h];rfl
  rw[e2,List.getElem?_eq_getElem h]
  by_cases hc:l[i]=c
  ·rw[hc];simp
  ·have h1:([l[i]].toArray== #[c])=false:=by
    rw[beq_eq_false_iff_ne]
    intro z
    apply hc
    have:=congrArg Array.toList z
    simpa using this
   have h2:(some l[i]==some c)=false:=by simpa using hc
   rw[h1,h2]
 ·have e2:(l.drop i).take 1=[]:=by rw[List.drop_eq_nil_of_le (by omega)];rfl
  rw[e2,List.getElem?_eq_none (by omega)]
  rfl
theorem mf (l:List Nat) (c:Nat): ∀(k n:Nat),k+n=l.length+1->((List.range' k n).find? fun i=>decide (i+1<=l.length)&&(l[i]? ==some c))=if c∈l.drop k then some (k+(l.drop k).idxOf c) else none
 | k,0,h=>by
  have:l.drop k=[]:=List.drop_eq_nil_of_le (by omega)
  rw[this];simp
 | k,n+1,h=>by
  rw[List.range'_succ,List.find?_cons]
  by_cases hk:k<l.length
  ·have e:l.drop k=l[k]::l.drop (k+1):=List.drop_eq_getElem_cons hk
   rw[List.getElem?_eq_getElem hk,e]
   by_cases hc:l[k]=c
   ·have:(decide (k+1<=l.length)&&(some l[k]==some c))=true:=by simp[hc];omega
    rw[this,if_pos (by simp[hc])]
    simp[hc]
   ·have:(decide (k+1<=l.length)&&(some l[k]==some c))=false:=by simp[hc]
    rw[this,mf l c (k+1) n (by omega)]
    have w4: ¬c=l[k]:=fun z=>hc z.symm
    by_cases hm:c∈l.drop (k+1)
    ·rw[if_pos hm,if_pos (List.mem_cons_of_mem _ hm),List.idxOf_cons]
     have:(l[k]==c)=false:=by simpa using hc
     rw[this]
     show some (k+1+List.idxOf c (List.drop (k+1) l))=some (k+(List.idxOf c (List.drop (k+1) l)+1))
     congr 1
     omega
    ·rw[if_neg hm,if_neg (by intro z;rcases List.mem_cons.mp z with z | z;exact w4 z;exact hm z)]
  ·have:l.drop k=[]:=List.drop_eq_nil_of_le (by omega)
   have e1:(decide (k+1<=l.length)&&(l[k]? ==some c))=false:=by
    rw[decide_eq_false (by omega)];rfl
   have e2:l.drop (k+1)=[]:=List.drop_eq_nil_of_le (by omega)
   rw[e1,mf l c (k+1) n (by omega),this,e2]
   simp
theorem Kc (l:List Nat) (c:Nat):Builtin.Str.occurrences (S l) (S [c]) 0 (S l).length 1=if c∈l then [l.idxOf c] else []:=by
 rw[StrLaws.occ_eq,occ_first _ _ _ _ 0 fun _ _=>Nat.zero_le _]
 have e:(fun i=>decide (i+(S [c]).length<=(S l).length)&&Builtin.Str.subAt (S l) (S [c]) i)=fun i=>decide (i+1<=l.length)&&(l[i]? ==some c):=by
  funext i
  rw[subAt_one,da,da]
  rfl
 rw[e,da,Nat.sub_zero,mf l c 0 (l.length+1) (by omega),List.drop_zero]
 by_cases h:c∈l
 ·rw[if_pos h,if_pos h,Nat.zero_add];rfl
 ·rw[if_neg h,if_neg h];rfl
section
variable {X:Cx}
noncomputable def Cv:V->List V->Hp->VK->Prop:=fun x vs H Q=> ∃l c,x= .str (S l)/\vs=[.str (S [c])]/\c∈l/\Q (.int (l.idxOf c:Nat)) H
theorem oQ:vS X "str.index" Cv:=by
 intro pins s σ H x xs v us Q I rx rv h
 obtain ⟨l,c,rfl,rfl,hc,q⟩:=h
 obtain ⟨t,rfl⟩:=rx
 obtain ⟨u,rfl,t',rfl⟩:=vals1 rv
 exact SC.index (i:=l.idxOf c) (rest:=[]) (by rw[Kc,if_pos hc]) ⟨.int (l.idxOf c:Nat),H,I.tok _,⟨_,rfl⟩,q⟩
noncomputable def Kd (f:Nat->Bool):V->List V->Hp->VK->Prop:=fun x vs H Q=> ∃c,x= .str (S [c])/\vs=[]/\c<128/\Q (.bl (f c)) H
noncomputable def Ke (f:Nat->Nat):V->List V->Hp->VK->Prop:=fun x vs H Q=> ∃c,x= .str (S [c])/\vs=[]/\c<128/\Q (.str (S [f c])) H
noncomputable def cF (c:Nat):Bool:=decide (97<=c)&&decide (c<=122)
theorem Cw: ∀c,c<128->Txt.islower ⟨#[c]⟩=cF c:=by decide+kernel
theorem mh:vS X "str.islower" (Kd cF):=by
 intro pins s σ H x xs v us Q I rx rv h
 obtain ⟨c,rfl,rfl,hc,q⟩:=h
 obtain ⟨t,rfl⟩:=rx
 have e:us=[]:=by cases rv;rfl
 subst e
 exact SC.islower ⟨.bl (cF c),H,I,congrArg Value.bool (Cw c hc),q⟩
theorem upper_one {c:Nat} (hc:c<128):Txt.upper (S [c])=S [up1 c]:=by
 rw[upper_ascii (by intro d hd;rw[fE]at hd;simp at hd;omega)]
 simp[S]
theorem oR {c:Nat} (hc:c<128):Txt.lower (S [c])=S [lo1 c]:=by
 rw[lower_ascii (by intro d hd;rw[fE]at hd;simp at hd;omega)]
 simp[S]
theorem Em (c:Nat):Builtin.Str.tooLong (S [c]).length=false:=by
 rw[da]
 show Builtin.Str.tooLong 1=false
 decide
theorem zK:vS X "str.upper" (Ke up1):=by
 intro pins s σ H x xs v us Q I rx rv h
 obtain ⟨c,rfl,rfl,hc,q⟩:=h
 obtain ⟨t,rfl⟩:=rx
 have e:us=[]:=by cases rv;rfl
 subst e
 exact SC.upper (by rw[upper_one hc];exact Em _) ⟨.str (S [up1 c]),H,I.tok _,⟨_,congrArg (fun z=>Value.str z _) (upper_one hc)⟩,q⟩
theorem jL:vS X "str.lower" (Ke lo1):=by
 intro pins s σ H x xs v us Q I rx rv h
 obtain ⟨c,rfl,rfl,hc,q⟩:=h
 obtain ⟨t,rfl⟩:=rx
 have e:us=[]:=by cases rv;rfl
 subst e
 exact SC.lower (by rw[oR hc];exact Em _) ⟨.str (S [lo1 c]),H,I.tok _,⟨_,congrArg (fun z=>Value.str z _) (oR hc)⟩,q⟩
theorem zL: ∀(ls:List (List Nat)) (a:Array Nat),(ls.map S).foldl (fun acc p=>acc++(S []).cps++p.cps) a=a++ls.flatten.toArray
 | [],a=>by simp
 | l::ls,a=>by
  rw[List.map_cons,List.foldl_cons,zL ls]
  simp[S]
theorem zM (ls:List (List Nat)):Txt.join (S []) (ls.map S)=S ls.flatten:=by
 unfold Txt.join Builtin.Str.glued
 cases ls with
 | nil=>rfl
 | cons l ls=>
  show Str.mk ((List.map S ls).foldl (fun acc p=>acc++(S []).cps++p.cps) (S l).cps)=_
  rw[zL]
  simp[S]
theorem jo: ∀{ls:List (List Nat)} {us:List Value},Vals (ls.map fun l=>V.str (S l)) us->StrsAre us (ls.map S)
 | [],us,r=>by cases r;exact .nil
 | l::ls,us,r=>by
  cases r with
  | cons r1 r2=>
   obtain ⟨t,rfl⟩:=r1
   exact .cons _ t (jo r2)
noncomputable def zN (K:PySem.W.Frag):V->List V->Hp->VK->Prop:=fun x vs H Q=> ∃(p:Addr) (ls:List (List Nat)),x= .str (S [])/\vs=[.ref p]/\aJ K H p (ls.map fun l=>V.str (S l))/\(ls.map List.length).sum<=16777216/\Q (.str (S ls.flatten)) H
theorem zO:vS X "str.join" (zN X.K):=by
 intro pins s σ H x xs v us Q I rx rv h
 obtain ⟨p,ls,rfl,rfl,hq,hz,q⟩:=h
 obtain ⟨t,rfl⟩:=rx
 obtain ⟨u,rfl,ru⟩:=vals1 rv
 cases ru
 obtain ⟨az,r,pl,_⟩:=I.list hq
 have e:(S []).length=0:=rfl
 refine join_list pl.isList (by simpa using jo r) ?_ fun t' k=>?_
 ·rw[e,Nat.mul_zero,Nat.add_zero,List.map_map]
  have e2:(Str.length ∘ S)=List.length:=by funext l;exact da l
  have e3:((fun x:Str=>x.length) ∘ S)=List.length:=by funext l;exact da l
  first | (rw[e2];exact hz) | (rw[e3];exact hz)
 ·exact ⟨.str (S ls.flatten),H,I.tok _,⟨t',congrArg (fun z=>Value.str z t') (zM ls)⟩,q⟩
theorem xw (hc:X.calm=true):cY X (.builtin "all") (fun xs H Q=> ∃(p:Addr) (bs:List Bool),xs=[.ref p]/\aJ X.K H p (bs.map V.bl)/\Q (.bl (bs.all id)) H):=by
 intro pins s σ H xs us Q I r h
 obtain ⟨p,bs,rfl,hq,q⟩:=h
 obtain ⟨u,rfl,ru⟩:=vals1 r
 cases ru
 obtain ⟨az,rv,pl,hz⟩:=I.list hq
 have hlen:az.length=bs.length:=by rw[<-rv.length,List.length_map]
 have hp:p<s.heap.objs.size:=by
  obtain ⟨o,n,e,_⟩:=pl
  exact Heap.lt_size e
 refine call_all_walk (wpAny_pyIter_list pl.isList ?_)
 refine ⟨s.heap.objs.size,_,_,_,_,_,fun i=>(bs[i]?).getD true,rfl,Walks.list (A:=X.A.in1) (I.ok.hd hc) s.heap.objs.size p (Nat.ne_of_lt hp) az.toArray,⟨⟨_,Heap.get?_push_size _ rfl,rfl,rfl⟩,?_⟩,fun i v s' Q' E' hP hQ=>?_,fun h' tk hk=>?_⟩
 ·obtain ⟨o,ho,hr⟩:=pl.isList
  exact ⟨o,Heap.get?_push_of_some _ ho,hr⟩
 ·have MN:az[i]? =some v:=by simpa using hP
  have hi:i<bs.length:=by rw[<-hlen];exact (List.getElem?_eq_some_iff.mp MN).1
  have hb:(bs.map V.bl)[i]? =some (V.bl bs[i]):=by rw[List.getElem?_map,List.getElem?_eq_getElem hi];rfl
  obtain ⟨u,hu,ru⟩:=rv.get hb
  rw[MN]at hu;cases hu
  cases (show v=Value.bool bs[i] from ru)
  have e:(bs[i]?).getD true=bs[i]:=by rw[List.getElem?_eq_getElem hi];rfl
  have V1:Q' ((bs[i]?).getD true) s':=hQ
  rw[e]at V1
  exact wpAny_pure V1
 ·have e:((List.range az.toArray.size).all fun i=>(bs[i]?).getD true)=bs.all id:=by
   rw[List.size_toArray,hlen]
   clear hq rv hlen q
   rw[Bool.eq_iff_iff,List.all_eq_true,List.all_eq_true]
   constructor
   ·intro h b hb
    obtain ⟨i,hi,e⟩:=List.getElem_of_mem hb
    have:=h i (List.mem_range.mpr hi)
    rw[List.getElem?_eq_getElem hi,e]at this
    exact this
   ·intro h i hi
    have MM:=List.mem_range.mp hi
    rw[List.getElem?_eq_getElem MM]
    exact h _ (List.getElem_mem MM)
  have I1:Inv X pins σ H { s with heap:=h',toks:=tk }:=by
   have I0:Inv X pins σ H { s with heap:=s.heap.push { cls:= .type "list_iterator",data:= .fields #[.ref p, .int 0 0] } }:=I.kept (t':=s.toks) fun b o e=>Heap.get?_push_of_some _ e
   have f:=I.jD (H':=H) (b:=s.heap.objs.size) (Nat.le_refl _) I.fresh
   have J:=I0.turned (h':=h') (t':=tk) (it:=s.heap.objs.size) (fun b o hb e=>hk b o (by simpa using hb) e) f.1 f.2.1 f.2.2.2.1 f.2.2.2.2.1 f.2.2.2.2.2
   exact J
  exact ⟨.bl (bs.all id),H,I1,by rw[e];rfl,q⟩
end
end L2
namespace L2.F2
open PySem PySem.Spec PyProof.Rows
theorem oS:Manifest.owners.lookup (String.ofList ['d','e','s','r','e','v','e','r'].reverse)=some Manifest.sig_reversed:=by kernel_rfl
theorem dc:Slot "reversed" "__next__" "reversed.__next__":=
 .of (owner:="reversed") (n:="__next__") (by rw[typeLookup_type,builtinLookup_eq_fast];kernel_rfl) (by decide+kernel) (by decide+kernel) (by decide+kernel)
  (by first | exact .inl (by decide+kernel) | exact .inr (by decide+kernel)) (by rw[isSubtype_type];kernel_rfl)
theorem iu:entryFor table "reversed.__next__"=some Builtin.«reversed.__next__» :=entryFor_of_tree (by kernel_rfl)
theorem gY (a:Value):argsOk "reversed.__next__" ⟨[a],[]⟩:=by
 unfold argsOk;rw[signature?_of (id:="reversed.__next__") (n:=['_','_','t','x','e','n','_','_']) (o:=['d','e','s','r','e','v','e','r']) (by kernel_rfl) oS];kernel_rfl
theorem jg:Slot "reversed" "__iter__" "reversed.__iter__":=
 .of (owner:="reversed") (n:="__iter__") (by rw[typeLookup_type,builtinLookup_eq_fast];kernel_rfl) (by decide+kernel) (by decide+kernel) (by decide+kernel)
  (by first | exact .inl (by decide+kernel) | exact .inr (by decide+kernel)) (by rw[isSubtype_type];kernel_rfl)
theorem lj (a:Value):argsOk "reversed.__iter__" ⟨[a],[]⟩:=by
 unfold argsOk;rw[signature?_of (id:="reversed.__iter__") (n:=['_','_','r','e','t','i','_','_']) (o:=['d','e','s','r','e','v','e','r']) (by kernel_rfl) oS];kernel_rfl
theorem mi:entryFor table "reversed.__iter__"=some Builtin.«dict_keyiterator.__iter__» :=
 entryFor_alias (id':="dict_keyiterator.__iter__") (by kernel_rfl) (by first | rfl | decide+kernel | (unfold String.splitOn;simp+decide [String.splitOnAux])) (by decide+kernel) (by kernel_rfl)
theorem nZ:Slot "reversed" "__init__" "object.__init__":=
 .of (owner:="object") (n:="__init__") (by rw[typeLookup_type,builtinLookup_eq_fast];kernel_rfl) (by decide+kernel) (by decide+kernel) (by decide+kernel)
  (by first | exact .inl (by decide+kernel) | exact .inr (by decide+kernel)) (by rw[isSubtype_type];kernel_rfl)
theorem uD:TypeCalled "reversed" "reversed.__new__" "object.__init__":=
 ⟨by decide+kernel,by decide+kernel,⟨_,_,F.mro_reversed⟩,F.made_reversed,by decide+kernel,by rw[isSubtype_type];kernel_rfl,nZ⟩
theorem uE:typeLookup (.type "str") "__reversed__"=pure none:=by rw[typeLookup_type,builtinLookup_eq_fast];kernel_rfl
end L2.F2
namespace L2
open PySem PySem.Spec PyProof.Rows
theorem mj (x:Str) (t:Tok) (hz:x.length<=sizeLine):Meets (Builtin.«reversed.__new__» ⟨[.type "reversed", .str x t],[]⟩) (fun _ R s=> ∀tk,R (.ok (.ret (.ref s.heap.objs.size))) { s with heap:=s.heap.push { cls:= .type "reversed",data:= .fields #[.str x t,rawInt ((x.length:Int) - 1)] },toks:=tk }):=by
 refine Meets.of_wp fun prog w A R s h=>?_
 unfold Builtin.«reversed.__new__»
 refine wpAny_bind (wpAny_of_eq (newClass_reversed _) ?_)
 try dsimp only
 refine wpAny_bind (wpAny_of_eq (a:=()) (by first | rfl | kernel_rfl) ?_)
 refine wpAny_bind (wpAny_of_eq (a:=()) (by first | rfl | kernel_rfl) ?_)
 try dsimp only
 refine wpAny_bind (wpAny_specialOf (typeIs_str s x t) F2.uE ?_)
 try dsimp only
 refine wpAny_bind (wpAny_of_eq (a:=true) (by first | rfl | kernel_rfl) ?_)
 rw[if_neg (by decide)]
 have hn:=fZ
 refine wpAny_bind (len_str (by omega) ?_)
 refine wpAny_bind (wpAny_of_eq (a:=some (x.length:Int)) (by first | rfl | kernel_rfl) ?_)
 show wpAny _ _ (Builtin.SmallTypes.newRecord (Value.type "reversed") [Value.str x t,rawInt ((x.length:Int) - 1)] >>= _) _ _ _
 refine wpAny_bind ?_
 unfold Builtin.SmallTypes.newRecord
 refine wpAny_newObj_type ?_ (by size_fits)
 exact wpAny_pure ⟨_,rfl,h _⟩
section
variable {prog:Program} {w:World} {A:Around} {E:Value->Shared->Prop} {s:Shared}
theorem mn {x:Str} {t:Tok} {Q:Value->Shared->Prop} (hz:x.length<=sizeLine) (h: ∀tk,Q (.ref s.heap.objs.size) { s with heap:=s.heap.push { cls:= .type "reversed",data:= .fields #[.str x t,rawInt ((x.length:Int) - 1)] },toks:=tk }):
  wpAny (model prog w) A (call (.type "reversed") [.str x t]) Q E s:=
 callType_new F2.uD (by decide+kernel) (F.typeCall_reversed_1 _) (F.newCall_reversed_1 _) (fun obj=>by unfold argsOk;kernel_rfl) F.entry_reversed_new (mj x t hz)
  fun tk=>⟨⟨_,Heap.get?_push_size _ rfl,rfl⟩,h tk⟩
noncomputable def iw (h:Heap) (it:Addr) (x:Str) (t:Tok) (i:Int):Prop:= ∃o,h.get? it=some o/\o.cls= .type "reversed"/\o.data= .fields #[.str x t,rawInt i]
theorem iw.typeIs {it:Addr} {x:Str} {t:Tok} {i:Int} (h:iw s.heap it x t i):s.TypeIs (.ref it) "reversed":=let ⟨o,ho,hc,_⟩:=h;⟨o,ho,hc⟩
theorem mq {it:Addr} {x:Str} {t:Tok} {i:Int} {Q:Value->Shared->Prop} (hit:iw s.heap it x t i) (h:Q (.ref it) s):wpAny (model prog w) A (pyIter (.ref it)) Q E s:=by
 refine wpAny_pyIter_slot hit.typeIs F2.jg (wpAny_call_entry F2.jg hit.typeIs F2.mi ?_ (F2.lj _))
 show wpAny _ _ (ret (.ref it)) _ _ s
 exact wpAny_pure ⟨_,rfl,"reversed",_,hit.typeIs,F2.dc.lookup,h⟩
theorem lq {it:Addr} {x:Str} {t:Tok} {i c:Nat} {Q:Option Value->Shared->Prop} (hit:iw s.heap it x t (i:Int)) (hx:x.cps[i]? =some c) (hz:x.length<=sizeLine)
  (hQ: ∀h' tk u,iw h' it x t ((i:Int) - 1)->Heap.SameBut it s.heap h'->Q (some (.str ⟨#[c]⟩ u)) { s with heap:=h',toks:=tk }):wpAny (model prog w) A (pyNext (.ref it)) Q E s:=by
 obtain ⟨o,ho,hc,hd⟩:=id hit
 have hn:=fZ
 have hi:i<x.length:=(Array.getElem?_eq_some_iff.mp hx).1
 unfold pyNext
 refine wpAny_bind (wpAny_attempt (wpAny_callSpecial?_slot (name:=Str.ofString "__next__") hit.typeIs F2.dc
  (wpAny_call_entry F2.dc hit.typeIs F2.iu ?_ (F2.gY _))))
 unfold Builtin.«reversed.__next__»
 refine wpAny_bind (wpAny_of_eq (a:=(Value.ref it,[])) rfl ?_)
 try dsimp only
 refine wpAny_bind (wpAny_field ho hd (x:= .str x t) rfl ?_)
 refine wpAny_bind (wpAny_field ho hd (x:=rawInt (i:Int)) rfl ?_)
 show wpAny _ _ (if (i:Int)<0 then _ else _) _ _ s
 rw[if_neg (by omega)]
 refine wpAny_bind (wpAny_specialOf (typeIs_str s x t) F.slot_str_getitem.lookup ?_)
 show wpAny _ _ (if (some (Value.builtin _)).isNone=true then _ else _) _ _ s
 rw[if_neg (by decide)]
 refine wpAny_bind (wpAny_mkInt ?_)
 refine wpAny_bind (wpAny_attempt (getItem_str (c:=c) (by
  have e1:decide ((i:Int)< -(2 ^ 63:Int))=false:=decide_eq_false (by omega)
  have e2:decide ((i:Int) ≥ 2 ^ 63)=false:=decide_eq_false (by omega)
  rw[e1,e2,Bool.or_false]) (by rw[seqIndex_of (by omega) (by omega),Int.toNat_natCast];exact hx) ?_))
 show wpAny _ _ (field (Value.ref it) 1 >>= _) _ _ _
 refine wpAny_bind (wpAny_field ho hd (x:=rawInt (i:Int)) rfl ?_)
 show wpAny _ _ (setField (Value.ref it) 1 (rawInt ((i:Int) - 1)) >>= _) _ _ _
 refine wpAny_bind (wpAny_setField ho hd (by simp) ?_)
 refine wpAny_pure ⟨_,rfl,wpAny_pure (hQ _ _ _ ?_ (Heap.SameBut.update ..))⟩
 exact ⟨_,Heap.get?_update_self _ ho (Obj.isFreed_of_fields (Obj.data_mapFields hd _)),(Obj.cls_mapFields ..).trans hc,by
  rw[Obj.data_mapFields hd];simp⟩
theorem mr {it:Addr} {x:Str} {t:Tok} {Q:Option Value->Shared->Prop} (hh:A.handled=none) (hit:iw s.heap it x t (-1))
  (hQ: ∀h',Heap.ExtBut it s.heap h'->Q none { s with heap:=h' }):wpAny (model prog w) A (pyNext (.ref it)) Q E s:=by
 obtain ⟨o,ho,hc,hd⟩:=id hit
 unfold pyNext
 refine wpAny_bind (wpAny_attempt (wpAny_callSpecial?_slot (name:=Str.ofString "__next__") hit.typeIs F2.dc
  (wpAny_call_entry F2.dc hit.typeIs F2.iu ?_ (F2.gY _))))
 unfold Builtin.«reversed.__next__»
 refine wpAny_bind (wpAny_of_eq (a:=(Value.ref it,[])) rfl ?_)
 try dsimp only
 refine wpAny_bind (wpAny_field ho hd (x:= .str x t) rfl ?_)
 refine wpAny_bind (wpAny_field ho hd (x:=rawInt (-1)) rfl ?_)
 show wpAny _ _ (if (-1:Int)<0 then _ else _) _ _ s
 rw[if_pos (by decide)]
 refine wpAny_bind (wpAny_rule ?_)
 refine wpAny_bind ?_
 show wpAny _ _ (setField (Value.ref it) 1 (rawInt (-1)) >>= fun _=>setField (Value.ref it) 0 .none) _ _ _
 refine wpAny_bind (wpAny_setField ho hd (by simp) ?_)
 refine wpAny_setField (Heap.get?_update_self _ ho (Obj.isFreed_of_fields (Obj.data_mapFields hd _))) (Obj.data_mapFields hd _) (by simp) ?_
 first
 | show wpAny _ _ (newExc (.type "StopIteration") [] >>= _) _ _ _
 |(refine wpAny_bind ?_;show wpAny _ _ (newExc (.type "StopIteration") [] >>= _) _ _ _)
 refine wpAny_bind ?_
 simp only[newExc,newTuple]
 refine wpAny_bind (wpAny_newObj_type ?_ (by size_fits))
 refine wpAny_bind (m:=firstArgMember _ _) (wpAny_of_eq (a:=Value.none) (by first | rfl | (simp only[firstArgMember];rfl)) ?_)
 refine wpAny_newObj_type ?_ (by size_fits)
 simp only[raiseNew]
 refine wpAny_bind (wpAny_handled ?_)
 first | rw[show A.in1.handled=none from hh] | rw[hh]
 refine wpAny_bind (wpAny_pure (wpAny_throw ?_))
 refine wpAny_bind (wpAny_isInstance (T:="StopIteration") (b:=true) ⟨_,Heap.get?_push_size _ rfl,rfl⟩ isSubtype_stop ?_)
 refine wpAny_pure (hQ _ fun b ob hb e=>?_)
 refine Heap.get?_push_of_some _ (Heap.get?_push_of_some _ ?_)
 exact (Heap.get?_update_other _ _ (Ne.symm hb)).trans ((Heap.get?_update_other _ _ (Ne.symm hb)).trans e)
end
noncomputable def Cy (xs:List V):It:=⟨fun i _=>i<xs.length,fun i H x H'=>H'=H/\xs[i]? =some x,fun i _=>xs.length<=i⟩
theorem eI {l:List Nat} {i:Nat} {x:V} (h:(bX l)[i]? =some x): ∃c,l[i]? =some c/\x= .str (S [c]):=by
 unfold bX at h
 rw[List.getElem?_map]at h
 cases e:l[i]? with
 | none=>rw[e]at h;cases h
 | some c=>rw[e]at h;cases h;exact ⟨c,rfl,rfl⟩
theorem aT (l:List Nat):(bX l).length=l.length:=by unfold bX;rw[List.length_map]
theorem zP {P:Program} {w:World} {K:PySem.W.Frag} {tg:Expr} (it:Addr) (l:List Nat) (t:Tok):Turn P w K tg (Cy (bX l)) [it] it (fun i h=>h.IsStrIter it (strIterType (S l)) (S l) t i) where
 mem:=by simp
 obj:=fun i h st b hb=>by
  have e:b=it:=by simpa using hb
  subst e
  obtain ⟨o,e,c,d⟩:=st
  exact ⟨o,e,fun v z=>by rw[d]at z;cases z⟩
 keep:=fun i h h' st k=>let ⟨o,e,r⟩:=st;⟨o,k it (by simp) o e,r⟩
 item:=by
  intro X hP hw hK hc i pins s σ H E I hf st hg
  subst hP hw hK
  have uF:i<l.length:=by have:i<(bX l).length:=hg;rwa [aT]at this
  obtain ⟨f0,f1,f2,f3,f4,f5⟩:=hf it (by simp)
  have fin: ∀(v:Value) (h':Heap) (tk:Nat),SignAt (S l) i v->h'.IsStrIter it (strIterType (S l)) (S l) t (i+1)->(∀b o,b∉[it]->s.heap.get? b=some o->h'.get? b=some o)->
    ∃u,some v=some u/\wpAny (model X.prog X.w) X.A (letOwnedTupleGo tg (.ref it) u) (fun _ s2=> ∃x H',Inv X pins σ H' s2/\RelV x u/\(Cy (bX l)).uh i H x H'/\s2.heap.IsStrIter it (strIterType (S l)) (S l) t (i+1)/\ ∀b∈[it],H' b=none) E { s with heap:=h',toks:=tk }:=by
   intro v h' tk hv lC kk
   obtain ⟨c,u,e1,e2⟩:=hv
   subst e2
   have I1:Inv X pins σ H { s with heap:=h',toks:=tk }:=I.turned (fun b o hb e=>kk b o (by simpa using hb) e) f0 f1 f3 f4 f5
   obtain ⟨o,e,cc,d⟩:=id lC
   refine ⟨_,rfl,lU (s:={ s with heap:=h',toks:=tk }) e cc d (by unfold strIterType;split<;>decide) ⟨.str (S [c]),H,I1,⟨u,rfl⟩,⟨rfl,?_⟩,lC,fun b hb=>(hf b hb).1⟩⟩
   unfold bX
   rw[List.getElem?_map]
   have X8:l[i]? =some c:=by simpa [S]using e1
   rw[X8]
   rfl
  have hsz:i<(S l).cps.size:=by rw[ir];exact uF
  by_cases ha:(S l).cps.all (· <128)=true
  ·have et:strIterType (S l)="str_ascii_iterator":=by unfold strIterType;rw[if_pos ha]
   rw[et]at st
   exact (Walks.strAscii (prog:=X.prog) (w:=X.w) (I.ok.hd hc) it (S l) t).item i s _ _ hsz st fun v h' tk hv lC kk=>fin v h' tk hv (by rw[et];exact lC) kk
  ·have et:strIterType (S l)="str_iterator":=by unfold strIterType;rw[if_neg ha]
   rw[et]at st
   exact (Walks.strWide (prog:=X.prog) (w:=X.w) (I.ok.hd hc) it (S l) t).item i s _ _ hsz st fun v h' tk hv lC kk=>fin v h' tk hv (by rw[et];exact lC) kk
 done:=by
  intro X hP hw hK hc i pins s σ H E I hf st hg
  subst hP hw hK
  obtain ⟨f0,f1,f2,f3,f4,f5⟩:=hf it (by simp)
  have uF:l.length<=i:=by have:(bX l).length<=i:=hg;rwa [aT]at this
  have hx:(S l).cps[i]? =none:=by rw[Array.getElem?_eq_none_iff,ir];exact uF
  by_cases ha:(S l).cps.all (· <128)=true
  ·have et:strIterType (S l)="str_ascii_iterator":=by unfold strIterType;rw[if_pos ha]
   rw[et]at st
   exact wpAny_pyNext_ascii_end (I.ok.hd hc) st hx fun h' eb=>⟨rfl,I.turned (t':=s.toks) (fun b o hb e=>eb b o hb e) f0 f1 f3 f4 f5⟩
  ·have et:strIterType (S l)="str_iterator":=by unfold strIterType;rw[if_neg ha]
   rw[et]at st
   exact wpAny_pyNext_wide_end (I.ok.hd hc) st hx fun h' eb=>⟨rfl,I.turned (t':=s.toks) (fun b o hb e=>eb b o hb e) f0 f1 f3 f4 f5⟩
 self:=fun _ _ s _ _ st h=>by
  by_cases ha:(S l).cps.all (· <128)=true
  ·have et:strIterType (S l)="str_ascii_iterator":=by unfold strIterType;rw[if_pos ha]
   rw[et]at st
   exact wpAny_pyIter_striter_ascii st h
  ·have et:strIterType (S l)="str_iterator":=by unfold strIterType;rw[if_neg ha]
   rw[et]at st
   exact wpAny_pyIter_striter_wide st h
theorem zQ {P:Program} {w:World} {K:PySem.W.Frag} {tg:Expr} (it:Addr) (l:List Nat) (t:Tok) (hz:l.length<=sizeLine):Turn P w K tg (Cy (bX l).reverse) [it] it (fun i h=>i<=l.length/\iw h it (S l) t ((l.length:Int) - 1 - (i:Int))) where
 mem:=by simp
 obj:=fun i h st b hb=>by
  have e:b=it:=by simpa using hb
  subst e
  obtain ⟨_,o,e,c,d⟩:=st
  exact ⟨o,e,fun v z=>by rw[d]at z;cases z⟩
 keep:=fun i h h' st k=>let ⟨q,o,e,r⟩:=st;⟨q,o,k it (by simp) o e,r⟩
 item:=by
  intro X hP hw hK hc i pins s σ H E I hf st hg
  subst hP hw hK
  have uF:i<l.length:=by have:i<(bX l).reverse.length:=hg;rwa [List.length_reverse,aT]at this
  obtain ⟨f0,f1,f2,f3,f4,f5⟩:=hf it (by simp)
  obtain ⟨_,st⟩:=st
  have e:(l.length:Int) - 1 - (i:Int)=((l.length - 1 - i:Nat):Int):=by omega
  rw[e]at st
  have cN:l.length - 1 - i<l.length:=by omega
  refine lq (c:=l[l.length - 1 - i]) st (by simp[S,cN]) (by rw[da];exact hz) fun h' tk u lC sb=>?_
  have I1:Inv X pins σ H { s with heap:=h',toks:=tk }:=I.turned (fun b o hb e=>(sb.2 b hb).trans e) f0 f1 f3 f4 f5
  obtain ⟨o,e1,cc,d⟩:=id lC
  refine ⟨_,rfl,lU (s:={ s with heap:=h',toks:=tk }) e1 cc d (by decide) ⟨.str (S [l[l.length - 1 - i]]),H,I1,⟨u,rfl⟩,⟨rfl,?_⟩,⟨uF,?_⟩,fun b hb=>(hf b hb).1⟩⟩
  ·rw[List.getElem?_reverse (by rw[aT];exact uF),aT]
   unfold bX
   rw[List.getElem?_map,List.getElem?_eq_getElem cN]
   rfl
  ·have e2:(l.length:Int) - 1 - ((i+1:Nat):Int)=((l.length - 1 - i:Nat):Int) - 1:=by omega
   rw[e2]
   exact lC
 done:=by
  intro X hP hw hK hc i pins s σ H E I hf st hg
  subst hP hw hK
  obtain ⟨f0,f1,f2,f3,f4,f5⟩:=hf it (by simp)
  have uF:l.length<=i:=by have:(bX l).reverse.length<=i:=hg;rwa [List.length_reverse,aT]at this
  obtain ⟨hi,st⟩:=st
  have e:(l.length:Int) - 1 - (i:Int)= -1:=by omega
  rw[e]at st
  exact mr (I.ok.hd hc) st fun h' eb=>⟨rfl,I.turned (t':=s.toks) (fun b o hb e=>eb b o hb e) f0 f1 f3 f4 f5⟩
 self:=fun _ _ _ _ _ st h=>mq st.2 h
section
variable {X:Cx} {tg:Expr}
noncomputable def Po (tl:TE):TI:=fun σ H R=>tl σ H fun x H1=> ∃l,x= .str (S l)/\R (Cy (bX l)) H1
theorem qh {l:Expr} {tl:TE} (hl:PE X l tl):PI X tg l (Po tl):=by
 intro pins s σ H R I h
 refine bU (hl pins s σ H _ I h) fun v s1 ⟨x,H1,I1,r1,q1⟩=>?_
 obtain ⟨l,rfl,q⟩:=q1
 obtain ⟨t,rfl⟩:=r1
 refine wpAny_pyIter_strU ?_
 refine ⟨s1.heap.objs.size,[s1.heap.objs.size],_,_,H1,rfl,I1.kept (t':=s1.toks) fun b o e=>Heap.get?_push_of_some _ e,zP _ l t,⟨_,Heap.get?_push_size _ rfl,rfl,rfl⟩,fun b hb=>?_,q⟩
 have e:b=s1.heap.objs.size:=by simpa using hb
 subst e
 exact I1.jD (Nat.le_refl _) (I1.bq.fresh (Nat.le_refl _))
noncomputable def Pp (ta:TA):TI:=fun σ H R=>ta σ H fun vs H1=> ∃l,vs=[.str (S l)]/\l.length<=sizeLine/\R (Cy (bX l).reverse) H1
theorem Gh {a:Expr} {ta:TA} {p pos:Pos} (hg:Gl X "reversed") (hm:X.mg "reversed"=none) (ha:PA X [a] ta) (hs:starEach [a] X.env=[(false,eval a X.env)]:=by rfl):PI X tg (.Call (.Name "reversed" p) [a] [] pos) (Pp ta):=by
 intro pins s σ H R I h
 refine Call_ (cM I hg hm boot_reversed (PyProof.Rows.callWith_type1 (bU (ha pos pins s σ H _ I h) fun us s1 ⟨vs,H1,I1,r1,q1⟩=>?_) hs rfl))
 obtain ⟨l,rfl,hz,q⟩:=q1
 obtain ⟨u,rfl,t,rfl⟩:=vals1 r1
 refine mn (by rw[da];exact hz) fun tk=>?_
 have hit:iw (s1.heap.push { cls:= .type "reversed",data:= .fields #[.str (S l) t,rawInt (((S l).length:Int) - 1)] }) s1.heap.objs.size (S l) t (((S l).length:Int) - 1):=⟨_,Heap.get?_push_size _ rfl,rfl,rfl⟩
 refine mq hit ?_
 refine ⟨s1.heap.objs.size,[s1.heap.objs.size],_,_,H1,rfl,I1.kept (t':=tk) fun b o e=>Heap.get?_push_of_some _ e,zQ _ l t hz,⟨Nat.zero_le _,?_⟩,fun b hb=>?_,q⟩
 ·have e:(l.length:Int) - 1 - ((0:Nat):Int)=((S l).length:Int) - 1:=by rw[da];simp
  rw[e]
  exact hit
 ·have e:b=s1.heap.objs.size:=by simpa using hb
  subst e
  exact I1.jD (Nat.le_refl _) (I1.bq.fresh (Nat.le_refl _))
end
theorem vV {xs:List V} {g:TG} {tb:TS} {D:Ends} {σ:St} {H:Hp} (Pv:Nat->St->Hp->Prop) (h0:Pv 0 σ H)
  (hs: ∀i x σ H,xs[i]? =some x->Pv i σ H->g x σ H fun σ2 H2=>tb { D with nx:=Pv (i+1),ct:=Pv (i+1),bk:=D.nx } σ2 H2) (hd: ∀σ H,Pv xs.length σ H->D.nx σ H):
  ∃W:Nat->Nat->St->Hp->Prop,(∃m,W 0 m σ H)/\ ∀i m σ H,W i m σ H->
   ((Cy xs).stop i H/\D.nx σ H)\/((Cy xs).go i H/\ ∃N:St->Hp->Prop,(∀σ' H',N σ' H'-> ∃m',m'<m/\W (i+1) m' σ' H')/\ ∀x H',(Cy xs).uh i H x H'->g x σ H' fun σ2 H2=>tb { D with nx:=N,ct:=N,bk:=D.nx } σ2 H2):=by
 refine ⟨fun i m σ H=>m=xs.length - i/\i<=xs.length/\Pv i σ H,⟨xs.length,by simp,Nat.zero_le _,h0⟩,?_⟩
 rintro i m σ H ⟨rfl,hi,p⟩
 by_cases cN:i<xs.length
 ·refine .inr ⟨cN,Pv (i+1),fun σ' H' p'=>⟨xs.length - (i+1),by omega,rfl,cN,p'⟩,fun x H' y=>?_⟩
  obtain ⟨e,y⟩:=y
  subst e
  exact hs i x σ _ y p
 ·have e:i=xs.length:=by omega
  subst e
  exact .inl ⟨Nat.le_refl _,hd σ H p⟩
theorem lF {J:It} {n:Nat} {xs:Nat->V->Prop} {σc:St} {g:TG} {tc:TT} {te:TE} {Q:VK} {H1:Hp} (Pv:Nat->List V->Hp->Prop) (hn:n<sizeLine) (X9: ∀i acc H,i<n->Pv i acc H->J.go i H) (Kf: ∀acc H,Pv n acc H->J.stop n H)
  (hy: ∀i acc H x H',i<n->Pv i acc H->J.uh i H x H'->H'=H/\xs i x) (h0:Pv 0 [] H1)
  (hs: ∀(i:Nat) (x:V) (acc:List V) (H:Hp) (Nx:List V->Hp->Prop),i<n->xs i x->acc.length<=i->Pv i acc H->(∀bH H',bH.length<=i+1->Pv (i+1) bH H'->Nx bH H')->
   g x σc H fun σ2 H2=>Wk σc σ2/\tc σ2 H2 fun b H3=>if b=true then te σ2 H3 fun v H4=>Nx (acc++[v]) H4 else Nx acc H3)
  (hd: ∀acc H D,acc.length<=n->Pv n acc H->H D=none->Q (.ref D) (upd H D (.lst acc))):jK J σc g tc te Q H1:=by
 refine ⟨fun i m acc H=>m=n - i/\i<=n/\acc.length<=i/\Pv i acc H,⟨n,by simp,Nat.zero_le _,Nat.le_refl _,h0⟩,?_⟩
 rintro i m acc H ⟨rfl,hi,hl,p⟩
 refine ⟨by omega,?_⟩
 by_cases cN:i<n
 ·refine .inr ⟨X9 i acc H cN p,fun x H' y=>?_⟩
  obtain ⟨rfl,y2⟩:=hy i acc H x H' cN p y
  exact hs i x acc _ (fun bH H'=> ∃m',m'<n - i/\(m'=n - (i+1)/\i+1<=n/\bH.length<=i+1/\Pv (i+1) bH H')) cN y2 hl p fun bH H' h1 h2=>⟨n - (i+1),by omega,rfl,cN,h1,h2⟩
 ·have e:i=n:=by omega
  subst e
  exact .inl ⟨Kf acc H p,fun D hD=>hd acc H D hl p hD⟩
theorem mv {xs:List V} {σc:St} {g:TG} {tc:TT} {te:TE} {Q:VK} {H1:Hp} (Pv:Nat->List V->Hp->Prop) (hn:xs.length<sizeLine) (h0:Pv 0 [] H1)
  (hs: ∀(i:Nat) (x:V) (acc:List V) (H:Hp) (Nx:List V->Hp->Prop),i<xs.length->xs[i]? =some x->acc.length<=i->Pv i acc H->(∀bH H',bH.length<=i+1->Pv (i+1) bH H'->Nx bH H')->
   g x σc H fun σ2 H2=>Wk σc σ2/\tc σ2 H2 fun b H3=>if b=true then te σ2 H3 fun v H4=>Nx (acc++[v]) H4 else Nx acc H3)
  (hd: ∀acc H D,acc.length<=xs.length->Pv xs.length acc H->H D=none->Q (.ref D) (upd H D (.lst acc))):jK (Cy xs) σc g tc te Q H1:=
 lF (xs:=fun i x=>xs[i]? =some x) Pv hn (fun i _ _ h _=>h) (fun _ _ _=>Nat.le_refl _) (fun i _ H x H' _ _ y=>y) h0 hs hd
theorem rK {lo:Int} {n:Nat} {σc:St} {g:TG} {tc:TT} {te:TE} {Q:VK} {H1:Hp} (Pv:Nat->List V->Hp->Prop) (hn:n<sizeLine) (h0:Pv 0 [] H1)
  (hs: ∀(i:Nat) (acc:List V) (H:Hp) (Nx:List V->Hp->Prop),i<n->acc.length<=i->Pv i acc H->(∀bH H',bH.length<=i+1->Pv (i+1) bH H'->Nx bH H')->
   g (.int (lo+i)) σc H fun σ2 H2=>Wk σc σ2/\tc σ2 H2 fun b H3=>if b=true then te σ2 H3 fun v H4=>Nx (acc++[v]) H4 else Nx acc H3)
  (hd: ∀acc H D,acc.length<=n->Pv n acc H->H D=none->Q (.ref D) (upd H D (.lst acc))):jK (Ea lo n) σc g tc te Q H1:=
 lF (xs:=fun i x=>x= .int (lo+i)) Pv hn (fun i _ _ h _=>h) (fun _ _ _=>Nat.le_refl _) (fun i _ H x H' _ _ y=>y) h0 (fun i x acc H Nx h1 h2=>by subst h2;exact hs i acc H Nx h1) hd
theorem fk {K:PySem.W.Frag} {a:Addr} {xs:List V} {σc:St} {g:TG} {tc:TT} {te:TE} {Q:VK} {H1:Hp} (Pv:Nat->List V->Hp->Prop) (hn:xs.length<sizeLine) (hl: ∀i acc H,Pv i acc H->aJ K H a xs) (h0:Pv 0 [] H1)
  (hs: ∀(i:Nat) (x:V) (acc:List V) (H:Hp) (Nx:List V->Hp->Prop),i<xs.length->xs[i]? =some x->acc.length<=i->Pv i acc H->(∀bH H',bH.length<=i+1->Pv (i+1) bH H'->Nx bH H')->
   g x σc H fun σ2 H2=>Wk σc σ2/\tc σ2 H2 fun b H3=>if b=true then te σ2 H3 fun v H4=>Nx (acc++[v]) H4 else Nx acc H3)
  (hd: ∀acc H D,acc.length<=xs.length->Pv xs.length acc H->H D=none->Q (.ref D) (upd H D (.lst acc))):jK (Ir K a) σc g tc te Q H1:=
 lF (xs:=fun i x=>xs[i]? =some x) Pv hn (fun i acc H h p=>⟨xs,xs[i],hl i acc H p,by simp[h]⟩) (fun acc H p=>⟨xs,hl _ acc H p,Nat.le_refl _⟩) (fun i acc H x H' h p y=>⟨y.1,y.2 xs (hl i acc H p)⟩) h0 hs hd
noncomputable def Cz (c:TT) (tb:TS):TS:=fun D σ H=> ∃W:Nat->St->Hp->Prop,(∃m,W m σ H)/\ ∀m σ H,W m σ H->
 c σ H fun b H1=>if b=true then tb { D with nx:=fun σ' H'=> ∃m',m'<m/\W m' σ' H',ct:=fun σ' H'=> ∃m',m'<m/\W m' σ' H',bk:=D.nx } σ H1 else D.nx σ H1
theorem fm {X:Cx} {c:Expr} {body:List Stmt} {tc:TT} {tb:TS} {pos:Pos} (hp:PassesOwn (model X.prog X.w) X.A X.env X.xe) (hc:PT X c tc) (hb:w5 X body tb):PS X (.While c body [] pos) (Cz tc tb):=by
 intro pins s σ H D I h
 obtain ⟨W,⟨m0,w0⟩,turn⟩:=h
 refine wpAny_While (codeAny_whileLoop (fun n s'=> ∃σ' H',Inv X pins σ' H' s'/\W n σ' H') ?_ m0 ⟨σ,H,I,w0⟩)
 rintro n s1 ⟨σ1,H1,I1,w1⟩
 refine wpAny_passesOwn hp (bU (hc pins s1 σ1 H1 _ I1 (turn n σ1 H1 w1)) fun b s2 ⟨H2,I2,q2⟩=>?_)
 cases b with
 | true=>
  rw[if_pos rfl]at q2 ⊢
  refine wpAny_passesOwn hp (bU (hb pins s2 σ1 H2 _ I2 q2) fun f s3 q3=>?_)
  cases f with
  | next=>
   obtain ⟨σ3,H3,I3,m',hm,w3⟩:=q3
   exact ⟨m',hm,σ3,H3,I3,w3⟩
  | cont=>
   obtain ⟨σ3,H3,I3,m',hm,w3⟩:=q3
   exact ⟨m',hm,σ3,H3,I3,w3⟩
  | brk=>exact q3
  | ret v=>exact q3
 | false=>
  rw[if_neg Bool.false_ne_true]at q2 ⊢
  exact wpAny_execs_nil ⟨σ1,H2,I2,q2⟩
noncomputable def qj (X:Cx) (scope:Scope):Bool:=(scope.names.all fun y=>y.2 != .cell)&&(scope.kind== .function)&&(scope.names.all fun y=>y.2 != .free||X.env.kindOf y.1==some .cell||X.env.kindOf y.1==some .free)&&(scope.names.all fun y=>y.2 != .local||scope.names.lookup y.1==some .local)
theorem jM {X:Cx} {scope:Scope} (h:qj X scope=true):(∀y∈scope.names,y.2≠ .cell)/\scope.kind= .function/\(∀y∈scope.names,y.2= .free->X.env.kindOf y.1=some .cell\/X.env.kindOf y.1=some .free)/\(∀x∈scope.names,x.2= .local->scope.names.lookup x.1=some .local):=by
 unfold qj at h
 simp only[Bool.and_eq_true]at h
 obtain ⟨⟨⟨h1,h2⟩,h3⟩,h4⟩:=h
 refine ⟨fun y hy e=>?_,by simpa using h2,fun y hy e=>?_,fun y hy e=>?_⟩
 ·have:=List.all_eq_true.mp h1 y hy
  rw[e]at this;simp at this
 ·have:=List.all_eq_true.mp h3 y hy
  rw[e]at this
  simpa using this
 ·have:=List.all_eq_true.mp h4 y hy
  rw[e]at this
  simpa using this
theorem cg {X:Cx} {tg iter elt:Expr} {ifs:List Expr} {scope:Scope} {pos:Pos} {wi:TI} {g:TG} {tc:TT} {te:TE} (Nc:List Str) (ix:List (Option Nat)) (hi:PI X tg iter wi) (yU:i_ X scope Nc ix)
  (hG: ∀C s H fp,PG (bL X scope C Nc s H fp) tg g) (hT: ∀C s H fp,PF (bL X scope C Nc s H fp) ifs tc) (hE: ∀C s H fp,PE (bL X scope C Nc s H fp) elt te) (bq:qj X scope=true:=by rfl) (jf:X.calm=true:=by rfl)
  (hs: ∀x,foldedSetIterable iter X.env x=pure x:=by intro _;rfl):PE X (.ListComp elt [⟨tg,iter,ifs,0⟩] scope pos) (rH wi ix g tc te):=
 let ⟨h1,h2,h3,h4⟩:=jM bq
 Cs Nc ix hi jf yU h1 h2 h3 h4 hG hT hE hs
theorem rL {X:Cx} {i:Nat} {x:Str} {tg iter elt:Expr} {ifs:List Expr} {scope:Scope} {pos zI pos':Pos} {wi:TI} {g:TG} {tc:TT} {te:TE} (Nc:List Str) (ix:List (Option Nat)) (hN:X.N.Nodup) (J6:X.N[i]? =some x) (hx:Loc X.env.scope x)
  (hi:PI X tg iter wi) (yU:i_ X scope Nc ix)
  (hG: ∀C s H fp,PG (bL X scope C Nc s H fp) tg g) (hT: ∀C s H fp,PF (bL X scope C Nc s H fp) ifs tc) (hE: ∀C s H fp,PE (bL X scope C Nc s H fp) elt te)
  (IB:swapsWith (.ListComp elt [⟨tg,iter,ifs,0⟩] scope pos) (some (.Name x pos')) zI.line X.env=pure true:=by rfl) (bq:qj X scope=true:=by rfl) (jf:X.calm=true:=by rfl)
  (hs: ∀x,foldedSetIterable iter X.env x=pure x:=by intro _;rfl) (hf:X.fn x=true\/X.env.scope.names.lookup x=some .local:=by first | exact .inl rfl | exact .inr rfl | assumption):
  PS X (.Assign [.Name x pos'] (.ListComp elt [⟨tg,iter,ifs,0⟩] scope pos) zI) (B8 (rH wi ix g tc te) (vN i)):=
 let ⟨h1,h2,h3,h4⟩:=jM bq
 Ct Nc ix hN J6 hx IB hi jf yU h1 h2 h3 h4 hG hT hE hs hf
section
variable {X:Cx}
noncomputable def Pu:R2:=fun x y H Q=> ∃a b,x= .str (S a)/\y= .str (S b)/\Q (.bl (decide (a=b))) H
noncomputable def Pw:R2:=fun x y H Q=> ∃a b,x= .str (S a)/\y= .str (S b)/\Q (.bl (!decide (a=b))) H
theorem dY:gI X (compareOp .Eq) Pu:=by
 intro pins s σ H x y v u Q I rx ry h
 obtain ⟨a,b,rfl,rfl,q⟩:=h
 exact Ee pins s σ H _ _ v u Q I rx ry ⟨rfl,by rw[El];exact q⟩
theorem uG:gI X (compareOp .NotEq) Pw:=by
 intro pins s σ H x y v u Q I rx ry h
 obtain ⟨a,b,rfl,rfl,q⟩:=h
 exact Ef pins s σ H _ _ v u Q I rx ry ⟨rfl,by rw[El];exact q⟩
theorem En {i j:Int}:decide (V.int i=V.int j)=decide (i=j):=by
 by_cases h:i=j
 ·subst h;simp
 ·rw[decide_eq_false h,decide_eq_false]
  intro q
  exact h (V.int.inj q)
theorem qk:gI X (compareOp .Eq) (BI fun i j=> .bl (decide (i=j))):=by
 intro pins s σ H x y v u Q I rx ry h
 obtain ⟨a,b,rfl,rfl,q⟩:=h
 exact Ee pins s σ H _ _ v u Q I rx ry ⟨rfl,by rw[En];exact q⟩
theorem Gi:gI X (compareOp .NotEq) (BI fun i j=> .bl (!decide (i=j))):=by
 intro pins s σ H x y v u Q I rx ry h
 obtain ⟨a,b,rfl,rfl,q⟩:=h
 exact Ef pins s σ H _ _ v u Q I rx ry ⟨rfl,by rw[En];exact q⟩
noncomputable def Px (f:List Nat->List Nat->Bool):R2:=fun x y H Q=> ∃a b,x= .str (S a)/\y= .str (S b)/\Q (.bl (f a b)) H
theorem Gj:gI X (compareOp .Lt) (Px fun a b=>decide (a<b)):=by
 intro pins s σ H x y v u Q I rx ry h
 obtain ⟨a,b,rfl,rfl,q⟩:=h
 exact xf pins s σ H _ _ v u Q I rx ry ⟨S a,S b,rfl,rfl,by rw[fE,fE];exact q⟩
end
end L2
namespace L2
open PySem PySem.Spec PyProof.Rows
section
variable {X:Cx} {tg:Expr}
theorem aP (K:PySem.W.Frag) (h:X.K=K):FN X (JQ K):=by subst h;exact Cj
theorem aw (K:PySem.W.Frag) (h:X.K=K):FN X (JR K):=by subst h;exact FO
noncomputable def Kg (K:PySem.W.Frag):List V->Hp->VK->Prop:=fun xs H Q=> ∃p ys,xs=[.ref p]/\(aJ K H p ys\/aY K H p ys)/\Q (.int ys.length) H
theorem aG (K:PySem.W.Frag) (h:X.K=K):cY X (.builtin "len") (Kg K):=by subst h;exact p_
theorem jN (K:PySem.W.Frag) (h:X.K=K):vS X "str.join" (zN K):=by subst h;exact zO
noncomputable def Kh (K:PySem.W.Frag):List V->Hp->VK->Prop:=fun xs H Q=> ∃(p:Addr) (bs:List Bool),xs=[.ref p]/\aJ K H p (bs.map V.bl)/\Q (.bl (bs.all id)) H
theorem oT (K:PySem.W.Frag) (h:X.K=K) (hc:X.calm=true):cY X (.builtin "all") (Kh K):=by subst h;exact xw hc
noncomputable def vW (K:PySem.W.Frag):List V->Hp->VK->Prop:=fun xs H Q=> ∃p ys,xs=[.ref p]/\(aJ K H p ys\/aY K H p ys)/\ ∀l,H l=none->Q (.ref l) (upd H l (.lst ys))
theorem eJ (K:PySem.W.Frag) (h:X.K=K):cY X (.type "list") (vW K):=by subst h;exact qe
theorem rM (K:PySem.W.Frag) (h:X.K=K):MI X (JT K):=by subst h;exact Ck
theorem cO (K:PySem.W.Frag) (h:X.K=K) {l:Expr} {tl:TE} (hl:PE X l tl):PI X tg l (Eb K tl):=by subst h;exact B_ hl
theorem ql (K:PySem.W.Frag) (h:X.K=K) {l:Expr} {tl:TE} (hl:PE X l tl):PI X tg l (JE K tl):=by subst h;exact FA hl
end
section
variable {X:Cx} {o e:Expr} {es:List Expr} {to:TE} {t:TA} {name:Str} {apos dS:Pos} {T id:String} {r:V->List V->Hp->VK->Prop}
theorem fR (K:PySem.W.Frag) (hK:X.K=K) (pa:PlainAttrs T) (slot:Slot T name id) (BJ:typeOf (.builtin id)=pure (.type "method_descriptor")) (hm:vS X id r) (ho:PE X o to)
  (lY:attributeBase o name X.env (eval o X.env)=eval o X.env:=by rfl) (lZ:(apos.endLine==dS.line)=true:=by rfl):PE X (.Call (.Attribute o name apos) [] [] dS) (JU K T r to):=by
 subst hK
 exact FT pa slot BJ hm ho lY lZ
theorem aS (K:PySem.W.Frag) (hK:X.K=K) (pa:PlainAttrs T) (slot:Slot T name id) (BJ:typeOf (.builtin id)=pure (.type "method_descriptor")) (hm:vS X id r) (ho:PE X o to) (ha:PA X (e::es) t)
  (lY:attributeBase o name X.env (eval o X.env)=eval o X.env:=by rfl)
  (Cm:((backTo dS (starEach (e::es) X.env)).all (fun x=>!x.1)&&(backToKw dS (keywordEach [] X.env)).all (fun x=>x.1.isSome)
   &&decide ((e::es).length+([]:List Keyword).length+(if ([]:List Keyword).isEmpty then 0 else 1)<30))=true:=by rfl)
  (lZ:(apos.endLine==dS.line)=true:=by rfl) (hs:starEach (e::es) X.env=(false,eval e X.env)::starEach es X.env:=by rfl) (uu:(backTo dS (starEach es X.env)).any (·.1)=false:=by rfl):
  PE X (.Call (.Attribute o name apos) (e::es) [] dS) (VJ K T r to t):=by
 subst hK
 exact JV pa slot BJ hm ho ha lY Cm lZ hs uu
end
end L2
namespace L2
open PySem PySem.Spec PyProof.Rows
mutual
inductive mx (K:PySem.W.Frag) (H:Hp):V->PyData->Prop
 | cy:mx K H .cy .none
 | bl (b:Bool):mx K H (.bl b) (.bool b)
 | int (i:Int):mx K H (.int i) (.int i)
 | str (x:Str):mx K H (.str x) (.str x)
 | lst {a:Addr} {xs:List V} {ds:List PyData} (h:aJ K H a xs) (r:f_ K H xs ds):mx K H (.ref a) (.list ds)
 | tup {a:Addr} {xs:List V} {ds:List PyData} (h:aY K H a xs) (r:f_ K H xs ds):mx K H (.ref a) (.tuple ds)
inductive f_ (K:PySem.W.Frag) (H:Hp):List V->List PyData->Prop
 | nil:f_ K H [] []
 | cons {x:V} {xs:List V} {d:PyData} {ds:List PyData} (h:mx K H x d) (r:f_ K H xs ds):f_ K H (x::xs) (d::ds)
end
section
variable {X:Cx} {pins:List (Addr×Obj)} {σ:St} {H:Hp} {s:Shared}
mutual
theorem mx.reads (I:Inv X pins σ H s): ∀{x:V} {d:PyData} {u:Value},mx X.K H x d->RelV x u-> ∃as,Reads s.heap u d as
 | _,_,u, .cy,r=>by cases (show u=Value.none from r);exact ⟨_, .none⟩
 | _,_,u, .bl b,r=>by cases (show u=Value.bool b from r);exact ⟨_, .bool b⟩
 | _,_,u, .int i,r=>by obtain ⟨t,rfl⟩:=r;exact ⟨_, .int i t⟩
 | _,_,u, .str x,r=>by obtain ⟨t,rfl⟩:=r;exact ⟨_, .str x t⟩
 | _,_,u, .lst (a:=a) h q,r=>by
  cases (show u=Value.ref a from r)
  obtain ⟨az,rv,pl,_⟩:=I.list h
  obtain ⟨as,ra⟩:=f_.reads I q rv
  obtain ⟨o,ho,hc,n,hd⟩:=pl.isList
  exact ⟨_, .list ho hc hd (by simpa using ra)⟩
 | _,_,u, .tup (a:=a) h q,r=>by
  cases (show u=Value.ref a from r)
  obtain ⟨az,rv,pl,_⟩:=I.tuple h
  obtain ⟨as,ra⟩:=f_.reads I q rv
  obtain ⟨o,ho,hc,n,hd⟩:=pl
  exact ⟨_, .tuple ho hc hd (by simpa using ra)⟩
theorem f_.reads (I:Inv X pins σ H s): ∀{xs:List V} {ds:List PyData} {us:List Value},f_ X.K H xs ds->Vals xs us-> ∃as,ReadsAll s.heap us ds as
 | _,_,us, .nil,r=>by cases r;exact ⟨_, .nil⟩
 | _,_,us, .cons h q,r=>by
  cases r with
  | cons r1 r2=>
   obtain ⟨as,ra⟩:=mx.reads I h r1
   obtain ⟨bs,rb⟩:=f_.reads I q r2
   exact ⟨_, .cons ra rb⟩
end
mutual
theorem mx.noDict {K:PySem.W.Frag}: ∀{x:V} {d:PyData},mx K H x d->d.hasDict=false
 | _,_, .cy=>rfl
 | _,_, .bl b=>rfl
 | _,_, .int i=>rfl
 | _,_, .str x=>rfl
 | _,_, .lst h q=>by show PyData.hasDictAll _=false;exact f_.noDict q
 | _,_, .tup h q=>by show PyData.hasDictAll _=false;exact f_.noDict q
theorem f_.noDict {K:PySem.W.Frag}: ∀{xs:List V} {ds:List PyData},f_ K H xs ds->PyData.hasDictAll ds=false
 | _,_, .nil=>rfl
 | _,_, .cons h q=>by
  show (PyData.hasDict _||PyData.hasDictAll _)=false
  rw[mx.noDict h,f_.noDict q];rfl
end
end
section
variable {X:Cx}
noncomputable def Py (K:PySem.W.Frag):R2:=fun x y H Q=> ∃dx dy,mx K H x dx/\mx K H y dy/\(dx.canLay0=true/\dy.canLay0=true)/\dx.depth<=60/\Q (.bl (PyData.eqv dx dy)) H
noncomputable def Pz (K:PySem.W.Frag):R2:=fun x y H Q=> ∃dx dy,mx K H x dx/\mx K H y dy/\(dx.canLay0=true/\dy.canLay0=true)/\dx.depth<=60/\Q (.bl (!PyData.eqv dx dy)) H
theorem Gk {k:Nat} (K:PySem.W.Frag) (h:X.K=K) (hr:fP k X.A):gI X (compareOp .Eq) (Py K):=by
 subst h
 intro pins s σ H x y v u Q I rx ry h
 obtain ⟨dx,dy,h1,h2,⟨h3,h4⟩,h5,q⟩:=h
 obtain ⟨as,ra⟩:=h1.reads I rx
 obtain ⟨bs,rb⟩:=h2.reads I ry
 have hu:=hr.units
 exact SeqAt.compareEq_reads ra rb h3 h4 (by omega) ⟨.bl _,H,I,rfl,q⟩
theorem uH {k:Nat} (K:PySem.W.Frag) (h:X.K=K) (hr:fP k X.A):gI X (compareOp .NotEq) (Pz K):=by
 subst h
 intro pins s σ H x y v u Q I rx ry h
 obtain ⟨dx,dy,h1,h2,⟨h3,h4⟩,h5,q⟩:=h
 obtain ⟨as,ra⟩:=h1.reads I rx
 obtain ⟨bs,rb⟩:=h2.reads I ry
 have hu:=hr.units
 exact SeqAt.compareNe_reads ra rb h3 h4 (by omega) ⟨.bl _,H,I,rfl,q⟩
noncomputable def Ki (K:PySem.W.Frag) (ta:TE):TT:=fun σ H Q=>ta σ H fun x H'=> ∃p xs,x= .ref p/\aJ K H' p xs/\Q (!xs.isEmpty) H'
theorem CA {a:Expr} {ta:TE} (K:PySem.W.Frag) (h:X.K=K) (ha:PE X a ta) (he: ∀whole,isTrue a X.env whole=(do let v <-whole;standAt a.pos;holding [v] (truthy v)):=by intro _;rfl):PT X a (Ki K ta):=by
 subst h
 intro pins s σ H Q I hw
 refine isTrue_plain (bU (ha pins s σ H _ I hw) fun v s1 ⟨x,H1,I1,r1,q1⟩=>?_) (he _)
 obtain ⟨p,xs,rfl,hq,q⟩:=q1
 exact FH pins s1 σ H1 _ v Q I1 r1 ⟨_, .inl ⟨xs,hq,rfl⟩,q⟩
theorem cS (K:PySem.W.Frag) (h:X.K=K) {es:List Expr} {k:Nat} {t:BH} {n:Nat} {pos:Pos} (hc:X.calm=true) (hs:Ip X es t)
  (hn:(assignEach es X.env).length=n:=by rfl) (JD:(assignEach es X.env).findIdx? (·.1)=none:=by rfl):PG X (.Tuple es k pos) (JC K n t):=by
 subst h
 exact Fy hc hs hn JD
end
end L2
namespace L2
open PySem PySem.Spec PyProof.Rows
noncomputable def cG (a b:List Nat):List Nat:=if b<a then b else a
noncomputable def cj:List Nat->List (List Nat)->List Nat
 | a,[]=>a
 | a,b::r=>cj (cG a b) r
section
variable {X:Cx}
end
end L2
namespace L2
open PySem PySem.Spec PyProof.Rows
section
variable {X:Cx}
theorem qm (K:PySem.W.Frag) (h:X.K=K):gI X (compareOp .In) (MJ K false):=by subst h;exact xo
theorem vX (K:PySem.W.Frag) (h:X.K=K):gI X (compareOp .NotIn) (MJ K true):=by subst h;exact p9
structure yV (k n:Nat) (d:PyData):Prop where
 lv:d.leavesShort 13=true
 sh:d.showable=true
 ly:d.canLay0=true
 dp:d.depth<=k
 wt:d.weight<=n
structure n_ (k n:Nat) (ds:List PyData):Prop where
 lv:PyData.leavesShortAll 13 ds=true
 sh:PyData.showableAll ds=true
 ly:PyData.canLayAll0 ds=true
 dp:PyData.depthAll ds<=k
 wt:PyData.weightAll ds<=n
theorem yV.str {k n:Nat} {l:List Nat} (h: ∀c∈l,c<128) (hn:l.length<=n):yV k n (.str (S l)):=by
 refine ⟨?_,rfl,?_,Nat.zero_le _,by show (S l).cps.size<=n;rw[ir];exact hn⟩
 ·show ((S l).cps.toList.all fun c=>decide (c<16 ^ 8))=true
  rw[fE,List.all_eq_true]
  intro c hc
  have:=h c hc
  exact decide_eq_true (by omega)
 ·show PyData.strOk (S l)=true
  unfold PyData.strOk
  rw[Array.all_eq_true_iff_forall_mem]
  intro c hc
  have:c∈l:=by simpa [S]using hc
  have:=h c this
  simp;omega
theorem yV.int {k n:Nat} {i:Int} (h:i.natAbs<10 ^ 12) (hn:40<=n):yV k n (.int i):=by
 have hl:i.natAbs.log2<40:=by
  by_cases z:i.natAbs=0
  ·rw[z];decide
  ·rw[Nat.log2_lt z]
   exact Nat.lt_trans h (by decide)
 refine ⟨?_,?_,rfl,Nat.zero_le _,?_⟩
 ·show decide ((PyData.shown (.int i)).length<=13)=true
  exact decide_eq_true (PyData.shown_int_le h)
 ·show decide (i.natAbs.log2<1920)=true
  exact decide_eq_true (by omega)
 ·show (if i==0 then 0 else i.natAbs.log2+1)<=n
  split<;>omega
theorem n_.nil {k n:Nat}:n_ k n []:=⟨rfl,rfl,rfl,Nat.zero_le _,Nat.zero_le _⟩
theorem n_.cons {k a b n:Nat} {x:PyData} {xs:List PyData} (h:yV k a x) (t:n_ k b xs) (hn:a+1+b<=n):n_ k n (x::xs):=by
 refine ⟨?_,?_,?_,?_,?_⟩
 ·show (PyData.leavesShort 13 x&&PyData.leavesShortAll 13 xs)=true;rw[h.lv,t.lv];rfl
 ·show (PyData.showable x&&PyData.showableAll xs)=true;rw[h.sh,t.sh];rfl
 ·show (PyData.canLay0 x&&PyData.canLayAll0 xs)=true;rw[h.ly,t.ly];rfl
 ·show max (PyData.depth x) (PyData.depthAll xs)<=k;exact Nat.max_le.mpr ⟨h.dp,t.dp⟩
 ·show PyData.weight x+1+PyData.weightAll xs<=n
  have:=h.wt;have:=t.wt;omega
theorem n_.all {k a:Nat}: ∀{xs:List PyData} {n:Nat},(∀x∈xs,yV k a x)->(a+1)*xs.length<=n->n_ k n xs
 | [],_,_,_=> .nil
 | x::xs,n,h,hn=> .cons (b:=(a+1)*xs.length) (h x List.mem_cons_self) (n_.all (fun y hy=>h y (List.mem_cons_of_mem _ hy)) (Nat.le_refl _)) (by rw[List.length_cons,Nat.mul_succ]at hn;omega)
theorem yV.tup {k n:Nat} {ds:List PyData} (h:n_ k n ds):yV (k+1) n (.tuple ds):=⟨h.lv,h.sh,h.ly,Nat.succ_le_succ h.dp,h.wt⟩
end
end L2
namespace L2
open PySem PySem.Spec PyProof.Rows
end L2
namespace L2
open PySem PySem.Spec PyProof.Rows
section
variable {X:Cx}
end
end L2
namespace L2
open PySem PySem.Spec PyProof.Rows
section
variable {X:Cx} {pins:List (Addr×Obj)} {σ:St} {H:Hp} {s:Shared} {h':Heap}
theorem Inv.iy {t':Nat} {ch:List Addr} {T:Addr} {ob:HO} (I:Inv X pins σ H s) (k: ∀b o,b∉ch->s.heap.get? b=some o->h'.get? b=some o) (hf: ∀b∈ch,la X pins H b)
  (hT:s.heap.objs.size<=T) (new:cb X.prog X.w (upd H T ob) h' T ob):Inv X pins σ (upd H T ob) { s with heap:=h',toks:=t' }:=by
 have hn:=I.bq.fresh hT
 have D9: ∀b u,H b=some u->b∉ch:=fun b u e z=>by rw[(hf b z).1]at e;cases e
 have neT: ∀b o,s.heap.get? b=some o->b≠T:=fun b o e z=>absurd (Nat.lt_of_lt_of_le (Heap.lt_size e) hT) (by rw[z];exact Nat.lt_irrefl _)
 refine I.step (g':=s.gens) (d':=s.drawn) (ch:=ch) (fun b hb=>?_) (fun b o _ _ hc e _=>k b o hc e) (fun b o _ _ hc e _=>⟨o.slots,k b o hc e⟩) (fun b o _ e n=>by rw[aj (neT b o e)];exact n)
  (fun b o hc e=>⟨o,k b o hc e⟩) (fun b xs e=>by rw[aj (aq e hn)];exact e) (fun b o u e=>by rw[aj (aq e hn)];exact e) (fun b ps e=>⟨#[],by rw[aj (aq e hn),e];simp⟩) (fun m hm=>?_) (fun b u e=>?_) I.bare
 ·obtain ⟨_,h2,_,h4,h5,h6⟩:=hf b hb
  exact ⟨h4,h2,h5,h6⟩
 ·obtain ⟨o,es,ep,ho,r⟩:=hm
  exact ⟨o,es,ep,k _ o (fun z=>(hf _ z).2.1 rfl) ho,r⟩
 ·by_cases hb:b=T
  ·subst hb;rw[ae]at e;cases e;exact new
  ·rw[aj hb]at e
   refine (I.bq b u e).rl (fun c v hc q=>k c v ?_ q) (fun c q=>by rw[aj (aq q hn)];exact q) fun c xs q=>by rw[aj (aq q hn)];exact q
   rcases hc with z | z
   ·rw[z];exact D9 b u e
   ·exact D9 c _ z
theorem Inv.jO {t':Nat} {ch:List Addr} (I:Inv X pins σ H s) (k: ∀b o,b∉ch->s.heap.get? b=some o->h'.get? b=some o) (hf: ∀b∈ch,la X pins H b):Inv X pins σ H { s with heap:=h',toks:=t' }:=by
 have D9: ∀b u,H b=some u->b∉ch:=fun b u e z=>by rw[(hf b z).1]at e;cases e
 refine I.step (g':=s.gens) (d':=s.drawn) (ch:=ch) (fun b hb=>?_) (fun b o _ _ hc e _=>k b o hc e) (fun b o _ _ hc e _=>⟨o.slots,k b o hc e⟩) (fun b o _ e n=>n)
  (fun b o hc e=>⟨o,k b o hc e⟩) (fun b xs e=>e) (fun b o u e=>e) (fun b ps e=>⟨#[],by rw[e];simp⟩) (fun m hm=>?_) (fun b u e=>?_) I.bare
 ·obtain ⟨_,h2,_,h4,h5,h6⟩:=hf b hb
  exact ⟨h4,h2,h5,h6⟩
 ·obtain ⟨o,es,ep,ho,r⟩:=hm
  exact ⟨o,es,ep,k _ o (fun z=>(hf _ z).2.1 rfl) ho,r⟩
 ·refine (I.bq b u e).rl (fun c v hc q=>k c v ?_ q) (fun c q=>q) fun c xs q=>q
  rcases hc with z | z
  ·rw[z];exact D9 b u e
  ·exact D9 c _ z
end
noncomputable def IC (l:List Nat):It:=⟨fun i _=>i<l.length,fun i H x H'=> ∃T c,l[i]? =some c/\x= .ref T/\H T=none/\H'=upd H T (.tup [.int i, .str (S [c])]),fun i _=>l.length<=i⟩
theorem oU {prog:Program} {w:World} {A:Around} (hh:A.handled=none) (it:Addr) (x:Str) (t:Tok):
  Draws prog w A it [it] x.cps.size (fun i v=> ∃c u,x.cps[i]? =some c/\v= .str ⟨#[c]⟩ u) (fun i h=>h.IsStrIter it (strIterType x) x t i):=by
 by_cases ha:x.cps.all (· <128)=true
 ·have et:strIterType x="str_ascii_iterator":=by unfold strIterType;rw[if_pos ha]
  rw[et];exact Draws.strAscii hh it x t
 ·have et:strIterType x="str_iterator":=by unfold strIterType;rw[if_neg ha]
  rw[et];exact Draws.strWide hh it x t
theorem uI {P:Program} {w:World} {K:PySem.W.Frag} {elts:List Expr} {k:Nat} {pos:Pos} (e it:Addr) (vY:e≠it) (l:List Nat) (t:Tok):
  Turn P w K (.Tuple elts k pos) (IC l) [e,it] e (fun i h=>i<=l.length/\(∃old,IsEnum h e it i old)/\h.IsStrIter it (strIterType (S l)) (S l) t i) where
 mem:=by simp
 obj:=fun i h st b hb=>by
  obtain ⟨_,⟨old,he⟩,o,ho,hc,hd⟩:=st
  rcases List.mem_cons.mp hb with z | z
  ·rw[z];exact ⟨_,he,fun v z=>by cases z⟩
  ·rw[List.mem_singleton.mp z];exact ⟨o,ho,fun v z=>by rw[hd]at z;cases z⟩
 keep:=fun i h h' st kp=>by
  obtain ⟨h1,⟨old,he⟩,o,ho,r⟩:=st
  exact ⟨h1,⟨old,kp e (by simp) _ he⟩,o,kp it (by simp) o ho,r⟩
 item:=by
  intro X hP hw hK hc i pins s σ H E I hf st hg
  subst hP hw hK
  obtain ⟨_,my,gW⟩:=st
  have D:=oU (prog:=X.prog) (w:=X.w) (A:=X.A.in1) (I.ok.hd hc) it (S l) t
  have W:=WalksT.enumerateD D e vY (by simpa using vY) (by simp)
  have hi:i<(S l).cps.size:=by rw[ir];exact hg
  refine W.item i s _ _ hi ⟨my,gW⟩ fun T vals h' tk Kj hT zR rN hk=>⟨_,rfl,?_⟩
  refine W.go elts k pos i T { s with heap:=h',toks:=tk } _ _ rN fun h2 rO uJ=>?_
  obtain ⟨tt,x,⟨c,u,PB,rfl⟩,rfl⟩:=Kj
  have yW:T∉[e,it]:=W.apart i T h' rN
  have jP:h2.IsTuple T #[.int i tt, .str ⟨#[c]⟩ u]:=by
   obtain ⟨o,ho,r⟩:=zR
   exact ⟨o,uJ T o yW ho,r⟩
  have hl:l[i]? =some c:=by simpa [S]using PB
  refine ⟨.ref T,upd H T (.tup [.int i, .str (S [c])]),?_,rfl,⟨T,c,hl,rfl,I.bq.fresh hT,rfl⟩,⟨hg,rO.1,rO.2⟩,fun b hb=>?_⟩
  ·refine I.iy (t':=tk) (h':=h2) (fun b o hb y=>uJ b o hb (hk b o hb y)) hf hT ?_
   exact ⟨by show 2<=sizeLine;decide,[.int i tt, .str ⟨#[c]⟩ u], .cons ⟨tt,rfl⟩ (.cons ⟨u,rfl⟩ .nil),jP⟩
  ·rw[aj (fun z:b=T=>yW (z▸hb))];exact (hf b hb).1
 done:=by
  intro X hP hw hK hc i pins s σ H E I hf st hg
  subst hP hw hK
  obtain ⟨h1,my,gW⟩:=st
  have e1:i=l.length:=Nat.le_antisymm h1 hg
  have D:=oU (prog:=X.prog) (w:=X.w) (A:=X.A.in1) (I.ok.hd hc) it (S l) t
  have W:=WalksT.enumerateD D e vY (by simpa using vY) (by simp)
  refine W.done s _ _ ?_ fun h' tk hk=>⟨rfl,I.jO (t':=tk) hk hf⟩
  rw[ir, <-e1]
  exact ⟨my,gW⟩
 self:=fun _ _ s _ _ st h=>by
  obtain ⟨_,⟨old,he⟩,_⟩:=st
  exact wpAny_pyIter_enum he h
noncomputable def Gm (ta:TA):TI:=fun σ H R=>ta σ H fun vs H1=> ∃l,vs=[.str (S l)]/\R (IC l) H1
theorem mz {X:Cx} {elts:List Expr} {k:Nat} {pos':Pos} {a:Expr} {ta:TA} {p pos:Pos} (hg:Gl X "enumerate") (hm:X.mg "enumerate"=none) (ha:PA X [a] ta) (hs:starEach [a] X.env=[(false,eval a X.env)]:=by rfl):PI X (.Tuple elts k pos') (.Call (.Name "enumerate" p) [a] [] pos) (Gm ta):=by
 intro pins s σ H R I h
 refine Call_ (cM I hg hm boot_enumerate (PyProof.Rows.callWith_type1 (bU (ha pos pins s σ H _ I h) fun us s1 ⟨vs,H1,I1,r1,q1⟩=>?_) hs rfl))
 obtain ⟨l,rfl,q⟩:=q1
 obtain ⟨u,rfl,t,rfl⟩:=vals1 r1
 refine call_enumerate_str fun h' he hit hsz hk=>?_
 refine wpAny_pyIter_enum he ?_
 refine ⟨s1.heap.objs.size+1,[s1.heap.objs.size+1,s1.heap.objs.size],_,_,H1,rfl,I1.kept (t':=s1.toks) hk,uI _ _ (Nat.succ_ne_self _) l t,⟨Nat.zero_le _,⟨_,he⟩,hit⟩,fun b hb=>?_,q⟩
 have ja:s1.heap.objs.size<=b:=by
  rcases List.mem_cons.mp hb with z | z
  ·rw[z];exact Nat.le_succ _
  ·rw[List.mem_singleton.mp z];exact Nat.le_refl _
 exact I1.jD ja (I1.bq.fresh ja)
theorem rP {l:List Nat} {g:TG} {tb:TS} {D:Ends} {σ:St} {H:Hp} (Pv:Nat->St->Hp->Prop) (h0:Pv 0 σ H)
  (hs: ∀i c σ H T,l[i]? =some c->Pv i σ H->H T=none->g (.ref T) σ (upd H T (.tup [.int i, .str (S [c])])) fun σ2 H2=>tb { D with nx:=Pv (i+1),ct:=Pv (i+1),bk:=D.nx } σ2 H2) (hd: ∀σ H,Pv l.length σ H->D.nx σ H):
  ∃W:Nat->Nat->St->Hp->Prop,(∃m,W 0 m σ H)/\ ∀i m σ H,W i m σ H->
   ((IC l).stop i H/\D.nx σ H)\/((IC l).go i H/\ ∃N:St->Hp->Prop,(∀σ' H',N σ' H'-> ∃m',m'<m/\W (i+1) m' σ' H')/\ ∀x H',(IC l).uh i H x H'->g x σ H' fun σ2 H2=>tb { D with nx:=N,ct:=N,bk:=D.nx } σ2 H2):=by
 refine ⟨fun i m σ H=>m=l.length - i/\i<=l.length/\Pv i σ H,⟨l.length,by simp,Nat.zero_le _,h0⟩,?_⟩
 rintro i m σ H ⟨rfl,hi,p⟩
 by_cases cN:i<l.length
 ·refine .inr ⟨cN,Pv (i+1),fun σ' H' p'=>⟨l.length - (i+1),by omega,rfl,cN,p'⟩,fun x H' y=>?_⟩
  obtain ⟨T,c,hc,rfl,hn,rfl⟩:=y
  exact hs i c σ _ T hc p hn
 ·have e:i=l.length:=by omega
  subst e
  exact .inl ⟨Nat.le_refl _,hd σ H p⟩
section
variable {X:Cx}
theorem CB {ls:List (List Nat)}: ∀{az:List Value},Vals (ls.map fun l=>V.str (S l)) az->StrsAre az (ls.map S):=by
 induction ls with
 | nil=>intro az r;cases r;exact .nil
 | cons l ls ih=>
  intro az r
  cases r with
  | cons r1 r2=>
   obtain ⟨t,rfl⟩:=r1
   exact .cons _ t (ih r2)
theorem vZ: ∀{az:List Value} {ss:List Str},StrsAre az ss->Vals ((ss.map fun x=>x.cps.toList).map fun l=>V.str (S l)) az
 | _,_, .nil=> .nil
 | _,_, .cons x t h=> .cons ⟨t,by rw[<-Pk]⟩ (vZ h)
theorem oV: ∀(p:Str) (r:List Str),risingS p r=true->(p::r).Pairwise fun a b=> ¬b.cps.toList<a.cps.toList
 | p,[],_=>List.pairwise_singleton _ _
 | p,x::r,h=>by
  have h':(!ltCps x.cps.toList p.cps.toList&&risingS x r)=true:=h
  rw[Bool.and_eq_true,ltCps_eq]at h'
  have h1: ¬x.cps.toList<p.cps.toList:=by simpa using h'.1
  have ih:=oV x r h'.2
  refine List.pairwise_cons.mpr ⟨fun y hy=>?_,ih⟩
  rcases List.mem_cons.mp hy with z | z
  ·rw[z];exact h1
  ·exact List.le_trans (show p.cps.toList<=x.cps.toList from h1) (show x.cps.toList<=y.cps.toList from List.rel_of_pairwise_cons ih z)
theorem xx {ss:List Str} (h:sortedS ss=true):(ss.map fun x=>x.cps.toList).Pairwise fun a b=> ¬b<a:=by
 rw[List.pairwise_map]
 cases ss with
 | nil=>exact List.Pairwise.nil
 | cons x r=>exact oV x r h
noncomputable def Gn (K:PySem.W.Frag):List V->Hp->VK->Prop:=fun xs H Q=> ∃(p:Addr) (ls:List (List Nat)),xs=[.ref p]/\aJ K H p (ls.map fun l=>V.str (S l))/\ls.length<64/\ ∀(q:Addr) (PD:List (List Nat)),H q=none->PD.Perm ls->(PD.Pairwise fun a b=> ¬b<a)->Q (.ref q) (upd H q (.lst (PD.map fun l=>V.str (S l))))
theorem jQ (K:PySem.W.Frag) (h:X.K=K):cY X (.builtin "sorted") (Gn K):=by
 subst h
 intro pins s σ H xs us Q I r h
 obtain ⟨p,ls,rfl,hq,hn,q⟩:=h
 obtain ⟨u,rfl,ru⟩:=vals1 r
 cases ru
 obtain ⟨az,rv,pl,hz⟩:=I.list hq
 have hlen:az.length=ls.length:=by rw[<-rv.length,List.length_map]
 refine sorted_strs (l:=p) (vs:=az) (ss:=ls.map S) pl.isList (CB rv) (by omega) fun out PH h1 h2 h3=>?_
 obtain ⟨e,he⟩:=sortedAll_at s.heap az out
 have v3:(PH.map fun x=>x.cps.toList).Perm ls:=by
  have:=h2.map fun x:Str=>x.cps.toList
  rw[List.map_map]at this
  have e2:ls.map ((fun x:Str=>x.cps.toList) ∘ S)=ls:=by
   have: ∀l∈ls,((fun x:Str=>x.cps.toList) ∘ S) l=l:=fun l _=>fE l
   calc ls.map _=ls.map id:=List.map_congr_left this
    _=ls:=List.map_id ls
  rwa [e2]at this
 have nQ:=v3.length_eq
 have h64:(64:Nat)<sizeLine:=by decide
 have Eo:((PH.map fun x=>x.cps.toList).map fun l=>V.str (S l)).length<=sizeLine:=by rw[List.length_map,nQ];omega
 refine ⟨.ref (s.heap.objs.size+1),_,I.laid (t':=s.toks) (a:=s.heap.objs.size+1) (o:= .lst ((PH.map fun x=>x.cps.toList).map fun l=>V.str (S l))) (fun b o e=>sortedAll_old e) (Nat.le_succ _) ⟨Eo,out.toList,e,vZ h1,by simpa [seqObj]using he⟩,rfl,q _ _ (I.bq.fresh (Nat.le_succ _)) v3 (xx h3)⟩
end
end L2
namespace L2
open PySem PySem.Spec PyProof.Rows
section
variable {X:Cx}
theorem v5 {ls:List (List Nat)} {l:List Nat} (h:ls.Perm (l.map fun c=>[c])): ∃l':List Nat,ls=l'.map (fun c=>[c])/\l'.Perm l:=by
 refine ⟨ls.flatten,?_,?_⟩
 ·have hs: ∀x∈ls, ∃c,x=[c]:=fun x hx=>by
   obtain ⟨c,_,e⟩:=List.mem_map.mp (h.mem_iff.mp hx)
   exact ⟨c,e.symm⟩
  clear h
  induction ls with
  | nil=>rfl
  | cons x ls ih=>
   obtain ⟨c,rfl⟩:=hs x List.mem_cons_self
   rw[List.flatten_cons,List.map_append, <-ih fun y hy=>hs y (List.mem_cons_of_mem _ hy)]
   rfl
 ·have:=h.flatten
  have e:(l.map fun c=>[c]).flatten=l:=by
   clear h this
   induction l with
   | nil=>rfl
   | cons c l ih=>rw[List.map_cons,List.flatten_cons,ih];rfl
  rwa [e]at this
theorem v7 {l:List Nat} (h:(l.map fun c=>[c]).Pairwise fun a b=> ¬b<a):l.Pairwise fun a b=>a<=b:=by
 rw[List.pairwise_map]at h
 refine h.imp fun {a b} z=>?_
 by_cases y:a<=b
 ·exact y
 ·exact absurd (List.cons_lt_cons_iff.mpr (.inl (by omega))) z
end
end L2
namespace L2
open PySem PySem.Spec PyProof.Rows
section
variable {X:Cx}
end
end L2
namespace L2
open PySem PySem.Spec PyProof.Rows
section
variable {prog:Program} {w:World} {A:Around} {E:Value->Shared->Prop} {s:Shared}
theorem uK {it tp:Addr} {j:Nat} {xs:Array Value} {y:Value} {Q:Value->Shared->Prop} (hi:s.heap.IsTupleIter it tp j) (ht:s.heap.IsTuple tp xs) (hy:xs[j]? =some y)
  (q: ∀h2,h2.IsTupleIter it tp (j+1)->Heap.SameBut it s.heap h2->Q y { s with heap:=h2 }):wpAny (model prog w) A (Builtin.SmallTypes.nextOf (.ref it)) Q E s:=by
 obtain ⟨oi,eo,ec,ed⟩:=id hi
 obtain ⟨ot,et,_,nt,dt⟩:=ht
 unfold Builtin.SmallTypes.nextOf
 refine wpAny_bind (wpAny_callSpecial?_slot (name:=Str.ofString "__next__") hi.typeIs F.slot_tuple_iterator_next (wpAny_call_entry F.slot_tuple_iterator_next hi.typeIs F.entry_tuple_iterator_next ?_ (F.args_tuple_iterator_next_1 _)))
 refine wpAny_bind (m:=field (.ref it) 0) (wpAny_field eo ed (x:= .ref tp) rfl ?_)
 show wpAny (model prog w) _ (if (Value.ref tp==Value.none)=true then _ else _) _ E s
 rw[if_neg (show ¬(Value.ref tp==Value.none)=true from Bool.false_ne_true)]
 refine wpAny_bind (m:=field (.ref it) 1) (wpAny_field eo ed (x:= .int j 0) rfl ?_)
 refine wpAny_bind (m:=seqItems? (.ref tp)) (wpAny_seqItems et dt ?_)
 simp only[Int.toNat_natCast,hy]
 refine wpAny_bind (wpAny_setField eo ed (by simp) (wpAny_pure ⟨y,rfl,wpAny_pure (q _ ⟨_,Heap.get?_update_self _ eo (Obj.isFreed_of_fields (Obj.data_mapFields ed _)),(Obj.cls_mapFields ..).trans ec,by rw[Obj.data_mapFields ed];simp[rawInt]⟩ (Heap.SameBut.update ..))⟩))
theorem xy {it tp:Addr} {j:Nat} {xs:Array Value} {Q:Value->Shared->Prop} (hh:A.handled=none) (hi:s.heap.IsTupleIter it tp j) (ht:s.heap.IsTuple tp xs) (hy:xs[j]? =none)
  (q: ∀h2 e,Heap.ExtBut it s.heap h2->(∃o,h2.get? e=some o/\o.cls= .type "StopIteration")->E (.ref e) { s with heap:=h2 }):wpAny (model prog w) A (Builtin.SmallTypes.nextOf (.ref it)) Q E s:=by
 obtain ⟨oi,eo,ec,ed⟩:=id hi
 obtain ⟨ot,et,_,nt,dt⟩:=ht
 unfold Builtin.SmallTypes.nextOf
 refine wpAny_bind (wpAny_callSpecial?_slot (name:=Str.ofString "__next__") hi.typeIs F.slot_tuple_iterator_next (wpAny_call_entry F.slot_tuple_iterator_next hi.typeIs F.entry_tuple_iterator_next ?_ (F.args_tuple_iterator_next_1 _)))
 refine wpAny_bind (m:=field (.ref it) 0) (wpAny_field eo ed (x:= .ref tp) rfl ?_)
 show wpAny (model prog w) _ (if (Value.ref tp==Value.none)=true then _ else _) _ E s
 rw[if_neg (show ¬(Value.ref tp==Value.none)=true from Bool.false_ne_true)]
 refine wpAny_bind (m:=field (.ref it) 1) (wpAny_field eo ed (x:= .int j 0) rfl ?_)
 refine wpAny_bind (m:=seqItems? (.ref tp)) (wpAny_seqItems et dt ?_)
 simp only[Int.toNat_natCast,hy]
 refine wpAny_bind (wpAny_rule (wpAny_bind (wpAny_setField eo ed (by simp) ?_)))
 refine wpAny_bind (m:=newExc (.type "StopIteration") []) ?_
 simp only[newExc,newTuple]
 refine wpAny_bind (wpAny_newObj_type (wpAny_bind (m:=firstArgMember _ _) (wpAny_of_eq (a:=Value.none) (by first | rfl | (simp only[firstArgMember];rfl)) (wpAny_newObj_type ?_ (by size_fits)))) (by size_fits))
 simp only[raiseNew]
 refine wpAny_bind (wpAny_handled ?_);first | rw[show A.in1.handled=none from hh] | rw[hh]
 exact wpAny_bind (wpAny_pure (wpAny_throw (q _ _ (((Heap.SameBut.update ..).extBut.push _).push _) ⟨_,Heap.get?_push_size _ rfl,rfl⟩)))
theorem iA (hh:A.handled=none) (it tp:Addr) (ne:tp≠it) (xs:Array Value):
  Draws prog w A it [it,tp] xs.size (fun i v=>xs[i]? =some v) (fun i h=>h.IsTupleIter it tp i/\h.IsTuple tp xs) where
 live:=fun _ _ z=>let ⟨o,e,_⟩:=z.1;⟨o,e⟩
 frame:=fun _ _ _ z k=>by
  obtain ⟨⟨o,e,r⟩,o2,e2,r2⟩:=z
  exact ⟨⟨o,k it (by simp) o e,r⟩,o2,k tp (by simp) o2 e2,r2⟩
 item:=fun i s Q E hi z q=>uK z.1 z.2 (y:=xs[i]) (by simp[hi]) fun h2 z2 sb=>q _ h2 s.toks (by simp[hi]) ⟨z2,z.2.extBut sb.extBut ne⟩ sb
 done:=fun s Q E z q=>xy hh z.1 z.2 (by simp) q
theorem rQ (l:Addr) (items:Array Value) (n:Nat) (PJ:Option Addr) (sl:Array (Option Value)):
  Meets (Builtin.«enumerate.__new__» ⟨[.type "enumerate", .ref l],[]⟩) (fun _ R s=>s.heap.get? l=some { cls:= .type "tuple",dict:=PJ,data:= .seq items n,slots:=sl }/\
   R (.ok (.ret (.ref (s.heap.push { cls:= .type "tuple_iterator",data:= .fields #[.ref l, .int 0 0] }).objs.size)))
    { s with heap:=(s.heap.push { cls:= .type "tuple_iterator",data:= .fields #[.ref l, .int 0 0] }).push { cls:= .type "enumerate",data:= .fields #[.none, .bool false, .ref s.heap.objs.size,rawInt 0, .none, .none] } }):=
 .of_wp fun prog w A R s h=>by
  obtain ⟨hp,g,d,tk,os⟩:=s;obtain ⟨hl,q⟩:=h;have CC:=sub_enumerate
  have hT:Heap.IsTuple (Shared.heap ⟨hp,g,d,tk,os⟩) l items:=⟨_,hl,rfl,n,rfl⟩
  wp_walk using AutoSeq1.wpAny_loadPart' hl
  refine wpAny_stack_any fun st=>wpAny_pure ?_
  split
  ·rename_i c _ _ _ _ _
   cases (c==Value.type "enumerate")<;>(wp_walk using AutoSeq1.wpAny_loadPart' hl,wpAny_pyIter_tuple hT;exact ⟨_,rfl,q⟩)
  ·wp_walk using AutoSeq1.wpAny_loadPart' hl,wpAny_pyIter_tuple hT
   exact ⟨_,rfl,q⟩
theorem uL {l:Addr} {items:Array Value} {Q:Value->Shared->Prop} (hL:s.heap.IsTuple l items)
  (h: ∀h',IsEnum h' (s.heap.objs.size+1) s.heap.objs.size 0 .none->h'.IsTupleIter s.heap.objs.size l 0->(∀b o,s.heap.get? b=some o->h'.get? b=some o)->Q (.ref (s.heap.objs.size+1)) { s with heap:=h' }):
  wpAny (model prog w) A (call (.type "enumerate") [.ref l]) Q E s:=by
 obtain ⟨⟨c,PJ,dt,sl⟩,hl,hc,n,hd⟩:=hL
 cases (show c= .type "tuple" from hc)
 cases (show dt= .seq items n from hd)
 refine callType_new F.called_enumerate (by decide) (F.typeCall_enumerate_1 _) (F.newCall_enumerate_1 _) (fun ob=>F.args_object_init_2 ob _) F.entry_enumerate_new (rQ l items n PJ sl) ⟨hl,?_⟩
 have hz:(s.heap.push { cls:= .type "tuple_iterator",data:= .fields #[.ref l, .int 0 0] }).objs.size=s.heap.objs.size+1:=Heap.size_push ..
 show _/\_
 rw[hz]
 have he:IsEnum ((s.heap.push { cls:= .type "tuple_iterator",data:= .fields #[.ref l, .int 0 0] }).push { cls:= .type "enumerate",data:= .fields #[.none, .bool false, .ref s.heap.objs.size,rawInt 0, .none, .none] }) (s.heap.objs.size+1) s.heap.objs.size 0 .none:=by
  have:=Heap.get?_push_size (s.heap.push { cls:= .type "tuple_iterator",data:= .fields #[.ref l, .int 0 0] }) (o:={ cls:= .type "enumerate",data:= .fields #[.none, .bool false, .ref s.heap.objs.size,rawInt 0, .none, .none] }) rfl
  rwa [hz]at this
 exact ⟨⟨_,he,rfl⟩,h _ he ⟨_,Heap.get?_push_of_some _ (Heap.get?_push_size _ rfl),rfl,rfl⟩ fun b o x=>Heap.get?_push_of_some _ (Heap.get?_push_of_some _ x)⟩
end
noncomputable def zS (K:PySem.W.Frag) (a:Addr):It:=⟨fun i H=> ∃xs x,aY K H a xs/\xs[i]? =some x,fun i H x H'=> ∃T y,(∀xs,aY K H a xs->xs[i]? =some y)/\x= .ref T/\H T=none/\H'=upd H T (.tup [.int i,y]),fun i H=> ∃xs,aY K H a xs/\xs.length=i⟩
noncomputable def xA (K:PySem.W.Frag) (a:Addr):It:=⟨fun i H=> ∃xs x,aJ K H a xs/\xs[i]? =some x,fun i H x H'=> ∃T y,(∀xs,aJ K H a xs->xs[i]? =some y)/\x= .ref T/\H T=none/\H'=upd H T (.tup [.int i,y]),fun i H=> ∃xs,aJ K H a xs/\xs.length=i⟩
theorem uM {P:Program} {w:World} {K:PySem.W.Frag} {elts:List Expr} {k:Nat} {pos:Pos} (e it a:Addr) (vY:e≠it) (Kk:a≠e) (Kl:a≠it):
  Turn P w K (.Tuple elts k pos) (zS K a) [e,it] e (fun i h=>(∃old,IsEnum h e it i old)/\h.IsTupleIter it a i) where
 mem:=by simp
 obj:=fun i h st b hb=>by
  obtain ⟨⟨old,he⟩,o,ho,hc,hd⟩:=st
  rcases List.mem_cons.mp hb with z | z
  ·rw[z];exact ⟨_,he,fun v z=>by cases z⟩
  ·rw[List.mem_singleton.mp z];exact ⟨o,ho,fun v z=>by rw[hd]at z;cases z⟩
 keep:=fun i h h' st kp=>by
  obtain ⟨⟨old,he⟩,o,ho,r⟩:=st
  exact ⟨⟨old,kp e (by simp) _ he⟩,o,kp it (by simp) o ho,r⟩
 item:=by
  intro X hP hw hK hc i pins s σ H E I hf st hg
  subst hP hw hK
  obtain ⟨my,gW⟩:=st
  obtain ⟨xs,x,hq,hx⟩:=hg
  obtain ⟨az,rv,p,hz⟩:=I.tuple hq
  obtain ⟨u0,hu,ru⟩:=rv.get hx
  have D:=iA (prog:=X.prog) (w:=X.w) (A:=X.A.in1) (I.ok.hd hc) it a Kl az.toArray
  have W:=WalksT.enumerateD D e vY (by simp;exact ⟨vY,Ne.symm Kk⟩) (by simp)
  have Km:i<az.toArray.size:=by rw[List.size_toArray];exact (List.getElem?_eq_some_iff.mp hu).1
  refine W.item i s _ _ Km ⟨my,gW,p⟩ fun T vals h' tk Kj hT zR rN hk=>⟨_,rfl,?_⟩
  refine W.go elts k pos i T { s with heap:=h',toks:=tk } _ _ rN fun h2 rO uJ=>?_
  obtain ⟨tt,x2,CD,rfl⟩:=Kj
  have ex:x2=u0:=by
   rw[List.getElem?_toArray]at CD
   exact Option.some.inj (CD.symm.trans hu)
  subst ex
  have yW:T∉[e,it]:=W.apart i T h' rN
  have jP:h2.IsTuple T #[.int i tt,x2]:=by
   obtain ⟨o,ho,r⟩:=zR
   exact ⟨o,uJ T o yW ho,r⟩
  refine ⟨.ref T,upd H T (.tup [.int i,x]),?_,rfl,⟨T,x,fun ys hy=>by rw[I.kg hy hq];exact hx,rfl,I.bq.fresh hT,rfl⟩,⟨rO.1,rO.2.1⟩,fun b hb=>?_⟩
  ·refine I.iy (t':=tk) (h':=h2) (fun b o hb y=>uJ b o hb (hk b o hb y)) hf hT ?_
   exact ⟨by show 2<=sizeLine;decide,[.int i tt,x2], .cons ⟨tt,rfl⟩ (.cons ru .nil),jP⟩
  ·rw[aj (fun z:b=T=>yW (z▸hb))];exact (hf b hb).1
 done:=by
  intro X hP hw hK hc i pins s σ H E I hf st hg
  subst hP hw hK
  obtain ⟨my,gW⟩:=st
  obtain ⟨xs,hq,hx⟩:=hg
  obtain ⟨az,rv,p,hz⟩:=I.tuple hq
  have hl:=rv.length
  have D:=iA (prog:=X.prog) (w:=X.w) (A:=X.A.in1) (I.ok.hd hc) it a Kl az.toArray
  have W:=WalksT.enumerateD D e vY (by simp;exact ⟨vY,Ne.symm Kk⟩) (by simp)
  refine W.done s _ _ ?_ fun h' tk hk=>⟨rfl,I.jO (t':=tk) hk hf⟩
  have e1:az.toArray.size=i:=by rw[List.size_toArray];omega
  rw[e1]
  exact ⟨my,gW,p⟩
 self:=fun _ _ s _ _ st h=>by
  obtain ⟨⟨old,he⟩,_⟩:=st
  exact wpAny_pyIter_enum he h
theorem uN {P:Program} {w:World} {K:PySem.W.Frag} {elts:List Expr} {k:Nat} {pos:Pos} (e it a:Addr) (vY:e≠it) (Kk:a≠e) (Kl:a≠it):
  Turn P w K (.Tuple elts k pos) (xA K a) [e,it] e (fun i h=>(∃old,IsEnum h e it i old)/\h.IsListIter it a i) where
 mem:=by simp
 obj:=fun i h st b hb=>by
  obtain ⟨⟨old,he⟩,o,ho,hc,hd⟩:=st
  rcases List.mem_cons.mp hb with z | z
  ·rw[z];exact ⟨_,he,fun v z=>by cases z⟩
  ·rw[List.mem_singleton.mp z];exact ⟨o,ho,fun v z=>by rw[hd]at z;cases z⟩
 keep:=fun i h h' st kp=>by
  obtain ⟨⟨old,he⟩,o,ho,r⟩:=st
  exact ⟨⟨old,kp e (by simp) _ he⟩,o,kp it (by simp) o ho,r⟩
 item:=by
  intro X hP hw hK hc i pins s σ H E I hf st hg
  subst hP hw hK
  obtain ⟨my,gW⟩:=st
  obtain ⟨xs,x,hq,hx⟩:=hg
  obtain ⟨az,rv,p,hz⟩:=I.list hq
  obtain ⟨u0,hu,ru⟩:=rv.get hx
  have D:=Draws.list (prog:=X.prog) (w:=X.w) (A:=X.A.in1) (I.ok.hd hc) it a Kl az.toArray
  have W:=WalksT.enumerateD D e vY (by simp;exact ⟨vY,Ne.symm Kk⟩) (by simp)
  have Km:i<az.toArray.size:=by rw[List.size_toArray];exact (List.getElem?_eq_some_iff.mp hu).1
  refine W.item i s _ _ Km ⟨my,gW,p.isList⟩ fun T vals h' tk Kj hT zR rN hk=>⟨_,rfl,?_⟩
  refine W.go elts k pos i T { s with heap:=h',toks:=tk } _ _ rN fun h2 rO uJ=>?_
  obtain ⟨tt,x2,CD,rfl⟩:=Kj
  have ex:x2=u0:=by
   rw[List.getElem?_toArray]at CD
   exact Option.some.inj (CD.symm.trans hu)
  subst ex
  have yW:T∉[e,it]:=W.apart i T h' rN
  have jP:h2.IsTuple T #[.int i tt,x2]:=by
   obtain ⟨o,ho,r⟩:=zR
   exact ⟨o,uJ T o yW ho,r⟩
  refine ⟨.ref T,upd H T (.tup [.int i,x]),?_,rfl,⟨T,x,fun ys hy=>by rw[I.lS hy hq];exact hx,rfl,I.bq.fresh hT,rfl⟩,⟨rO.1,rO.2.1⟩,fun b hb=>?_⟩
  ·refine I.iy (t':=tk) (h':=h2) (fun b o hb y=>uJ b o hb (hk b o hb y)) hf hT ?_
   exact ⟨by show 2<=sizeLine;decide,[.int i tt,x2], .cons ⟨tt,rfl⟩ (.cons ru .nil),jP⟩
  ·rw[aj (fun z:b=T=>yW (z▸hb))];exact (hf b hb).1
 done:=by
  intro X hP hw hK hc i pins s σ H E I hf st hg
  subst hP hw hK
  obtain ⟨my,gW⟩:=st
  obtain ⟨xs,hq,hx⟩:=hg
  obtain ⟨az,rv,p,hz⟩:=I.list hq
  have hl:=rv.length
  have D:=Draws.list (prog:=X.prog) (w:=X.w) (A:=X.A.in1) (I.ok.hd hc) it a Kl az.toArray
  have W:=WalksT.enumerateD D e vY (by simp;exact ⟨vY,Ne.symm Kk⟩) (by simp)
  refine W.done s _ _ ?_ fun h' tk hk=>⟨rfl,I.jO (t':=tk) hk hf⟩
  have e1:az.toArray.size=i:=by rw[List.size_toArray];omega
  rw[e1]
  exact ⟨my,gW,p.isList⟩
 self:=fun _ _ s _ _ st h=>by
  obtain ⟨⟨old,he⟩,_⟩:=st
  exact wpAny_pyIter_enum he h
noncomputable def Gp (K:PySem.W.Frag) (ta:TA):TI:=fun σ H R=>ta σ H fun vs H1=> ∃a,vs=[.ref a]/\(∃xs,aY K H1 a xs)/\R (zS K a) H1
noncomputable def Gq (K:PySem.W.Frag) (ta:TA):TI:=fun σ H R=>ta σ H fun vs H1=> ∃a,vs=[.ref a]/\(∃xs,aJ K H1 a xs)/\R (xA K a) H1
theorem jR {X:Cx} (K:PySem.W.Frag) (hK:X.K=K) {elts:List Expr} {k:Nat} {pos':Pos} {a:Expr} {ta:TA} {p pos:Pos} (hg:Gl X "enumerate") (hm:X.mg "enumerate"=none) (ha:PA X [a] ta) (hs:starEach [a] X.env=[(false,eval a X.env)]:=by rfl):PI X (.Tuple elts k pos') (.Call (.Name "enumerate" p) [a] [] pos) (Gp K ta):=by
 subst hK
 intro pins s σ H R I h
 refine Call_ (cM I hg hm boot_enumerate (PyProof.Rows.callWith_type1 (bU (ha pos pins s σ H _ I h) fun us s1 ⟨vs,H1,I1,r1,q1⟩=>?_) hs rfl))
 obtain ⟨b,rfl,⟨xs,hq⟩,q⟩:=q1
 obtain ⟨u,rfl,ru⟩:=vals1 r1
 cases ru
 obtain ⟨az,rv,pl,hz⟩:=I1.tuple hq
 obtain ⟨ob,eb,_⟩:=id pl
 have cN:b<s1.heap.objs.size:=Heap.lt_size eb
 refine uL pl fun h' he hit hk=>wpAny_pyIter_enum he ?_
 refine ⟨s1.heap.objs.size+1,[s1.heap.objs.size+1,s1.heap.objs.size],_,_,H1,rfl,I1.kept (t':=s1.toks) hk,uM _ _ b (Nat.succ_ne_self _) (Nat.ne_of_lt (Nat.lt_succ_of_lt cN)) (Nat.ne_of_lt cN),⟨⟨_,he⟩,hit⟩,fun c hb=>?_,q⟩
 have ja:s1.heap.objs.size<=c:=by
  rcases List.mem_cons.mp hb with z | z
  ·rw[z];exact Nat.le_succ _
  ·rw[List.mem_singleton.mp z];exact Nat.le_refl _
 exact I1.jD ja (I1.bq.fresh ja)
theorem iB {X:Cx} (K:PySem.W.Frag) (hK:X.K=K) {elts:List Expr} {k:Nat} {pos':Pos} {a:Expr} {ta:TA} {p pos:Pos} (hg:Gl X "enumerate") (hm:X.mg "enumerate"=none) (ha:PA X [a] ta) (hs:starEach [a] X.env=[(false,eval a X.env)]:=by rfl):PI X (.Tuple elts k pos') (.Call (.Name "enumerate" p) [a] [] pos) (Gq K ta):=by
 subst hK
 intro pins s σ H R I h
 refine Call_ (cM I hg hm boot_enumerate (PyProof.Rows.callWith_type1 (bU (ha pos pins s σ H _ I h) fun us s1 ⟨vs,H1,I1,r1,q1⟩=>?_) hs rfl))
 obtain ⟨b,rfl,⟨xs,hq⟩,q⟩:=q1
 obtain ⟨u,rfl,ru⟩:=vals1 r1
 cases ru
 obtain ⟨az,rv,pl,hz⟩:=I1.list hq
 obtain ⟨ob,eb,_⟩:=id pl.isList
 have cN:b<s1.heap.objs.size:=Heap.lt_size eb
 refine call_enumerate_list pl.isList fun h' he hit hsz hk=>wpAny_pyIter_enum he ?_
 refine ⟨s1.heap.objs.size+1,[s1.heap.objs.size+1,s1.heap.objs.size],_,_,H1,rfl,I1.kept (t':=s1.toks) hk,uN _ _ b (Nat.succ_ne_self _) (Nat.ne_of_lt (Nat.lt_succ_of_lt cN)) (Nat.ne_of_lt cN),⟨⟨_,he⟩,hit⟩,fun c hb=>?_,q⟩
 have ja:s1.heap.objs.size<=c:=by
  rcases List.mem_cons.mp hb with z | z
  ·rw[z];exact Nat.le_succ _
  ·rw[List.mem_singleton.mp z];exact Nat.le_refl _
 exact I1.jD ja (I1.bq.fresh ja)
theorem iQ {K:PySem.W.Frag} {a:Addr} {xs:List V} {g:TG} {tb:TS} {D:Ends} {σ:St} {H:Hp} (Pv:Nat->St->Hp->Prop) (h0:Pv 0 σ H) (hl: ∀i σ H,i<=xs.length->Pv i σ H->aY K H a xs)
  (hs: ∀i x σ H T,xs[i]? =some x->Pv i σ H->H T=none->g (.ref T) σ (upd H T (.tup [.int i,x])) fun σ2 H2=>tb { D with nx:=Pv (i+1),ct:=Pv (i+1),bk:=D.nx } σ2 H2) (hd: ∀σ H,Pv xs.length σ H->D.nx σ H):
  ∃W:Nat->Nat->St->Hp->Prop,(∃m,W 0 m σ H)/\ ∀i m σ H,W i m σ H->
   ((zS K a).stop i H/\D.nx σ H)\/((zS K a).go i H/\ ∃N:St->Hp->Prop,(∀σ' H',N σ' H'-> ∃m',m'<m/\W (i+1) m' σ' H')/\ ∀x H',(zS K a).uh i H x H'->g x σ H' fun σ2 H2=>tb { D with nx:=N,ct:=N,bk:=D.nx } σ2 H2):=by
 refine ⟨fun i m σ H=>m=xs.length - i/\i<=xs.length/\Pv i σ H,⟨xs.length,by simp,Nat.zero_le _,h0⟩,?_⟩
 rintro i m σ H ⟨rfl,hi,p⟩
 have hq:=hl i σ H hi p
 by_cases cN:i<xs.length
 ·refine .inr ⟨⟨xs,xs[i],hq,by simp[cN]⟩,Pv (i+1),fun σ' H' p'=>⟨xs.length - (i+1),by omega,rfl,cN,p'⟩,fun x H' y=>?_⟩
  obtain ⟨T,z,hz,rfl,hn,rfl⟩:=y
  exact hs i z σ _ T (hz xs hq) p hn
 ·have e:i=xs.length:=by omega
  subst e
  exact .inl ⟨⟨xs,hq,rfl⟩,hd σ H p⟩
theorem iR {K:PySem.W.Frag} {a:Addr} {xs:List V} {g:TG} {tb:TS} {D:Ends} {σ:St} {H:Hp} (Pv:Nat->St->Hp->Prop) (h0:Pv 0 σ H) (hl: ∀i σ H,i<=xs.length->Pv i σ H->aJ K H a xs)
  (hs: ∀i x σ H T,xs[i]? =some x->Pv i σ H->H T=none->g (.ref T) σ (upd H T (.tup [.int i,x])) fun σ2 H2=>tb { D with nx:=Pv (i+1),ct:=Pv (i+1),bk:=D.nx } σ2 H2) (hd: ∀σ H,Pv xs.length σ H->D.nx σ H):
  ∃W:Nat->Nat->St->Hp->Prop,(∃m,W 0 m σ H)/\ ∀i m σ H,W i m σ H->
   ((xA K a).stop i H/\D.nx σ H)\/((xA K a).go i H/\ ∃N:St->Hp->Prop,(∀σ' H',N σ' H'-> ∃m',m'<m/\W (i+1) m' σ' H')/\ ∀x H',(xA K a).uh i H x H'->g x σ H' fun σ2 H2=>tb { D with nx:=N,ct:=N,bk:=D.nx } σ2 H2):=by
 refine ⟨fun i m σ H=>m=xs.length - i/\i<=xs.length/\Pv i σ H,⟨xs.length,by simp,Nat.zero_le _,h0⟩,?_⟩
 rintro i m σ H ⟨rfl,hi,p⟩
 have hq:=hl i σ H hi p
 by_cases cN:i<xs.length
 ·refine .inr ⟨⟨xs,xs[i],hq,by simp[cN]⟩,Pv (i+1),fun σ' H' p'=>⟨xs.length - (i+1),by omega,rfl,cN,p'⟩,fun x H' y=>?_⟩
  obtain ⟨T,z,hz,rfl,hn,rfl⟩:=y
  exact hs i z σ _ T (hz xs hq) p hn
 ·have e:i=xs.length:=by omega
  subst e
  exact .inl ⟨⟨xs,hq,rfl⟩,hd σ H p⟩
theorem xB {l:List Nat} {σc:St} {g:TG} {tc:TT} {te:TE} {Q:VK} {H1:Hp} (Pv:Nat->List V->Hp->Prop) (hn:l.length<sizeLine) (h0:Pv 0 [] H1)
  (hs: ∀(i c:Nat) (acc:List V) (H:Hp) (T:Addr) (Nx:List V->Hp->Prop),l[i]? =some c->acc.length<=i->Pv i acc H->H T=none->(∀bH H',bH.length<=i+1->Pv (i+1) bH H'->Nx bH H')->
   g (.ref T) σc (upd H T (.tup [.int i, .str (S [c])])) fun σ2 H2=>Wk σc σ2/\tc σ2 H2 fun b H3=>if b=true then te σ2 H3 fun v H4=>Nx (acc++[v]) H4 else Nx acc H3)
  (hd: ∀acc H D,acc.length<=l.length->Pv l.length acc H->H D=none->Q (.ref D) (upd H D (.lst acc))):jK (IC l) σc g tc te Q H1:=by
 refine ⟨fun i m acc H=>m=l.length - i/\i<=l.length/\acc.length<=i/\Pv i acc H,⟨l.length,by simp,Nat.zero_le _,Nat.le_refl _,h0⟩,?_⟩
 rintro i m acc H ⟨rfl,hi,hl,p⟩
 refine ⟨by omega,?_⟩
 by_cases cN:i<l.length
 ·refine .inr ⟨cN,fun x H' y=>?_⟩
  obtain ⟨T,c,hc,rfl,hT,rfl⟩:=y
  exact hs i c acc _ T (fun bH H'=> ∃m',m'<l.length - i/\(m'=l.length - (i+1)/\i+1<=l.length/\bH.length<=i+1/\Pv (i+1) bH H')) hc hl p hT fun bH H' h1 h2=>⟨l.length - (i+1),by omega,rfl,cN,h1,h2⟩
 ·have e:i=l.length:=by omega
  subst e
  exact .inl ⟨Nat.le_refl _,fun D hD=>hd acc H D hl p hD⟩
section
variable {X:Cx}
noncomputable def zT (K:PySem.W.Frag):List V->Hp->VK->Prop:=fun xs H Q=>(∃l:List Nat,xs=[.str (S l)]/\l.length<=sizeLine/\ ∀p,H p=none->Q (.ref p) (upd H p (.lst (bX l))))\/vW K xs H Q
theorem qo (K:PySem.W.Frag) (h:X.K=K) (hc:X.calm=true):cY X (.type "list") (zT K):=by
 intro pins s σ H xs us Q I r q
 rcases q with q | q
 ·exact gK hc pins s σ H xs us Q I r q
 ·exact eJ K h pins s σ H xs us Q I r q
theorem rR (K:PySem.W.Frag) (h:X.K=K):cY X (.builtin "isinstance") (fun xs H Q=> ∃p ys,xs=[.ref p, .ty "list"]/\H p=some (.lst ys)/\Q (.bl true) H):=by
 subst h
 intro pins s σ H xs us Q I r h
 obtain ⟨p,ys,rfl,hq,q⟩:=h
 obtain ⟨u,w',rfl,r1,r2⟩:=vals2 r
 cases (show w'=Value.type "list" from r2)
 exact iP I r1 (.lst hq) (by unfold PySem.W.kitOne;rw[if_pos (by decide)]) fun tk=>⟨.bl true,H,I.tok _,rfl,q⟩
noncomputable def CF (K:PySem.W.Frag):V->List V->Hp->VK->Prop:=fun x vs H Q=> ∃(p:Addr) (l:List Nat) (c:Nat),x= .ref p/\vs=[.str (S [c])]/\H p=some (.lst (bX l))/\c∈l/\Q (.int (l.idxOf c:Nat)) H
theorem oX (K:PySem.W.Frag) (h:X.K=K):vS X "list.index" (CF K):=by
 subst h
 intro pins s σ H x vs v us Q I rx rv h
 obtain ⟨p,l,c,rfl,rfl,hH,hc,q⟩:=h
 cases rx
 obtain ⟨u,rfl,t',rfl⟩:=vals1 rv
 obtain ⟨z,az,n,r,hl,e⟩:=I.lg hH
 have hz:sizeLine<2 ^ 62:=by decide
 have hj:l.idxOf c<l.length:=List.idxOf_lt_length_of_mem hc
 have hlen:az.length=l.length:=by rw[<-hl];unfold bX;rw[List.length_map]
 have yX:l.length<=sizeLine:=by rw[<-hlen, <-hl];exact z
 have zU: ∀m (hm:m<az.toArray.size) (yY:m<l.length),rD (.str (S [c])) az.toArray[m]=decide (l[m]=c):=fun m hm yY=>by
  have h1:(bX l)[m]? =some (V.str (S [l[m]])):=by unfold bX;rw[List.getElem?_map,List.getElem?_eq_getElem yY];rfl
  obtain ⟨u,hu,ru⟩:=r.get h1
  have e1:az.toArray[m]=u:=by
   rw[List.getElem_toArray]
   exact Option.some.inj ((List.getElem?_eq_getElem _).symm.trans hu)
  rw[e1,ur ru rfl]
  show decide (S [l[m]]=S [c])=_
  refine decide_eq_decide.mpr ⟨fun z=>?_,fun z=>by rw[z]⟩
  have:=congrArg (fun x:Str=>x.cps.toList) z
  simpa [S]using this
 refine call_meets F.slot_list_index ⟨_,e,rfl⟩ F.entry_list_index (F.args_list_index_2 _ _) (SeqAt.list_indexAt p az.toArray n none #[] (.str (S [c]) t') (rD (.str (S [c]))) (l.idxOf c) (by rw[List.size_toArray];omega) (by omega) ?_ ?_) ⟨e,?_,?_⟩
 ·rw[zU _ _ hj];exact decide_eq_true (List.getElem_idxOf hj)
 ·intro m hm cN
  rw[zU m hm (by omega)]
  exact decide_eq_false fun z=>by
   have:=List.not_of_lt_findIdx (p:=fun x=>x==c) cN
   rw[z]at this
   simp at this
 ·intro w hw
  have fs:(bX l).all ip=true:=by
   rw[List.all_eq_true];intro v hv
   obtain ⟨d,_,rfl⟩:=List.mem_map.mp hv
   rfl
  exact gi (x:= .str (S [c])) (show RelV (.str (S [c])) _ from ⟨t',rfl⟩) rfl r fs w (by simpa using hw)
 ·exact ⟨.int (l.idxOf c:Nat),H,I.tok _,⟨_,rfl⟩,q⟩
end
end L2
namespace L2
open PySem PySem.Spec PyProof.Rows
section
variable {X:Cx}
noncomputable def Gr (K:PySem.W.Frag):List V->Hp->VK->Prop:=fun xs H Q=> ∃p ys,xs=[.ref p]/\((aJ K H p ys/\ ∀l,H l=none->Q (.ref l) (upd H l (.tup ys)))\/(aY K H p ys/\Q (.ref p) H))
theorem bh (K:PySem.W.Frag) (h:X.K=K):cY X (.type "tuple") (Gr K):=by subst h;exact nX
end
end L2
namespace L2
open PySem PySem.Spec PyProof.Rows
theorem rS {K:PySem.W.Frag} {a:Addr} {xs:List V} {σc:St} {g:TG} {tc:TT} {te:TE} {Q:VK} {H1:Hp} (Pv:Nat->List V->Hp->Prop) (hn:xs.length<sizeLine) (hl: ∀i acc H,Pv i acc H->aY K H a xs) (h0:Pv 0 [] H1)
  (hs: ∀(i:Nat) (x:V) (acc:List V) (H:Hp) (Nx:List V->Hp->Prop),i<xs.length->xs[i]? =some x->acc.length<=i->Pv i acc H->(∀bH H',bH.length<=i+1->Pv (i+1) bH H'->Nx bH H')->
   g x σc H fun σ2 H2=>Wk σc σ2/\tc σ2 H2 fun b H3=>if b=true then te σ2 H3 fun v H4=>Nx (acc++[v]) H4 else Nx acc H3)
  (hd: ∀acc H D,acc.length<=xs.length->Pv xs.length acc H->H D=none->Q (.ref D) (upd H D (.lst acc))):jK (Iu K a) σc g tc te Q H1:=
 lF (xs:=fun i x=>xs[i]? =some x) Pv hn (fun i acc H h p=>⟨xs,xs[i],hl i acc H p,by simp[h]⟩) (fun acc H p=>⟨xs,hl _ acc H p,Nat.le_refl _⟩) (fun i acc H x H' h p y=>⟨y.1,y.2 xs (hl i acc H p)⟩) h0 hs hd
theorem v8 (l a b:Nat):zD (.str (S [l])) [.str (S [a]), .str (S [b])]=(decide (l=a)||decide (l=b)):=by
 have key: ∀c:Nat,yT (.str (S [c])) (.str (S [l]))=decide (l=c):=fun c=>by
  show decide (S [c]=S [l])=_
  refine decide_eq_decide.mpr ⟨fun z=>?_,fun z=>by rw[z]⟩
  have:=congrArg (fun x:Str=>x.cps.toList) z
  simpa [S,eq_comm]using this
 unfold zD
 rw[List.any_cons,List.any_cons,List.any_nil,key,key,Bool.or_false]
theorem qp (e:Nat) (l:List Nat):zD (.str (S [e])) (bX l)=decide (e∈l):=by
 have key: ∀c:Nat,yT (.str (S [c])) (.str (S [e]))=decide (e=c):=fun c=>by
  show decide (S [c]=S [e])=_
  refine decide_eq_decide.mpr ⟨fun z=>?_,fun z=>by rw[z]⟩
  have:=congrArg (fun x:Str=>x.cps.toList) z
  simpa [S,eq_comm]using this
 unfold zD bX
 induction l with
 | nil=>rfl
 | cons c l ih=>
  rw[List.map_cons,List.any_cons,ih,key]
  by_cases z:e=c<;>simp[z]
noncomputable def aF (H H':Hp):Prop:= ∀c xs,H c=some (.tup xs)->H' c=some (.tup xs)
theorem aF.trans {H H1 H2:Hp} (a:aF H H1) (b:aF H1 H2):aF H H2:=fun c xs h=>b c xs (a c xs h)
theorem aF.of {H H':Hp} (s:ah H H'):aF H H':=fun c xs h=>s c _ h
theorem aF.hR {H:Hp} {p:Addr} {ys:List V} {o:HO} (h:H p=some (.lst ys)):aF H (upd H p o):=fun c xs e=>by
 rw[aj (fun z=>by rw[z,h]at e;cases e)];exact e
theorem aF.dm {H:Hp} {p:Addr} {o:HO} (h:H p=none):aF H (upd H p o):=fun c xs e=>by
 rw[aj (fun z=>by rw[z,h]at e;cases e)];exact e
end L2
namespace L2
open PySem PySem.Spec PyProof.Rows
section
variable {prog:Program} {w:World} {A:Around} {E:Value->Shared->Prop} {s:Shared}
noncomputable def Gs (h:Heap) (v:Value) (n:Int×Int):Prop:= ∃x ox t1 t2 m,v= .ref x/\h.get? x=some ox/\ox.cls= .type "tuple"/\ox.data= .seq #[.int n.1 t1, .int n.2 t2] m
noncomputable def CG (h:Heap):List Value->List (Int×Int)->Prop
 | [],[]=>True
 | v::vs,n::ns=>Gs h v n/\CG h vs ns
 | _,_=>False
end
section
variable {X:Cx}
noncomputable def PK (K:PySem.W.Frag) (H:Hp):List V->List (Int×Int)->Prop
 | [],[]=>True
 | v::vs,n::ns=>(∃t,v= .ref t/\aY K H t [.int n.1, .int n.2])/\PK K H vs ns
 | _,_=>False
end
end L2
namespace L2
open PySem PySem.Spec PyProof.Rows
section
variable {prog:Program} {w:World} {A:Around} {E:Value->Shared->Prop} {s:Shared}
noncomputable def TupAt (h:Heap) (k:Nat) (v:Value) (ns:List Int):Prop:= ∃x ox us m,v= .ref x/\h.get? x=some ox/\ox.cls= .type "tuple"/\ox.data= .seq us m/\IntsAre us.toList ns/\ns.length=k+1
noncomputable def Gu (h:Heap) (k:Nat):List Value->List (List Int)->Prop
 | [],[]=>True
 | v::vs,n::ns=>TupAt h k v n/\Gu h k vs ns
 | _,_=>False
end
section
variable {X:Cx}
noncomputable def PL (K:PySem.W.Frag) (H:Hp) (k:Nat):List V->List (List Int)->Prop
 | [],[]=>True
 | v::vs,n::ns=>(∃t,v= .ref t/\aY K H t (n.map V.int)/\n.length=k+1)/\PL K H k vs ns
 | _,_=>False
end
end L2
namespace HT
open PySem PySem.Spec PyProof.Rows
section
variable {prog:Program} {w:World} {A:Around} {E:Value->Shared->Prop} {s:Shared}
end
end HT
namespace L2
open PySem PySem.Spec PyProof.Rows
section
variable {X:Cx} {e st:Expr} {te:TE} {ts:TO} {pos p2:Pos}
end
end L2
namespace L2
open PySem PySem.Spec PyProof.Rows
section
variable {κ:Type} [DecidableEq κ]
noncomputable def cC (kvs:List (κ×V)) (k:κ):Option V:=(kvs.find? fun kv=>decide (kv.1=k)).map (·.2)
noncomputable def putK (kvs:List (κ×V)) (k:κ) (v:V):List (κ×V):=
 if (kvs.any fun kv=>decide (kv.1=k))=true then kvs.map (fun kv=>if kv.1=k then (kv.1,v) else kv) else kvs++[(k,v)]
noncomputable def V2 (kvs:List (κ×V)) (k:κ):List (κ×V):=kvs.filter fun kv=>decide (kv.1≠k)
theorem bR {p:κ×V} {r:List (κ×V)} {k:κ} (e:p.1=k):cC (p::r) k=some p.2:=by simp[cC,List.find?_cons,e]
theorem bz {p:κ×V} {r:List (κ×V)} {k:κ} (e: ¬p.1=k):cC (p::r) k=cC r k:=by simp[cC,List.find?_cons,e]
theorem fF (k:κ): ∀kvs:List (κ×V),(kvs.any fun kv=>decide (kv.1=k))=(cC kvs k).isSome
 | []=>rfl
 | p::r=>by
  rw[List.any_cons]
  by_cases e:p.1=k
  ·simp only[bR e,decide_eq_true e,Bool.true_or,Option.isSome_some]
  ·rw[bz e,decide_eq_false e,Bool.false_or];exact fF k r
theorem rT (k j:κ) (y:V): ∀kvs:List (κ×V),cC (kvs.map fun kv=>if kv.1=k then (kv.1,y) else kv) j=(cC kvs j).map fun x=>if j=k then y else x
 | []=>rfl
 | p::r=>by
  have ih:=rT k j y r
  rw[List.map_cons]
  by_cases h:p.1=k
  ·rw[if_pos h]
   by_cases e:p.1=j
   ·rw[bR (p:=(p.1,y)) e,bR e,Option.map_some,if_pos (e.symm.trans h)]
   ·rw[bz (p:=(p.1,y)) e,bz e,ih]
  ·rw[if_neg h]
   by_cases e:p.1=j
   ·rw[bR (p:=p) e,bR e,Option.map_some,if_neg (fun z=>h (e.trans z))]
   ·rw[bz (p:=p) e,bz e,ih]
theorem oY (k j:κ) (y:V): ∀kvs:List (κ×V),cC kvs k=none->cC (kvs++[(k,y)]) j=if j=k then some y else cC kvs j
 | [],_=>by
  by_cases e:k=j
  ·rw[if_pos e.symm];exact bR (p:=(k,y)) e
  ·rw[if_neg (fun z=>e z.symm)];exact bz (p:=(k,y)) e
 | p::r,hn=>by
  rw[List.cons_append]
  have hk: ¬p.1=k:=fun z=>by rw[bR z]at hn;cases hn
  rw[bz hk]at hn
  have ih:=oY k j y r hn
  by_cases e:p.1=j
  ·rw[bR e,bR e,if_neg (fun z=>hk (e.trans z))]
  ·rw[bz e,bz e,ih]
theorem jS (kvs:List (κ×V)) (k j:κ) (y:V):cC (putK kvs k y) j=if j=k then some y else cC kvs j:=by
 unfold putK
 by_cases a:(kvs.any fun kv=>decide (kv.1=k))=true
 ·rw[if_pos a,rT]
  rw[fF]at a
  by_cases e:j=k
  ·obtain ⟨x,hx⟩:=Option.isSome_iff_exists.mp a
   rw[if_pos e,e,hx,Option.map_some,if_pos rfl]
  ·rw[if_neg e]
   cases cC kvs j with
   | none=>rfl
   | some x=>rw[Option.map_some,if_neg e]
 ·rw[if_neg a]
  refine oY k j y kvs ?_
  rw[fF]at a
  cases q:cC kvs k with
  | none=>rfl
  | some x=>rw[q]at a;exact (a rfl).elim
theorem fS (kvs:List (κ×V)) (k:κ) (v:V):(putK kvs k v).length<=kvs.length+1:=by
 unfold putK
 split
 ·rw[List.length_map];omega
 ·rw[List.length_append,List.length_cons,List.length_nil];omega
theorem iC {kvs:List (κ×V)} {k:κ} (v:V) (h:cC kvs k=none):putK kvs k v=kvs++[(k,v)]:=by
 unfold putK
 rw[fF,h]
 exact if_neg (by decide)
theorem lN.kr {o:Option V} {u:Option Value} (r:lN o u):o.isSome=u.isSome:=by
 cases o with
 | none=>cases u with
  | none=>rfl
  | some _=>exact (show False from r).elim
 | some _=>cases u with
  | none=>exact (show False from r).elim
  | some _=>rfl
theorem KV.val {kvs:List (κ×V)} {vs:List (κ×Value)} (r:KV kvs vs) (k:κ):lN (cC kvs k) (valueAt vs k):=by
 unfold KV at r
 induction r with
 | nil=>exact True.intro
 | @cons p q ps qs h t ih=>
  obtain ⟨h1,h2⟩:=h
  by_cases e:p.1=k
  ·have e':q.1=k:=h1.symm.trans e
   have b:valueAt (q::qs) k=some q.2:=by simp[valueAt,List.find?_cons,e']
   rw[bR e,b];exact h2
  ·have e': ¬q.1=k:=fun z=>e (h1.trans z)
   have b:valueAt (q::qs) k=valueAt qs k:=by simp[valueAt,List.find?_cons,e']
   rw[bz e,b];exact ih
theorem KV.any {kvs:List (κ×V)} {vs:List (κ×Value)} (r:KV kvs vs) (k:κ):(kvs.any fun kv=>decide (kv.1=k))=vs.any fun kv=>decide (kv.1=k):=by
 unfold KV at r
 induction r with
 | nil=>rfl
 | cons h t ih=>rw[List.any_cons,List.any_cons,ih,h.1]
theorem KV.Gv {kvs:List (κ×V)} {vs:List (κ×Value)} (r:KV kvs vs) (k:κ) {y:V} {u:Value} (ry:RelV y u):
  KV (kvs.map fun kv=>if kv.1=k then (kv.1,y) else kv) (vs.map fun kv=>if kv.1=k then (kv.1,u) else kv):=by
 unfold KV at r ⊢
 induction r with
 | nil=>exact .nil
 | @cons p q ps qs h t ih=>
  rw[List.map_cons,List.map_cons]
  refine .cons ?_ ih
  obtain ⟨h1,h2⟩:=h
  by_cases e:p.1=k
  ·rw[if_pos e,if_pos (h1.symm.trans e)];exact ⟨h1,ry⟩
  ·rw[if_neg e,if_neg (fun z=>e (h1.trans z))];exact ⟨h1,h2⟩
theorem KV.put {kvs:List (κ×V)} {vs:List (κ×Value)} (r:KV kvs vs) (k:κ) {y:V} {u:Value} (ry:RelV y u):KV (putK kvs k y) (stored vs k u):=by
 unfold putK stored
 rw[r.any k]
 by_cases e:(vs.any fun kv=>decide (kv.1=k))=true
 ·rw[if_pos e,if_pos e];exact r.Gv k ry
 ·rw[if_neg e,if_neg e];exact Paired.snoc r ⟨rfl,ry⟩
theorem KV.keys {kvs:List (κ×V)} {vs:List (κ×Value)} (r:KV kvs vs):kvs.map (·.1)=vs.map (·.1):=by
 unfold KV at r
 induction r with
 | nil=>rfl
 | cons h t ih=>rw[List.map_cons,List.map_cons,ih,h.1]
theorem KV.length {kvs:List (κ×V)} {vs:List (κ×Value)} (r:KV kvs vs):kvs.length=vs.length:=Paired.length r
end
theorem rV {P:Program} {w:World} {k:Key} {u:Value} (r:RelV (kV k) u):(bJ P w).is k u=true:=by
 cases k with
 | inl i=>obtain ⟨t,e⟩:=(show ∃t,u=Value.int i t from r);subst e;exact rh P w i t
 | inr x=>obtain ⟨t,e⟩:=(show ∃t,u=Value.str x t from r);subst e;exact rj P w x t
theorem oZ {P:Program} {w:World}: ∀{ks:List Key} {us:List Value},Vals (ks.map kV) us->ItemsAre (bJ P w) ks us
 | [],_,r=>by rw[List.map_nil]at r;cases r;exact .nil
 | k::ks,_,r=>by
  rw[List.map_cons]at r
  cases r with
  | cons h t=>exact .cons (rV h) (oZ t)
noncomputable abbrev KT (H:Hp):List (List Key×V)->List (List Key×Addr×Value)->Prop:=Paired fun p q=>p.1=q.1/\H q.2.1=some (.tup (p.1.map kV))/\RelV p.2 q.2.2
theorem KT.val {H:Hp} {kvs:List (List Key×V)} {xs:List (List Key×Addr×Value)} (r:KT H kvs xs) (k:List Key):lN (cC kvs k) ((atKey xs k).map (·.2)):=by
 induction r with
 | nil=>exact True.intro
 | @cons p q ps qs h t ih=>
  obtain ⟨h1,_,h2⟩:=h
  by_cases e:p.1=k
  ·have e':q.1=k:=h1.symm.trans e
   have b:atKey (q::qs) k=some q.2:=by simp[atKey,List.find?_cons,e']
   rw[bR e,b];exact h2
  ·have e': ¬q.1=k:=fun z=>e (h1.trans z)
   have b:atKey (q::qs) k=atKey qs k:=by simp[atKey,List.find?_cons,e']
   rw[bz e,b];exact ih
theorem KT.Gv {H:Hp} {kvs:List (List Key×V)} {xs:List (List Key×Addr×Value)} (r:KT H kvs xs) (k:List Key) {y:V} {u:Value} (ry:RelV y u):
  KT H (kvs.map fun kv=>if kv.1=k then (kv.1,y) else kv) (xs.map (putAt k u)):=by
 induction r with
 | nil=>exact .nil
 | @cons p q ps qs h t ih=>
  rw[List.map_cons,List.map_cons]
  refine .cons ?_ ih
  obtain ⟨h1,h2,h3⟩:=h
  unfold putAt
  by_cases e:p.1=k
  ·rw[if_pos e,if_pos (h1.symm.trans e)];exact ⟨h1,h2,ry⟩
  ·rw[if_neg e,if_neg (fun z=>e (h1.trans z))];exact ⟨h1,h2,h3⟩
theorem KT.put {H:Hp} {kvs:List (List Key×V)} {xs:List (List Key×Addr×Value)} (r:KT H kvs xs) (k:List Key) {b:Addr} {y:V} {u:Value} (hb:H b=some (.tup (k.map kV))) (ry:RelV y u):
  KT H (putK kvs k y) (storedH xs k b u):=by
 have e:(kvs.any fun kv=>decide (kv.1=k))=(atKey xs k).isSome:=by
  rw[fF,(r.val k).kr,Option.isSome_map]
 unfold putK storedH
 rw[e]
 by_cases q:(atKey xs k).isSome=true
 ·rw[if_pos q,if_pos q];exact r.Gv k ry
 ·rw[if_neg q,if_neg q];exact Paired.snoc r ⟨rfl,hb,ry⟩
theorem KT.keeps {H H':Hp} {kvs:List (List Key×V)} {xs:List (List Key×Addr×Value)} (r:KT H kvs xs) (ht: ∀b ys,H b=some (.tup ys)->H' b=some (.tup ys)):KT H' kvs xs:=
 Paired.Fo r fun _ _ z=>⟨z.1,ht _ _ z.2.1,z.2.2⟩
section
variable {P:Program} {w:World} {H:Hp} {h:Heap} {a:Addr}
theorem Ep {u:HO} (ok:jm P w H h) (e:Rd H a u):cb P w H h a u:=e.ok ok
theorem v9 {kvs:List (Key×V)} (ok:jm P w H h) (e:Rd H a (.dK kvs)):kvs.length<=sizeLine/\(a==sysModules)=false/\ ∃vs,KV kvs vs/\h.DictOf (bJ P w) a vs:=
 show cb P w H h a (.dK kvs) from Ep ok e
theorem zV {kvs:List (Key×V)} (ok:jm P w H h) (e:H a=some (.dK kvs)):kvs.length<=sizeLine/\(a==sysModules)=false/\ ∃vs,KV kvs vs/\h.DictOf (bJ P w) a vs:=v9 ok (.inl e)
theorem qq {ks:List Key} (ok:jm P w H h) (e:H a=some (.tup (ks.map kV))):(tupleKind (bJ P w)).is h ks a:=by
 obtain ⟨_,az,r,o,h1,h2,n,h3⟩:=(show cb P w H h a (.tup (ks.map kV)) from ok a _ e)
 exact ⟨o,az.toArray,n,h1,h2,h3,by simpa using oZ r⟩
theorem rW {kvs:List (List Key×V)} (ok:jm P w H h) (e:Rd H a (.dT kvs)):kvs.length<=sizeLine/\(a==sysModules)=false/\
  ∃xs,KT H kvs xs/\h.DictOfH (tupleKind (bJ P w)) a xs:=by
 obtain ⟨z,y,xs,r,o,es,ep,h1,h2,h3,h4,h5⟩:=(show cb P w H h a (.dT kvs) from Ep ok e)
 refine ⟨z,y,xs,r,o,es,ep,h1,h2,h3,h4,fun x hx=>?_,h5⟩
 have all: ∀{l:List (List Key×V)} {m:List (List Key×Addr×Value)},KT H l m-> ∀x∈m,(tupleKind (bJ P w)).is h x.1 x.2.1:=by
  intro l m q
  induction q with
  | nil=>intro x hx;exact nomatch hx
  | @cons p q ps qs hq t ih=>
   intro x hx
   rcases List.mem_cons.mp hx with e | hx
   ·subst e
    exact qq ok (by rw[<-hq.1];exact hq.2.1)
   ·exact ih x hx
 exact all r x hx
theorem Kn {kvs:List (List Key×V)} (ok:jm P w H h) (e:H a=some (.dT kvs)):kvs.length<=sizeLine/\(a==sysModules)=false/\
  ∃xs,KT H kvs xs/\h.DictOfH (tupleKind (bJ P w)) a xs:=rW ok (.inl e)
end
noncomputable def df (H:Hp) (a:Addr) (y:V) (r:Option V):Prop:=
 (∃kvs k,Rd H a (.dK kvs)/\y=kV k/\r=cC kvs k)\/ ∃kvs k b,Rd H a (.dT kvs)/\y= .ref b/\H b=some (.tup (k.map kV))/\r=cC kvs k
noncomputable def mB (H:Hp) (a:Addr) (y v:V) (H':Hp):Prop:=
 (∃kvs k,H a=some (.dK kvs)/\y=kV k/\kvs.length<sizeLine/\H'=upd H a (.dK (putK kvs k v)))\/
 ∃kvs k b,H a=some (.dT kvs)/\y= .ref b/\H b=some (.tup (k.map kV))/\kvs.length<sizeLine/\H'=upd H a (.dT (putK kvs k v))
theorem df.k {H:Hp} {a:Addr} {kvs:List (Key×V)} {k:Key} (e:H a=some (.dK kvs)):df H a (kV k) (cC kvs k):= .inl ⟨kvs,k, .inl e,rfl,rfl⟩
theorem df.t {H:Hp} {a b:Addr} {kvs:List (List Key×V)} {k:List Key} (e:H a=some (.dT kvs)) (eb:H b=some (.tup (k.map kV))):df H a (.ref b) (cC kvs k):= .inr ⟨kvs,k,b, .inl e,rfl,eb,rfl⟩
theorem mB.k {H:Hp} {a:Addr} {kvs:List (Key×V)} {k:Key} {v:V} (e:H a=some (.dK kvs)) (hl:kvs.length<sizeLine):mB H a (kV k) v (upd H a (.dK (putK kvs k v))):= .inl ⟨kvs,k,e,rfl,hl,rfl⟩
theorem mB.t {H:Hp} {a b:Addr} {kvs:List (List Key×V)} {k:List Key} {v:V} (e:H a=some (.dT kvs)) (eb:H b=some (.tup (k.map kV))) (hl:kvs.length<sizeLine):
  mB H a (.ref b) v (upd H a (.dT (putK kvs k v))):= .inr ⟨kvs,k,b,e,rfl,eb,hl,rfl⟩
section
variable {X:Cx} {pins:List (Addr×Obj)} {σ:St} {H:Hp} {s:Shared} {a:Addr} {y v:V} {u r:Value} {o:Option V} {A:Around} {E:Value->Shared->Prop}
theorem Inv.big (I:Inv X pins σ H s):sysModules<s.heap.objs.size:=by
 have h:mainGlobals<s.heap.objs.size:=(I.mod.glob.keeps I.bk).lt
 exact Nat.lt_trans (by decide) h
theorem xC {Q:Value->Shared->Prop} (hu:A.units+1<cLine) (I:Inv X pins σ H s) (g:df H a y (some v)) (ry:RelV y u) (h: ∀w' s',Inv X pins σ H s'->RelV v w'->Q w' s'):
  wpAny (model X.prog X.w) A (getItem (.ref a) u) Q E s:=by
 rcases g with ⟨kvs,k,e,ey,l⟩ | ⟨kvs,k,b,e,ey,eb,l⟩
 ·subst ey
  obtain ⟨z,hd,vs,rel,dd⟩:=v9 I.bq e
  obtain ⟨w',hw,w_⟩:=lN.some_of (v:=v) (o:=valueAt vs k) (by rw[l];exact rel.val k)
  exact wpAny_getItem_of (rV ry) dd.mapOf hw (h w' _ (I.tok _) w_)
 ·subst ey
  cases (show u=Value.ref b from ry)
  obtain ⟨z,hd,xs,rel,dd⟩:=rW I.bq e
  obtain ⟨w',hw,w_⟩:=lN.some_of (v:=v) (o:=(atKey xs k).map (·.2)) (by rw[l];exact rel.val k)
  obtain ⟨p,hp,o3⟩:=Option.map_eq_some_iff.mp hw
  refine wpAny_getItem_heap (tupleKind_room_in1 hu) (qq I.bq eb) dd hp ?_
  rw[o3]
  exact h w' _ (I.tok _) w_
theorem CH {Q:Value->Shared->Prop} (hu:A.units+1<cLine) (I:Inv X pins σ H s) (g:df H a y o) (ry:RelV y u) (h: ∀s',Inv X pins σ H s'->Q (.bool (!o.isSome)) s'):
  wpAny (model X.prog X.w) A (compareOp .NotIn u (.ref a)) Q E s:=by
 rcases g with ⟨kvs,k,e,ey,l⟩ | ⟨kvs,k,b,e,ey,eb,l⟩
 ·subst ey
  obtain ⟨z,hd,vs,rel,dd⟩:=v9 I.bq e
  refine wpAny_notIn_of (rV ry) hd dd.mapOf ?_
  rw[<-(rel.val k).kr, <-l]
  exact h _ (I.tok _)
 ·subst ey
  cases (show u=Value.ref b from ry)
  obtain ⟨z,hd,xs,rel,dd⟩:=rW I.bq e
  refine wpAny_notIn_heap (tupleKind_room_in1 hu) (qq I.bq eb) hd dd ?_
  have q:=(rel.val k).kr
  rw[Option.isSome_map]at q
  rw[<-q, <-l]
  exact h _ (I.tok _)
theorem qr {h':Heap} {t':Nat} {ob:HO} (I:Inv X pins σ H s) (mu:Jo (H a)) (hs:Heap.SameBut a s.heap h') (he: ∃q,h'.get? a=some q) (new:cb X.prog X.w (upd H a ob) h' a ob):
  Inv X pins σ (upd H a ob) { s with heap:=h',toks:=t' }:=
 I.write (x:=a) (e:=a) mu (.inl rfl) (fun b q hb z=>(hs.2 b hb).trans z) he new
theorem zW {P:Program} {w:World} {H':Hp} {h':Heap} {kvs:List (Key×V)} {vs:List (Key×Value)} (z:kvs.length<=sizeLine) (hd:(a==sysModules)=false) (rel:KV kvs vs) (dd:h'.DictOf (bJ P w) a vs):
  cb P w H' h' a (.dK kvs):=⟨z,hd,vs,rel,dd⟩
theorem xD {H':Hp} {Q:Unit->Shared->Prop} (hu:A.units+1<cLine) (I:Inv X pins σ H s) (g:mB H a y v H') (ry:RelV y u) (rv:RelV v r) (h: ∀s',Inv X pins σ H' s'->Q () s'):
  wpAny (model X.prog X.w) A (setItem (.ref a) u r) Q E s:=by
 rcases g with ⟨kvs,k,e,ey,l,eH⟩ | ⟨kvs,k,b,e,ey,eb,l,eH⟩
 ·subst ey eH
  obtain ⟨z,hd,vs,rel,dd⟩:=zV I.bq e
  have hz:vs.length<=sizeLine:=by rw[<-rel.length];exact z
  have hl:(putK kvs k v).length<=sizeLine:=by have:=fS kvs k v;omega
  refine wpAny_setItem_pairs (hsz:=hz) (rV ry) dd fun h' Gw hs=>h _ ?_
  have he: ∃q,h'.get? a=some q:=let ⟨q,_,_,hq,_⟩:=Gw;⟨q,hq⟩
  exact qr I (by rw[e];exact True.intro) hs he (zW hl hd (rel.put k rv) Gw)
 ·subst ey eH
  cases (show u=Value.ref b from ry)
  obtain ⟨z,hd,xs,rel,dd⟩:=Kn I.bq e
  have hz:xs.length<=sizeLine:=by rw[<-Paired.length rel];exact z
  have hl:(putK kvs k v).length<=sizeLine:=by have:=fS kvs k v;omega
  refine wpAny_setItem_heap (hsz:=hz) (tupleKind_room_in1 hu) (qq I.bq eb) dd fun h' Gw hs=>h _ ?_
  obtain ⟨q,es,ep,hq,h2,h3,h4,_,h5⟩:=Gw
  refine qr I (by rw[e];exact True.intro) hs ⟨q,hq⟩ ⟨hl,hd,_,(rel.put k eb rv).keeps fun c ys ec=>?_,q,es,ep,hq,h2,h3,h4,h5⟩
  rw[aj (Jn ec e (fun z=>nomatch z))]
  exact ec
end
section
variable {X:Cx} {pins:List (Addr×Obj)} {σ:St} {H:Hp} {s:Shared} {a:Addr} {kvs:List (Key×V)} {k:Key} {u:Value} {A:Around} {E:Value->Shared->Prop}
end
noncomputable def Ko (i:Expr):Prop:= ∀ov iv,subscripted i false ov iv=operate [ov,iv] (getItem ov iv)
theorem CI {prog:Program} {w:World} {A:Around} {E:Value->Shared->Prop} {s:Shared} {env:Env} {value slice:Expr} {pos:Pos} {T id:String} {Q:Value->Shared->Prop}
  (hl:typeLookup (.type T) "__getitem__"=pure (some (.builtin id))) (hs:Ko slice)
  (h:wpAny (model prog w) A (eval value env) (fun o s₁=>wpAny (model prog w) A (eval slice env) (fun i s₂=>s₂.TypeIs o T/\wpAny (model prog w) A (getItem o i) Q E s₂) E s₁) E s):
  wpAny (model prog w) A (eval (.Subscript value slice pos) env) Q E s:=by
 refine Subscript_ (wpAny_mono h (fun o s₁ h₁=>wpAny_mono h₁ (fun i s₂ h₂=>?_) fun _ _ x=>x) fun _ _ x=>x)
 obtain ⟨hT,h₂⟩:=h₂
 unfold subscriptTail
 refine wpAny_bind ?_
 rw[getitemInPython_of_ne hT.not_modules]
 refine wpAny_bind (wpAny_specialOf hT hl ?_)
 have fin:wpAny (model prog w) A (subscripted slice false o i) (fun r s₃=>wpAny (model prog w) A (letTemporaryGo value o r >>= fun _=>pure r) Q E s₃) E s₂:=by
  rw[hs o i]
  exact wpAny_operating (wpAny_mono h₂ (fun r s₃ h₃=>wpAny_bind (wpAny_letTemporaryGo (wpAny_pure h₃))) fun _ _ x=>x)
 first
  | exact wpAny_pure (wpAny_bind fin)
  | exact wpAny_bind (wpAny_pure (wpAny_bind fin))
  | exact wpAny_bind fin
theorem rX {X:Cx} {pins:List (Addr×Obj)} {σ:St} {H:Hp} {s:Shared} {a:Addr} {y:V} {o:Option V} (I:Inv X pins σ H s) (g:df H a y o):s.TypeIs (.ref a) "dict":=by
 rcases g with ⟨kvs,k,e,_,_⟩ | ⟨kvs,k,b,e,_,_,_⟩
 ·obtain ⟨_,_,vs,_,dd⟩:=v9 I.bq e
  exact dd.typeIs
 ·obtain ⟨_,_,xs,_,dd⟩:=rW I.bq e
  exact dd.typeIs
noncomputable def Kp (td ty:TE):TE:=fun σ H Q=>td σ H fun x H1=>ty σ H1 fun y H2=> ∃a v,x= .ref a/\df H2 a y (some v)/\Q v H2
noncomputable def CJ (ty td:TE):TE:=fun σ H Q=>ty σ H fun y H1=>td σ H1 fun x H2=> ∃a o,x= .ref a/\df H2 a y o/\Q (.bl (!o.isSome)) H2
noncomputable def Kq (td ty tv:TE):TS:=fun D σ H=>tv σ H fun v H1=>td σ H1 fun x H2=>ty σ H2 fun y H3=> ∃a H4,x= .ref a/\mB H3 a y v H4/\D.nx σ H4
section
variable {X:Cx} {o i e value:Expr} {pos pos' OX:Pos} {td ty tv:TE}
theorem bV (hu:X.A.units+1<cLine) (ho:PE X o td) (hi:PE X i ty) (hs:Ko i):PE X (.Subscript o i pos) (Kp td ty):=by
 intro pins s σ H Q I h
 refine CI PySem.F.slot_dict_getitem.lookup hs (bU (ho pins s σ H _ I h) fun u s1 ⟨x,H1,I1,rx,q1⟩=>bU (hi pins s1 σ H1 _ I1 q1) fun iv s2 ⟨y,H2,I2,ry,a,v,ex,g,q2⟩=>?_)
 subst ex
 obtain rfl:u=Value.ref a:=rx
 exact ⟨rX I2 g,xC hu I2 g ry fun w' s3 I3 w_=>⟨v,H2,I3,w_,q2⟩⟩
theorem xE (hu:X.A.units+1<cLine) (hi:PE X i ty) (ho:PE X o td):PC X .NotIn i o (CJ ty td):=by
 intro pins s σ H Q I h
 refine bU (hi pins s σ H _ I h) fun iv s1 ⟨y,H1,I1,ry,q1⟩=>bU (ho pins s1 σ H1 _ I1 q1) fun u s2 ⟨x,H2,I2,rx,a,ov,ex,g,q2⟩=>?_
 subst ex
 obtain rfl:u=Value.ref a:=rx
 exact CH hu I2 g ry fun s3 I3=>⟨.bl (!ov.isSome),H2,I3,rfl,q2⟩
theorem jT (hu:X.A.units+1<cLine) (ho:PE X o td) (hi:PE X i ty) (hv:PE X value tv) (hs:swapsWith value (some (.Subscript o i pos')) pos.line X.env=pure false):
  PS X (.Assign [.Subscript o i pos'] value pos) (Kq td ty tv):=by
 intro pins s σ H D I h
 refine wpAny_Assign_Subscript (bU (hv pins s σ H _ I h) fun r s1 ⟨v,H1,I1,rv,q1⟩=>bU (ho pins s1 σ H1 _ I1 q1) fun u s2 ⟨x,H2,I2,rx,q2⟩=>bU (hi pins s2 σ H2 _ I2 q2) fun iv s3 ⟨y,H3,I3,ry,a,H4,ex,g,q3⟩=>?_) hs
 subst ex
 obtain rfl:u=Value.ref a:=rx
 exact xD hu I3 g ry rv fun s4 I4=>⟨σ,H4,I4,q3⟩
end
theorem rY {P:Program} {w:World} {H:Hp} (h:Heap) (hb:sysModules<h.objs.size):cb P w H (h.push { cls:= .type "dict",data:= .dict #[] }) h.objs.size (.dK []):=
 ⟨Nat.zero_le _,beq_eq_false_iff_ne.mpr (Ne.symm (Nat.ne_of_lt hb)),[], .nil,Heap.DictOf.new h⟩
theorem zX {P:Program} {w:World} {H:Hp} (h:Heap) (hb:sysModules<h.objs.size):cb P w H (h.push { cls:= .type "dict",data:= .dict #[] }) h.objs.size (.dT []):=
 ⟨Nat.zero_le _,beq_eq_false_iff_ne.mpr (Ne.symm (Nat.ne_of_lt hb)),[], .nil,_, #[],0,Heap.get?_push_size _ rfl,⟨rfl,rfl,rfl⟩,rfl,rfl,List.nodup_nil⟩
noncomputable def Gx:TE:=fun _ H Q=> ∀p,H p=none->Q (.ref p) (upd H p (.dK []))
noncomputable def Gy:TE:=fun _ H Q=> ∀p,H p=none->Q (.ref p) (upd H p (.dT []))
section
variable {X:Cx} {pos:Pos}
theorem rZ:PE X (.Dict [] [] pos) Gx:=fun pins s σ H Q I h=>
 wpAny_Dict_empty ⟨.ref s.heap.objs.size,_,I.laid (a:=s.heap.objs.size) (o:= .dK []) (t':=s.toks) (fun _ _ q=>Heap.get?_push_of_some _ q) (Nat.le_refl _) (rY s.heap I.big),rfl,h _ (I.bq.fresh (Nat.le_refl _))⟩
theorem zY:PE X (.Dict [] [] pos) Gy:=fun pins s σ H Q I h=>
 wpAny_Dict_empty ⟨.ref s.heap.objs.size,_,I.laid (a:=s.heap.objs.size) (o:= .dT []) (t':=s.toks) (fun _ _ q=>Heap.get?_push_of_some _ q) (Nat.le_refl _) (zX s.heap I.big),rfl,h _ (I.bq.fresh (Nat.le_refl _))⟩
end
noncomputable def uO:List (TE×TE)->St->Hp->(List (V×V)->Hp->Prop)->Prop
 | [],_,H,Q=>Q [] H
 |(tk,tv)::r,σ,H,Q=>tk σ H fun x H1=>tv σ H1 fun y H2=>uO r σ H2 fun ps H3=>Q ((x,y)::ps) H3
noncomputable abbrev VV:List (V×V)->List (Value×Value)->Prop:=Paired fun p q=>RelV p.1 q.1/\RelV p.2 q.2
noncomputable def MO (X:Cx) (pos:Pos) (keys:List (Option Expr)) (values:List Expr) (CK:List (TE×TE)):Prop:=
 ∀(pins:List (Addr×Obj)) (s:Shared) (σ:St) (H:Hp) (Q:List (V×V)->Hp->Prop),Inv X pins σ H s->uO CK σ H Q->
  wpAny (model X.prog X.w) X.A (evalPairs (pairTrees keys values X.env pos)) (fun vs s'=> ∃ps H',Inv X pins σ H' s'/\VV ps vs/\Q ps H') X.xe s
theorem CL {X:Cx} {pos:Pos}:MO X pos [] [] []:=fun pins s σ H Q I h=>pairTrees_nil_walk ⟨[],H,I, .nil,h⟩
theorem mC {X:Cx} {pos:Pos} {k v:Expr} {ks:List (Option Expr)} {vs:List Expr} {tk tv:TE} {CK:List (TE×TE)} (hk:PE X k tk) (hv:PE X v tv) (hr:MO X pos ks vs CK):
  MO X pos (some k::ks) (v::vs) ((tk,tv)::CK):=fun pins s σ H Q I h=>
 pairTrees_cons_walk (bU (hk pins s σ H _ I h) fun u s1 ⟨x,H1,I1,rx,q1⟩=>bU (hv pins s1 σ H1 _ I1 q1) fun w2 s2 ⟨y,H2,I2,ry,q2⟩=>
  bU (hr pins s2 σ H2 _ I2 q2) fun ws s3 ⟨ps,H3,I3,rel,q3⟩=>⟨(x,y)::ps,H3,I3, .cons ⟨rx,ry⟩ rel,q3⟩)
noncomputable def iD (kvs more:List (Key×V)):List (Key×V):=more.foldl (fun acc kv=>putK acc kv.1 kv.2) kvs
theorem KV.merge: ∀{more:List (Key×V)} {rs:List (Key×Value)} {kvs:List (Key×V)} {vs:List (Key×Value)},KV more rs->KV kvs vs->KV (iD kvs more) (merged vs rs):=by
 intro more rs kvs vs r
 unfold KV at r
 induction r generalizing kvs vs with
 | nil=>intro q;exact q
 | @cons p q ps qs h t ih=>
  intro r0
  have e:KV (putK kvs p.1 p.2) (stored vs q.1 q.2):=by
   have:=r0.put p.1 h.2
   rw[<-h.1];exact this
  exact ih e
theorem jh: ∀(more kvs:List (Key×V)),(iD kvs more).length<=kvs.length+more.length
 | [],kvs=>by show kvs.length<=kvs.length+0;omega
 | p::r,kvs=>by
  have h1:=jh r (putK kvs p.1 p.2)
  have h2:=fS kvs p.1 p.2
  show (iD (putK kvs p.1 p.2) r).length<=_
  rw[List.length_cons];omega
theorem mD {P:Program} {w:World}: ∀{kvs:List (Key×V)} {ws:List (Value×Value)},VV (kvs.map fun kv=>(kV kv.1,kv.2)) ws-> ∃rs,Carries (bJ P w) ws rs/\KV kvs rs
 | [],_,r=>by rw[List.map_nil]at r;cases r;exact ⟨[],True.intro, .nil⟩
 | p::kvs,_,r=>by
  rw[List.map_cons]at r
  cases r with
  | @cons a b as bs h t=>
   obtain ⟨rs,c,q⟩:=mD (P:=P) (w:=w) t
   obtain ⟨b1,b2⟩:=b
   exact ⟨(p.1,b2)::rs,⟨rV h.1,rfl,c⟩, .cons ⟨rfl,h.2⟩ q⟩
noncomputable def Kr (CK:List (TE×TE)):TE:=fun σ H Q=> ∀p,H p=none->uO CK σ (upd H p (.dK [])) fun ps H2=>H2 p=some (.dK [])/\ ∃kvs:List (Key×V),ps=kvs.map (fun kv=>(kV kv.1,kv.2))/\kvs.length<=15/\Q (.ref p) (upd H2 p (.dK (iD [] kvs)))
theorem CM {X:Cx} {pos:Pos} {keys:List (Option Expr)} {values:List Expr} {CK:List (TE×TE)} (h:MO X pos keys values CK) (jn:keys.all (·.isSome)=true) (hl:keys.length=values.length) (h0:keys≠[])
  (X_:keys.length<=15):PE X (.Dict keys values pos) (Kr CK):=by
 intro pins s σ H Q I q
 have hn:=I.bq.fresh (Nat.le_refl s.heap.objs.size)
 have I1:=I.laid (a:=s.heap.objs.size) (o:= .dK []) (h':=s.heap.push { cls:= .type "dict",data:= .dict #[] }) (t':=s.toks) (fun _ _ q=>Heap.get?_push_of_some _ q) (Nat.le_refl _) (rY s.heap I.big)
 refine wpAny_Dict_walk (knd:=bJ X.prog X.w) jn hl h0 X_ (bU (h pins _ σ _ _ I1 (q _ hn)) fun ws s2 ⟨ps,H2,I2,rel,e,kvs,ep,lk,q2⟩=>?_)
 subst ep
 obtain ⟨rs,c,rk⟩:=mD (P:=X.prog) (w:=X.w) rel
 obtain ⟨z,hd,vs0,r0,dd⟩:=zV I2.bq e
 cases r0
 refine ⟨rs,c,dd,fun h' Gw hs=>⟨.ref s.heap.objs.size,_,?_,rfl,q2⟩⟩
 have hz:(iD [] kvs).length<=sizeLine:=by
  have h1:=jh kvs []
  rw[List.length_nil]at h1
  rw[sizeLine_eq];omega
 have he: ∃q,h'.get? s.heap.objs.size=some q:=let ⟨q,_,_,hq,_⟩:=Gw;⟨q,hq⟩
 exact qr I2 (by rw[e];exact True.intro) hs he (zW hz hd (rk.merge .nil) Gw)
structure M1 (X:Cx) (o:Expr) (m:Str) (apos:Pos) (e:Expr) (dS:Pos):Prop where
 base:attributeBase o m X.env (eval o X.env)=eval o X.env
 ke:((backTo dS (starEach [e] X.env)).all (fun x=>!x.1)&&(backToKw dS (keywordEach [] X.env)).all (fun x=>x.1.isSome)
  &&decide (([e]:List Expr).length+([]:List Keyword).length+(if ([]:List Keyword).isEmpty then 0 else 1)<30))=true
 line:(apos.endLine==dS.line)=true
 trees:backTo dS (starEach [e] X.env)=[(false,eval e X.env)]
structure M2 (X:Cx) (o:Expr) (m:Str) (apos:Pos) (e f:Expr) (dS:Pos):Prop where
 base:attributeBase o m X.env (eval o X.env)=eval o X.env
 ke:((backTo dS (starEach [e,f] X.env)).all (fun x=>!x.1)&&(backToKw dS (keywordEach [] X.env)).all (fun x=>x.1.isSome)
  &&decide (([e,f]:List Expr).length+([]:List Keyword).length+(if ([]:List Keyword).isEmpty then 0 else 1)<30))=true
 line:(apos.endLine==dS.line)=true
 trees:backTo dS (starEach [e,f] X.env)=[(false,eval e X.env),(false,eval f X.env)]
section
variable {X:Cx} {pins:List (Addr×Obj)} {σ:St} {H:Hp} {s:Shared} {a:Addr} {y d:V} {u r:Value} {o:Option V} {A:Around} {E:Value->Shared->Prop}
end
section
variable {X:Cx} {o e f:Expr} {apos dS:Pos} {td ty tx:TE}
end
section
variable {X:Cx} {pins:List (Addr×Obj)} {σ:St} {H:Hp} {s:Shared} {a:Addr} {kvs:List (Key×V)} {A:Around} {E:Value->Shared->Prop}
end
section
variable {X:Cx} {pins:List (Addr×Obj)} {σ:St} {H:Hp} {s:Shared} {a:Addr} {y:V} {u:Value} {A:Around} {E:Value->Shared->Prop}
end
end L2
namespace L2
open PySem PySem.Spec PyProof.Rows
section
variable {prog:Program} {w:World} {A:Around} {E:Value->Shared->Prop} {s:Shared}
theorem r6 {d:Addr} {o:Obj} {es:Array DictEntry} {ep:Nat} {Q:Value->Shared->Prop} (hd:(d==sysModules)=false) (ho:s.heap.get? d=some o) (hx:o.ExactDict) (Gz:o.data= .dict es ep) (JX:(es.size:Int)<2 ^ 63)
  (q: ∀tk MP,Q (.int es.size tk) { s with toks:=MP }):wpAny (model prog w) A (call (.builtin "len") [.ref d]) Q E s:=by
 have BJ:s.TypeIs (.ref d) "dict":=⟨o,ho,hx.1⟩
 refine Calls.call_function_entry kind_len plain_len entry_len (args_len1 _) ?_
 unfold Builtin.«len»
 refine wpAny_bind (m:=oneArg "len" _) (wpAny_pure (wpAny_bind (m:=callSpecial? (.ref d) (Str.ofString "__len__")) (wpAny_callSpecial?_slot (name:=Str.ofString "__len__") BJ F.slot_dict_len (wpAny_call_entry F.slot_dict_len BJ F.entry_dict_len ?_ (F.args_dict_len_1 _)))))
 show wpAny _ _ (dictSize d >>= fun x=>Builtin.Dict.pendingCount d >>= fun y=>_) _ _ s
 unfold dictSize
 refine wpAny_bind (wpAny_bind (wpAny_dictEntries ho Gz (wpAny_pure (wpAny_bind (wpAny_pendingCount_other hd ?_)))))
 refine wpAny_bind (wpAny_mkInt (wpAny_pure ⟨_,rfl,?_⟩))
 rw[Nat.add_zero]
 refine wpAny_bind (wpAny_holding (wpAny_pure (wpAny_bind (wpAny_letGo ?_))))
 show wpAny _ _ (if ((es.size:Nat):Int)<0 then _ else _) _ _ _
 rw[if_neg (by omega)]
 show wpAny _ _ (if ((es.size:Nat):Int) ≥ 2 ^ 63 then _ else _) _ _ _
 rw[if_neg (by omega)]
 exact wpAny_bind (wpAny_mkInt (wpAny_pure ⟨_,rfl,q _ _⟩))
end
section
variable {X:Cx}
theorem KT.len {H:Hp}: ∀{kvs:List (List Key×V)} {xs:List (List Key×Addr×Value)},KT H kvs xs->xs.length=kvs.length
 | _,_, .nil=>rfl
 | _,_, .cons _ t=>congrArg (· +1) (KT.len t)
theorem o5:cY X (.builtin "len") (fun xs H Q=> ∃a kvs,xs=[V.ref a]/\H a=some (.dT kvs)/\Q (.int kvs.length) H):=by
 intro pins s σ H xs us Q I r h
 obtain ⟨a,kvs,rfl,ha,q⟩:=h
 obtain ⟨u,rfl,ru⟩:=vals1 r
 cases ru
 obtain ⟨z,hd,ys,rel,o,es,ep,h1,h2,h3,h4,_⟩:=rW I.bq (.inl ha)
 have e:es.size=kvs.length:=by
  rw[<-KT.len rel, <-Array.length_toList,h4,List.length_map]
 have hl:(sizeLine:Int)<2 ^ 62:=by decide
 refine r6 hd h1 h2 h3 (by rw[e];omega) fun tk MP=>?_
 rw[e]
 exact ⟨.int kvs.length,H,I.tok _,⟨_,rfl⟩,q⟩
end
end L2
set_option maxHeartbeats 1000000
namespace L2
open PySem PySem.Spec PyProof.Rows
section
variable {prog:Program} {w:World} {KK:Type} [DecidableEq KK] {knd:KeyKind prog w KK}
end
section
variable {X:Cx}
end
end L2
set_option maxHeartbeats 1000000
namespace L2.F2
open PySem PySem.Spec PyProof.Rows
end L2.F2
namespace L2
open PySem PySem.Spec PyProof.Rows
section
variable {prog:Program} {w:World} {A:Around} {E:Value->Shared->Prop} {s:Shared}
end
section
variable {X:Cx}
end
end L2
set_option maxHeartbeats 1000000
namespace L2
open PySem PySem.Spec PyProof.Rows
section
variable {prog:Program} {w:World} {A:Around} {E:Value->Shared->Prop} {s:Shared}
theorem mE {h h':Heap} {l b:Addr} {items:Array Value} (x:h.IsList l items) (k:Heap.ExtBut b h h') (n:l≠b):h'.IsList l items:=let ⟨o,ho,r⟩:=x;⟨o,k l o n ho,r⟩
theorem o6 {it l:Addr} {items:Array Value} (hU:l≠it): ∀(n i:Nat) (s:Shared) (Q:List Value->Shared->Prop),s.heap.IsListIter it l i->s.heap.IsList l items->i+n<=items.size->
  (∀h',h'.IsListIter it l (i+n)->Heap.SameBut it s.heap h'->Q ((items.toList.drop i).take n) { s with heap:=h' })->wpAny (model prog w) A (draw (.ref it) n) Q E s
 | 0,i,s,Q,hit,_,_,hQ=>by
  show wpAny _ _ (pure []) Q E s
  exact wpAny_pure (by simpa using hQ s.heap hit (Heap.SameBut.refl ..))
 | n+1,i,s,Q,hit,ht,hle,hQ=>by
  have cN:i<items.size:=by omega
  show wpAny _ _ (pyNext (.ref it) >>= _) Q E s
  refine wpAny_bind (wpAny_pyNext_list_item hit ht (x:=items[i]) (by simp[cN]) fun h₁ GA Ks=>?_)
  refine wpAny_bind (wpAny_holding (o6 hU n (i+1) _ _ GA (mE ht Ks.extBut hU) (by omega) fun h₂ PM Ya=>wpAny_pure ?_))
  have hd:items.toList.drop i=items[i]::items.toList.drop (i+1):=by simp[List.drop_eq_getElem_cons,cN]
  have:=hQ h₂ (by rw[show i+(n+1)=i+1+n by omega];exact PM) (Ks.trans Ya)
  rw[hd,List.take_succ_cons]at this
  exact this
theorem ku {t:Addr} {items:Array Value} {Q:List Value->Shared->Prop} (hh:A.handled=none) (ht:s.heap.IsList t items)
  (hQ: ∀h',Heap.ExtBut s.heap.objs.size s.heap h'->Q items.toList { s with heap:=h' }):wpAny (model prog w) A (unpackItems (.ref t) items.size none) Q E s:=by
 have cN:t≠s.heap.objs.size:=by obtain ⟨o,ho,_⟩:=ht;exact Nat.ne_of_lt (Heap.lt_size ho)
 have hT:s.TypeIs (.ref t) "list":=let ⟨o,ho,hc,_⟩:=ht;⟨o,ho,hc⟩
 unfold unpackItems
 refine wpAny_bind ?_
 unfold notIterableAtAll
 refine wpAny_bind (wpAny_specialOf hT PySem.F.slot_list_iter.lookup ?_)
 refine wpAny_pure ?_
 simp only[Bool.false_eq_true,if_false]
 refine wpAny_bind (wpAny_holding (wpAny_pyIter_list ht ?_))
 have V3: ∀o:Obj,(s.heap.push o).IsList t items:=fun o=>let ⟨ob,ho,r⟩:=ht;⟨ob,Heap.get?_push_of_some _ ho,r⟩
 refine wpAny_bind (wpAny_holding (o6 cN items.size 0 _ _ ⟨_,Heap.get?_push_size _ rfl,rfl,rfl⟩ (V3 _) (by omega) fun h₁ GA Ks=>?_))
 have jn:List.take items.size (List.drop 0 items.toList)=items.toList:=by
  rw[List.drop_zero];exact List.take_of_length_le (by simp)
 rw[jn]
 rw[if_neg (by simp)]
 have Yb:h₁.IsList t items:=mE (V3 _) Ks.extBut cN
 refine wpAny_bind (wpAny_holding (wpAny_pyNext_list_end hh GA Yb (by simp) fun h₂ Yc=>?_))
 simp only[Option.isSome_none,Bool.false_eq_true,if_false]
 refine wpAny_pure (hQ h₂ fun b o hb e=>Yc b o hb (Ks.extBut b o hb (Heap.get?_push_of_some _ e)))
theorem jU {env:Env} {elts:List Expr} {x1} {pos:Pos} {t:Addr} {items:Array Value} {Q:Unit->Shared->Prop} (hh:A.handled=none) (ht:s.heap.IsList t items)
  (hn:(assignEach elts env).length=items.size) (Kt:(assignEach elts env).findIdx? (·.1)=none)
  (h: ∀h',Heap.ExtBut s.heap.objs.size s.heap h'->wpAny (model prog w) A (assignInOrder ((assignEach elts env).map (·.2)) items.toList) Q E { s with heap:=h' }):
  wpAny (model prog w) A (assign (.Tuple elts x1 pos) env (.ref t)) Q E s:=by
 rw[assign_Tuple]
 refine wpAny_bind (wpAny_standAt ?_)
 unfold unpack
 rw[hn,Kt]
 exact wpAny_bind (wpAny_holding (ku hh ht h))
end
section
variable {X:Cx}
noncomputable def PN (K:PySem.W.Frag) (n:Nat) (t:BH):TG:=fun v σ H Q=> ∃a xs,v= .ref a/\aJ K H a xs/\xs.length=n/\t xs σ H Q
theorem v_ (K:PySem.W.Frag) (h:X.K=K) {es:List Expr} {k:Nat} {t:BH} {n:Nat} {pos:Pos} (hc:X.calm=true) (hs:Ip X es t)
  (hn:(assignEach es X.env).length=n:=by rfl) (JD:(assignEach es X.env).findIdx? (·.1)=none:=by rfl):PG X (.Tuple es k pos) (PN K n t):=by
 subst h
 intro pins s σ H v u Q I r hw
 obtain ⟨a,xs,e1,hq,hl,hw⟩:=hw
 subst e1
 cases r
 obtain ⟨az,rv,ht,hz⟩:=I.list hq
 refine jU (I.ok.hd hc) ht.isList (by simp[hn, <-hl,rv.length]) JD fun h' hx=>?_
 have I1:Inv X pins σ H { s with heap:=h' }:=I.kept (t':=s.toks) fun b o e=>hx b o (Nat.ne_of_lt (Heap.lt_size e)) e
 exact hs pins _ σ H xs _ Q I1 (by simpa using rv) hw
end
end L2
set_option maxHeartbeats 2000000
namespace L2
open PySem PySem.Spec PyProof.Rows
section
variable {prog:Program} {w:World} {A:Around} {E:Value->Shared->Prop} {s:Shared}
end
section
variable {X:Cx}
end
noncomputable def dd {α:Type} [DecidableEq α]:List α->List α->List α
 | σ,[]=>σ
 | σ,x::l=>dd (if x∈σ then σ else σ++[x]) l
section
variable {prog:Program} {w:World} {A:Around} {E:Value->Shared->Prop} {s:Shared}
noncomputable abbrev Ye (prog:Program) (w:World) (h:Heap) (a:Addr) (l:List Str):Prop:=h.SetOf (strKind prog w) a (fun k=>decide (k∈dd [] l)) (dd [] l).length
end
section
variable {prog:Program} {w:World} {A:Around} {E:Value->Shared->Prop} {s:Shared}
end
section
variable {X:Cx}
noncomputable def CN (q:Addr) (n:Nat):HO:= .ext fun h=> ∃(o:Obj) (es:Array (Int×Value)) (ep:Nat) (t:SetTable),h.get? q=some o/\o.ExactSet/\o.data= .set es ep t/\t.fits es.size=true/\es.size=n
end
end L2
namespace L2
open PySem PySem.Spec PyProof.Rows
section
variable {prog:Program} {w:World} {A:Around} {E:Value->Shared->Prop} {s:Shared}
noncomputable def Ku (h:Heap) (k:Nat) (v:Value) (ns:List Int):Prop:= ∃x ox us m is z t,v= .ref x/\h.get? x=some ox/\ox.cls= .type "tuple"/\ox.data= .seq us m/\us.toList=is++[.str z t]/\IntsAre is ns/\ns.length=k+1
noncomputable def GB (h:Heap) (k:Nat):List Value->List (List Int)->Prop
 | [],[]=>True
 | v::vs,n::ns=>Ku h k v n/\GB h k vs ns
 | _,_=>False
end
section
variable {X:Cx}
noncomputable def PQ (K:PySem.W.Frag) (H:Hp) (k:Nat):List V->List (List Int)->Prop
 | [],[]=>True
 | v::vs,n::ns=>(∃t z,v= .ref t/\aY K H t (n.map V.int++[.str z])/\n.length=k+1)/\PQ K H k vs ns
 | _,_=>False
end
section
variable {X:Cx}
end
end L2
namespace L2
open PySem PySem.Spec PyProof.Rows
section
variable {X:Cx} {st:Stmt} {rest:List Stmt} {t u:TS}
end
end L2
namespace L2
open PySem PySem.Spec PyProof.Rows
section
variable {X:Cx}
end
end L2
namespace L2
open PySem PySem.Spec PyProof.Rows
section
variable {X:Cx}
end
section
variable {prog:Program} {w:World} {A:Around} {E:Value->Shared->Prop} {s:Shared}
structure ZA (z TI TO i1 i2:Addr) (f1 f2:List Addr):Prop where
 m1:i1∈f1
 m2:i2∈f2
 z1:z∉f1
 z2:z∉f2
 o1:TO∉f1
 o2:TO∉f2
 c1:i1∉f2
 c2:i2∉f1
 tz:TI≠z
 tt:TI≠TO
 t1:TI≠i1
 t2:TI≠i2
 oz:TO≠z
theorem nm {a b:Addr} {f:List Addr} (h:a∈f) (n:b∉f):a≠b:=fun z=>n (z▸h)
section
variable {z TI TO i1 i2:Addr} {f1 f2:List Addr} {n1 n2 i:Nat} {P1 P2:Nat->Value->Prop} {S1 S2:Nat->Heap->Prop} {a b:Value}
theorem xF {Q:Value->Shared->Prop} (D1:Draws prog w A i1 f1 n1 P1 S1) (D2:Draws prog w A i2 f2 n2 P2 S2) (Z:ZA z TI TO i1 i2 f1 f2)
  (hz:IsZip s.heap z TI TO .none) (t_:IsPair s.heap TI (.ref i1) (.ref i2)) (BL:IsPair s.heap TO a b) (h1:S1 i s.heap) (h2:S2 i s.heap) (l1:i<n1) (l2:i<n2)
  (hQ: ∀x y h' tk,P1 i x->P2 i y->IsZip h' z TI TO (rawInt s.heap.objs.size)->IsPair h' TO x y->S1 (i+1) h'->S2 (i+1) h'->IsPair h' s.heap.objs.size x y->h'.objs.size=s.heap.objs.size+1->
   (∀c o,c≠z->c≠TO->c≠i1->c≠i2->s.heap.get? c=some o->h'.get? c=some o)->Q (.ref s.heap.objs.size) { s with heap:=h',toks:=tk }):
  wpAny (model prog w) A (Builtin.«zip.__next__» ⟨[.ref z],[]⟩) (fun fin s'=> ∃v,fin= .done (.ret v)/\Q v s') E s:=by
 obtain ⟨hp,g,d,PR,os⟩:=s
 have i1z:=nm Z.m1 Z.z1
 have i2z:=nm Z.m2 Z.z2
 have MQ:=nm Z.m1 Z.o1
 have MR:=nm Z.m2 Z.o2
 have Yf:=nm Z.m2 Z.c1
 refine wpAny_bind (m:=field (.ref z) 2) (wpAny_field hz rfl (x:= .bool false) rfl ?_)
 refine wpAny_bind (m:=field (.ref z) 3) (wpAny_field hz rfl (x:= .ref TI) rfl ?_)
 refine wpAny_bind (m:=seqItems? (.ref TI)) (wpAny_seqItems t_ rfl ?_)
 refine wpAny_bind (m:=Builtin.SmallTypes.ownedTupleIsFree (.ref z)) ?_
 (unfold Builtin.SmallTypes.ownedTupleIsFree;refine wpAny_bind (m:=field (.ref z) 0) (wpAny_field hz rfl (x:= .none) rfl (wpAny_pure ?_)))
 simp only[if_true]
 refine wpAny_bind (wpAny_rule ?_);refine wpAny_bind (m:=field (.ref z) 4) (wpAny_field hz rfl (x:= .ref TO) rfl ?_)
 refine wpAny_bind (wpAny_setField_rec hz (by simp) fun k1 r9 kf=>?_)
 replace r9:IsZip k1 z TI TO .ellipsis:=r9
 replace kf:Heap.SameBut z hp k1:=kf
 refine wpAny_bind ?_;simp only[List.zipIdx_cons,List.zipIdx_nil,List.forIn_cons,List.forIn_nil]
 refine wpAny_bind (wpAny_bind (wpAny_onRaise ?_));refine wpAny_bind (m:=Builtin.SmallTypes.nextOf (.ref i1)) ?_
 refine D1.item i _ _ _ l1 (D1.frame _ _ _ h1 fun c hc o e=>kf.extBut _ _ (nm hc Z.z1) e) fun x k2 V4 px gW jq=>wpAny_pure ?_
 replace jq:Heap.SameBut i1 k1 k2:=jq
 have to2:IsPair k2 TO a b:=jq.extBut _ _ (Ne.symm MQ) (kf.extBut _ _ Z.oz BL)
 refine wpAny_bind (m:=seqItems? (.ref TO)) (wpAny_seqItems to2 rfl ?_)
 refine wpAny_bind (wpAny_updateSeq_pair to2 fun k3 to3 oa=>?_)
 replace to3:IsPair k3 TO x b:=to3
 replace oa:Heap.SameBut TO k2 k3:=oa
 refine wpAny_bind (wpAny_letGo (wpAny_pure ?_));refine wpAny_bind (wpAny_bind (wpAny_onRaise ?_))
 refine wpAny_bind (m:=Builtin.SmallTypes.nextOf (.ref i2)) ?_
 refine D2.item i _ _ _ l2 (D2.frame _ _ _ h2 fun c hc o e=>oa.extBut _ _ (nm hc Z.o2) (jq.extBut _ _ (nm hc Z.c1) (kf.extBut _ _ (nm hc Z.z2) e))) fun y k4 Kv py wa mF=>wpAny_pure ?_
 replace mF:Heap.SameBut i2 k3 k4:=mF
 have Kw:IsPair k4 TO x b:=mF.extBut _ _ (Ne.symm MR) to3
 refine wpAny_bind (m:=seqItems? (.ref TO)) (wpAny_seqItems Kw rfl ?_)
 refine wpAny_bind (wpAny_updateSeq_pair Kw fun k5 CO uP=>?_)
 replace CO:IsPair k5 TO x y:=CO
 replace uP:Heap.SameBut TO k4 k5:=uP
 refine wpAny_bind (wpAny_letGo (wpAny_pure (wpAny_pure ?_)));refine wpAny_bind (m:=seqItems? (.ref TO)) (wpAny_seqItems CO rfl ?_)
 refine wpAny_bind (wpAny_newTuple ?_)
 have sz:k5.objs.size=hp.objs.size:=by rw[uP.1,mF.1,oa.1,jq.1,kf.1]
 have z5:IsZip k5 z TI TO .ellipsis:=uP.extBut _ _ (Ne.symm Z.oz) (mF.extBut _ _ (Ne.symm i2z) (oa.extBut _ _ (Ne.symm Z.oz) (jq.extBut _ _ (Ne.symm i1z) r9)))
 have kp: ∀c o,c≠z->c≠TO->c≠i1->c≠i2->hp.get? c=some o->k5.get? c=some o:=fun c o c1 c2 c3 c4 e=>uP.extBut _ _ c2 (mF.extBut _ _ c4 (oa.extBut _ _ c2 (jq.extBut _ _ c3 (kf.extBut _ _ c1 e))))
 have CP:S1 (i+1) k5:=D1.frame _ _ _ gW fun c hc o e=>uP.extBut _ _ (nm hc Z.o1) (mF.extBut _ _ (nm hc Z.c2) (oa.extBut _ _ (nm hc Z.o1) e))
 have PU:S2 (i+1) k5:=D2.frame _ _ _ wa fun c hc o e=>uP.extBut _ _ (nm hc Z.o2) e
 have zl:z<k5.objs.size:=Heap.lt_size z5
 refine wpAny_bind (m:=Builtin.SmallTypes.ownedTupleHandOut (.ref z) (.ref k5.objs.size)) ?_
 have z6:IsZip (k5.push { cls:= .type "tuple",data:= .seq #[x,y] }) z TI TO .ellipsis:=Heap.get?_push_of_some _ z5
 (unfold Builtin.SmallTypes.ownedTupleHandOut;refine wpAny_bind (wpAny_setField_rec z6 (by simp) fun k7 z7 s7=>?_))
 replace z7:IsZip k7 z TI TO (rawInt k5.objs.size):=z7
 refine wpAny_setField_rec z7 (by simp) fun k8 z8 s8=>?_
 replace z8:IsZip k8 z TI TO (rawInt k5.objs.size):=z8
 have up: ∀c o,c≠z->k5.get? c=some o->k8.get? c=some o:=fun c o c1 e=>s8.extBut _ _ c1 (s7.extBut _ _ c1 (Heap.get?_push_of_some _ e))
 have t8:IsPair k8 k5.objs.size x y:=s8.extBut _ _ (Nat.ne_of_gt zl) (s7.extBut _ _ (Nat.ne_of_gt zl) (Heap.get?_push_size _ rfl))
 have e8:k8.objs.size=k5.objs.size+1:=by rw[s8.1,s7.1,Heap.size_push]
 rw[sz]at z8 t8 e8
 refine wpAny_pure ⟨_,rfl,?_⟩
 show Q (.ref k5.objs.size) _
 rw[sz]
 exact hQ x y k8 Kv px py z8 (up _ _ Z.oz CO) (D1.frame _ _ _ CP fun c hc o e=>up c o (nm hc Z.z1) e) (D2.frame _ _ _ PU fun c hc o e=>up c o (nm hc Z.z2) e) t8 e8 fun c o c1 c2 c3 c4 e=>up c o c1 (kp c o c1 c2 c3 c4 e)
theorem zZ {Q:Fin->Shared->Prop} (D1:Draws prog w A i1 f1 n1 P1 S1) (Z:ZA z TI TO i1 i2 f1 f2)
  (hz:IsZip s.heap z TI TO .none) (t_:IsPair s.heap TI (.ref i1) (.ref i2)) (BL:IsPair s.heap TO a b) (h1:S1 n1 s.heap)
  (hE: ∀h' e,(∀c o,c≠z->c≠TO->c≠i1->c≠i2->s.heap.get? c=some o->h'.get? c=some o)->(∃o,h'.get? e=some o/\o.cls= .type "StopIteration")->E (.ref e) { s with heap:=h' }):
  wpAny (model prog w) A (Builtin.«zip.__next__» ⟨[.ref z],[]⟩) Q E s:=by
 obtain ⟨hp,g,d,PR,os⟩:=s
 have i1z:=nm Z.m1 Z.z1
 refine wpAny_bind (m:=field (.ref z) 2) (wpAny_field hz rfl (x:= .bool false) rfl ?_)
 refine wpAny_bind (m:=field (.ref z) 3) (wpAny_field hz rfl (x:= .ref TI) rfl ?_)
 refine wpAny_bind (m:=seqItems? (.ref TI)) (wpAny_seqItems t_ rfl ?_)
 refine wpAny_bind (m:=Builtin.SmallTypes.ownedTupleIsFree (.ref z)) ?_
 (unfold Builtin.SmallTypes.ownedTupleIsFree;refine wpAny_bind (m:=field (.ref z) 0) (wpAny_field hz rfl (x:= .none) rfl (wpAny_pure ?_)))
 simp only[if_true]
 refine wpAny_bind (wpAny_rule ?_);refine wpAny_bind (m:=field (.ref z) 4) (wpAny_field hz rfl (x:= .ref TO) rfl ?_)
 refine wpAny_bind (wpAny_setField_rec hz (by simp) fun k1 r9 kf=>?_)
 replace r9:IsZip k1 z TI TO .ellipsis:=r9
 replace kf:Heap.SameBut z hp k1:=kf
 refine wpAny_bind ?_;simp only[List.zipIdx_cons,List.zipIdx_nil,List.forIn_cons,List.forIn_nil]
 refine wpAny_bind (wpAny_bind (wpAny_onRaise ?_));refine wpAny_bind (m:=Builtin.SmallTypes.nextOf (.ref i1)) ?_
 refine D1.done _ _ _ (D1.frame _ _ _ h1 fun c hc o e=>kf.extBut _ _ (nm hc Z.z1) e) fun k2 e jq he=>?_
 obtain ⟨oe,q_,Kx⟩:=he
 have z2:IsZip k2 z TI TO .ellipsis:=jq _ _ (Ne.symm i1z) r9
 have ez:e≠z:=fun x=>by subst x;rw[z2]at q_;cases q_;simp at Kx
 refine wpAny_setField_rec z2 (by simp) fun k3 _ oa=>hE k3 e (fun c o c1 _ c3 _ x=>oa.extBut _ _ c1 (jq _ _ c3 (kf.extBut _ _ c1 x))) ⟨oe,oa.extBut _ _ ez q_,Kx⟩
theorem uQ {Q:Option Value->Shared->Prop} (D1:Draws prog w A.in1 i1 f1 n1 P1 S1) (D2:Draws prog w A.in1 i2 f2 n2 P2 S2) (Z:ZA z TI TO i1 i2 f1 f2)
  (hz:IsZip s.heap z TI TO .none) (t_:IsPair s.heap TI (.ref i1) (.ref i2)) (BL:IsPair s.heap TO a b) (h1:S1 i s.heap) (h2:S2 i s.heap) (l1:i<n1) (l2:i<n2)
  (hQ: ∀x y h' tk,P1 i x->P2 i y->IsZip h' z TI TO (rawInt s.heap.objs.size)->IsPair h' TO x y->S1 (i+1) h'->S2 (i+1) h'->IsPair h' s.heap.objs.size x y->h'.objs.size=s.heap.objs.size+1->
   (∀c o,c≠z->c≠TO->c≠i1->c≠i2->s.heap.get? c=some o->h'.get? c=some o)->Q (some (.ref s.heap.objs.size)) { s with heap:=h',toks:=tk }):
  wpAny (model prog w) A (pyNext (.ref z)) Q E s:=by
 have hT:s.TypeIs (.ref z) "zip":=⟨_,hz,rfl⟩
 unfold pyNext
 exact wpAny_bind (wpAny_attempt (wpAny_callSpecial?_slot (name:=Str.ofString "__next__") hT F.slot_zip_next (wpAny_call_entry F.slot_zip_next hT F.entry_zip_next
   (xF D1 D2 Z hz t_ BL h1 h2 l1 l2 fun x y h' tk p1 p2 a1 a2 a3 a4 a5 a6 a7=>wpAny_pure (hQ x y h' tk p1 p2 a1 a2 a3 a4 a5 a6 a7)) (F.args_zip_next_1 _))))
theorem xG {Q:Option Value->Shared->Prop} (D1:Draws prog w A.in1 i1 f1 n1 P1 S1) (Z:ZA z TI TO i1 i2 f1 f2)
  (hz:IsZip s.heap z TI TO .none) (t_:IsPair s.heap TI (.ref i1) (.ref i2)) (BL:IsPair s.heap TO a b) (h1:S1 n1 s.heap)
  (hQ: ∀h',(∀c o,c≠z->c≠TO->c≠i1->c≠i2->s.heap.get? c=some o->h'.get? c=some o)->Q none { s with heap:=h' }):wpAny (model prog w) A (pyNext (.ref z)) Q E s:=by
 have hT:s.TypeIs (.ref z) "zip":=⟨_,hz,rfl⟩
 unfold pyNext
 refine wpAny_bind (wpAny_attempt (wpAny_callSpecial?_slot (name:=Str.ofString "__next__") hT F.slot_zip_next (wpAny_call_entry F.slot_zip_next hT F.entry_zip_next (zZ D1 Z hz t_ BL h1 fun h' e hk he=>?_) (F.args_zip_next_1 _))))
 obtain ⟨o,ho,hc⟩:=he
 refine wpAny_bind (wpAny_isInstance (T:="StopIteration") (b:=true) ⟨o,ho,hc⟩ isSubtype_stop (wpAny_pure (hQ _ hk)))
end
structure ZS (P:Program) (w:World) (K:PySem.W.Frag) (a it:Addr) (Sq:Hp->List V->Prop) (IT:Nat->Heap->Prop):Prop where
 obj: ∀i h,IT i h-> ∃o,h.get? it=some o/\ ∀v,o.data≠ .cell v
 keep: ∀i h h',IT i h->(∀o,h.get? it=some o->h'.get? it=some o)->IT i h'
 inj: ∀(X:Cx),X.K=K-> ∀(pins:List (Addr×Obj)) (s:Shared) (σ:St) (H:Hp),Inv X pins σ H s-> ∀xs ys,Sq H xs->Sq H ys->xs=ys
 draws: ∀(X:Cx),X.prog=P->X.w=w->X.K=K->X.calm=true-> ∀(pins:List (Addr×Obj)) (s:Shared) (σ:St) (H:Hp),Inv X pins σ H s-> ∀xs,Sq H xs->a≠it->
  ∃(az:List Value) (SS:Nat->Heap->Prop),Vals xs az/\Draws P w X.A.in1 it [it,a] az.length (fun i v=>az[i]? =some v) SS/\(∀i,IT i s.heap->SS i s.heap)/\ ∀i h,SS i h->IT i h
theorem uR {P:Program} {w:World} {K:PySem.W.Frag} (a it:Addr):ZS P w K a it (fun H xs=>aY K H a xs) (fun i h=>h.IsTupleIter it a i) where
 obj:=fun i h st=>by
  obtain ⟨o,ho,hc,hd⟩:=st
  exact ⟨o,ho,fun v z=>by rw[hd]at z;cases z⟩
 keep:=fun i h h' st k=>by
  obtain ⟨o,ho,r⟩:=st
  exact ⟨o,k o ho,r⟩
 inj:=fun X hK pins s σ H I xs ys h1 h2=>by subst hK;exact I.kg h1 h2
 draws:=fun X hP hw hK hc pins s σ H I xs hq ne=>by
  subst hP hw hK
  obtain ⟨az,rv,p,_⟩:=I.tuple hq
  have D:=iA (prog:=X.prog) (w:=X.w) (A:=X.A.in1) (I.ok.hd hc) it a ne az.toArray
  refine ⟨az,fun i h=>h.IsTupleIter it a i/\h.IsTuple a az.toArray,rv,?_,fun i h=>⟨h,p⟩,fun i h z=>z.1⟩
  have e:az.toArray.size=az.length:=List.size_toArray
  rw[<-e]
  refine ⟨D.live,D.frame,fun i s Q E hi st q=>D.item i s Q E hi st fun x h' tk hx=>q x h' tk (by simpa using hx),D.done⟩
noncomputable def Er (Sq1 Sq2:Hp->List V->Prop):It:=⟨fun i H=> ∃xs ys x y,Sq1 H xs/\Sq2 H ys/\xs[i]? =some x/\ys[i]? =some y,
 fun i H x H'=> ∃T u v,(∀xs,Sq1 H xs->xs[i]? =some u)/\(∀ys,Sq2 H ys->ys[i]? =some v)/\x= .ref T/\H T=none/\H'=upd H T (.tup [u,v]),
 fun i H=> ∃xs,Sq1 H xs/\(∃ys,Sq2 H ys)/\xs.length=i⟩
noncomputable abbrev ID (h:Heap) (c:String) (l:Addr):Heap:=h.push { cls:= .type c,data:= .fields #[.ref l, .int 0 0] }
noncomputable abbrev MS (h:Heap) (c d:String) (l m:Addr):Heap:=ID (ID h c l) d m
noncomputable abbrev MT (h:Heap) (c d:String) (l m:Addr):Heap:=(MS h c d l m).push { cls:= .type "tuple",data:= .seq #[.ref h.objs.size, .ref (ID h c l).objs.size] }
noncomputable abbrev Ky (h:Heap) (c d:String) (l m:Addr):Heap:=(MT h c d l m).push { cls:= .type "tuple",data:= .seq #[.none, .none] }
noncomputable abbrev GC (h:Heap) (c d:String) (l m:Addr):Heap:=(Ky h c d l m).push { cls:= .type "zip",data:= .fields #[.none, .bool false, .bool false, .ref (MS h c d l m).objs.size, .ref (MT h c d l m).objs.size] }
theorem r_ (l m:Addr) (xs ys:Array Value):Meets (Builtin.«zip.__new__» ⟨[.type "zip", .ref l, .ref m],[]⟩) (fun _ R s=>s.heap.IsTuple l xs/\s.heap.IsTuple m ys/\R (.ok (.ret (.ref (Ky s.heap "tuple_iterator" "tuple_iterator" l m).objs.size))) { s with heap:=GC s.heap "tuple_iterator" "tuple_iterator" l m }):=
 .of_wp fun prog w A R s h=>by
  obtain ⟨hp,g,d,tk,os⟩:=s;obtain ⟨q1,q2,h⟩:=h;have CC:=sub_zip
  have k1:Heap.IsTuple (Shared.heap ⟨hp,g,d,tk,os⟩) l xs:=q1
  have k2:Heap.IsTuple (Shared.heap ⟨hp.push { cls:= .type "tuple_iterator",data:= .fields #[.ref l, .int 0 0] },g,d,tk,os⟩) m ys:=by
   obtain ⟨o,e,r⟩:=q2
   exact ⟨o,Heap.get?_push_of_some _ e,r⟩
  wp_walk using wpAny_pyIter_tuple k1,wpAny_pyIter_tuple k2
  exact ⟨_,rfl,h⟩
noncomputable def V5 (c d:String) (P1 P2:Heap->Prop) (l m:Addr):Prop:= ∀(prog:Program) (w:World) (A:Around) (E:Value->Shared->Prop) (s:Shared) (Q:Value->Shared->Prop),P1 s.heap->P2 s.heap->
  (∀h',IsZip h' (s.heap.objs.size+4) (s.heap.objs.size+2) (s.heap.objs.size+3) .none->IsPair h' (s.heap.objs.size+2) (.ref s.heap.objs.size) (.ref (s.heap.objs.size+1))->
   IsPair h' (s.heap.objs.size+3) .none .none->h'.get? s.heap.objs.size=some { cls:= .type c,data:= .fields #[.ref l, .int 0 0] }->h'.get? (s.heap.objs.size+1)=some { cls:= .type d,data:= .fields #[.ref m, .int 0 0] }->
   (∀b o,s.heap.get? b=some o->h'.get? b=some o)->Q (.ref (s.heap.objs.size+4)) { s with heap:=h' })->
  wpAny (model prog w) A (call (.type "zip") [.ref l, .ref m]) Q E s
theorem GD {c d:String} {P1 P2:Heap->Prop} {l m:Addr} (M:Meets (Builtin.«zip.__new__» ⟨[.type "zip", .ref l, .ref m],[]⟩) (fun _ R s=>P1 s.heap/\P2 s.heap/\R (.ok (.ret (.ref (Ky s.heap c d l m).objs.size))) { s with heap:=GC s.heap c d l m })):V5 c d P1 P2 l m:=by
 intro prog w A E s Q p1 p2 h
 refine callType_new F.called_zip (by decide) (F.typeCall_zip_2 _ _) (F.newCall_zip_2 _ _) (fun ob=>F.args_object_init_3 ob _ _) F.entry_zip_new M ⟨p1,p2,?_⟩
 have e1:(ID s.heap c l).objs.size=s.heap.objs.size+1:=Heap.size_push ..
 have e2:(MS s.heap c d l m).objs.size=s.heap.objs.size+2:=by rw[Heap.size_push,e1]
 have e3:(MT s.heap c d l m).objs.size=s.heap.objs.size+3:=by rw[Heap.size_push,e2]
 have e4:(Ky s.heap c d l m).objs.size=s.heap.objs.size+4:=by rw[Heap.size_push,e3]
 have g5:(GC s.heap c d l m).get? (Ky s.heap c d l m).objs.size=some _:=Heap.get?_push_size _ rfl
 have g4:(GC s.heap c d l m).get? (MT s.heap c d l m).objs.size=some _:=Heap.get?_push_of_some _ (Heap.get?_push_size _ rfl)
 have g3:(GC s.heap c d l m).get? (MS s.heap c d l m).objs.size=some _:=Heap.get?_push_of_some _ (Heap.get?_push_of_some _ (Heap.get?_push_size _ rfl))
 have g2:(GC s.heap c d l m).get? (ID s.heap c l).objs.size=some _:=Heap.get?_push_of_some _ (Heap.get?_push_of_some _ (Heap.get?_push_of_some _ (Heap.get?_push_size _ rfl)))
 have g1:(GC s.heap c d l m).get? s.heap.objs.size=some _:=Heap.get?_push_of_some _ (Heap.get?_push_of_some _ (Heap.get?_push_of_some _ (Heap.get?_push_of_some _ (Heap.get?_push_size _ rfl))))
 show _/\_
 rw[e2,e3,e4]at g5
 rw[e1,e2]at g3
 rw[e3]at g4
 rw[e1]at g2
 rw[e4]
 exact ⟨⟨_,g5,rfl⟩,h _ g5 g3 g4 g1 g2 fun b o x=>Heap.get?_push_of_some _ (Heap.get?_push_of_some _ (Heap.get?_push_of_some _ (Heap.get?_push_of_some _ (Heap.get?_push_of_some _ x))))⟩
theorem CQ {a b c:Nat} (h1:a≠b) (h2:a≠c):(a:Addr)∉([b,c]:List Addr):=fun h=>by
 rcases List.mem_cons.mp h with e | e
 ·exact h1 e
 ·exact h2 (List.mem_singleton.mp e)
theorem BM {a b:Nat} (h:a≠b):(a:Addr)≠(b:Addr):=h
theorem GF {n l m:Nat} (h1:l<n) (h2:m<n):ZA (n+4:Nat) (n+2:Nat) (n+3:Nat) n (n+1:Nat) [n,l] [(n+1:Nat),m]:=
 ⟨List.mem_cons_self,List.mem_cons_self,CQ (a:=n+4) (b:=n) (c:=l) (by omega) (by omega),CQ (a:=n+4) (b:=n+1) (c:=m) (by omega) (by omega),CQ (a:=n+3) (b:=n) (c:=l) (by omega) (by omega),CQ (a:=n+3) (b:=n+1) (c:=m) (by omega) (by omega),
  CQ (a:=n) (b:=n+1) (c:=m) (by omega) (by omega),CQ (a:=n+1) (b:=n) (c:=l) (by omega) (by omega),BM (a:=n+2) (b:=n+4) (by omega),BM (a:=n+2) (b:=n+3) (by omega),BM (a:=n+2) (b:=n) (by omega),BM (a:=n+2) (b:=n+1) (by omega),BM (a:=n+3) (b:=n+4) (by omega)⟩
end
noncomputable def Kz (Sq1 Sq2:Addr->Hp->List V->Prop) (ta:TA):TI:=fun σ H R=>ta σ H fun vs H1=> ∃a b,vs=[.ref a, .ref b]/\(∃xs,Sq1 a H1 xs)/\(∃ys,Sq2 b H1 ys)/\R (Er (Sq1 a) (Sq2 b)) H1
noncomputable abbrev xH (K:PySem.W.Frag):Addr->Hp->List V->Prop:=fun a H xs=>aY K H a xs
section
variable {X:Cx} {elts:List Expr} {k:Nat} {pos':Pos} {a b:Expr} {ta:TA} {p pos:Pos}
end
theorem CS {Sq1 Sq2:Hp->List V->Prop} {xs ys:List V} {g:TG} {tb:TS} {D:Ends} {σ:St} {H:Hp} (Pv:Nat->St->Hp->Prop) (hlen:xs.length=ys.length) (h0:Pv 0 σ H) (hl: ∀i σ H,i<=xs.length->Pv i σ H->Sq1 H xs/\Sq2 H ys)
  (hs: ∀i x y σ H T,xs[i]? =some x->ys[i]? =some y->Pv i σ H->H T=none->g (.ref T) σ (upd H T (.tup [x,y])) fun σ2 H2=>tb { D with nx:=Pv (i+1),ct:=Pv (i+1),bk:=D.nx } σ2 H2) (hd: ∀σ H,Pv xs.length σ H->D.nx σ H):
  ∃W:Nat->Nat->St->Hp->Prop,(∃m,W 0 m σ H)/\ ∀i m σ H,W i m σ H->
   ((Er Sq1 Sq2).stop i H/\D.nx σ H)\/((Er Sq1 Sq2).go i H/\ ∃N:St->Hp->Prop,(∀σ' H',N σ' H'-> ∃m',m'<m/\W (i+1) m' σ' H')/\ ∀x H',(Er Sq1 Sq2).uh i H x H'->g x σ H' fun σ2 H2=>tb { D with nx:=N,ct:=N,bk:=D.nx } σ2 H2):=by
 refine ⟨fun i m σ H=>m=xs.length - i/\i<=xs.length/\Pv i σ H,⟨xs.length,by simp,Nat.zero_le _,h0⟩,?_⟩
 rintro i m σ H ⟨rfl,hi,p⟩
 obtain ⟨q1,q2⟩:=hl i σ H hi p
 by_cases cN:i<xs.length
 ·have GG:i<ys.length:=by omega
  refine .inr ⟨⟨xs,ys,xs[i],ys[i],q1,q2,by simp[cN],by simp[GG]⟩,Pv (i+1),fun σ' H' p'=>⟨xs.length - (i+1),by omega,rfl,cN,p'⟩,fun x H' y=>?_⟩
  obtain ⟨T,u,v,hu,hv,rfl,hn,rfl⟩:=y
  exact hs i u v σ _ T (hu xs q1) (hv ys q2) p hn
 ·have e:i=xs.length:=by omega
  subst e
  exact .inl ⟨⟨xs,q1,⟨ys,q2⟩,rfl⟩,hd σ H p⟩
theorem z9 {Sq1 Sq2:Hp->List V->Prop} {xs ys:List V} {σc:St} {g:TG} {tc:TT} {te:TE} {Q:VK} {H1:Hp} (Pv:Nat->List V->Hp->Prop) (hlen:xs.length=ys.length) (hn:xs.length<sizeLine) (hl: ∀i acc H,Pv i acc H->Sq1 H xs/\Sq2 H ys) (h0:Pv 0 [] H1)
  (hs: ∀(i:Nat) (x y:V) (acc:List V) (H:Hp) (T:Addr) (Nx:List V->Hp->Prop),xs[i]? =some x->ys[i]? =some y->acc.length<=i->Pv i acc H->H T=none->(∀bH H',bH.length<=i+1->Pv (i+1) bH H'->Nx bH H')->
   g (.ref T) σc (upd H T (.tup [x,y])) fun σ2 H2=>Wk σc σ2/\tc σ2 H2 fun b H3=>if b=true then te σ2 H3 fun v H4=>Nx (acc++[v]) H4 else Nx acc H3)
  (hd: ∀acc H D,acc.length<=xs.length->Pv xs.length acc H->H D=none->Q (.ref D) (upd H D (.lst acc))):jK (Er Sq1 Sq2) σc g tc te Q H1:=by
 refine ⟨fun i m acc H=>m=xs.length - i/\i<=xs.length/\acc.length<=i/\Pv i acc H,⟨xs.length,by simp,Nat.zero_le _,Nat.le_refl _,h0⟩,?_⟩
 rintro i m acc H ⟨rfl,hi,jA,p⟩
 obtain ⟨q1,q2⟩:=hl i acc H p
 refine ⟨by omega,?_⟩
 by_cases cN:i<xs.length
 ·have GG:i<ys.length:=by omega
  refine .inr ⟨⟨xs,ys,xs[i],ys[i],q1,q2,by simp[cN],by simp[GG]⟩,fun x H' y=>?_⟩
  obtain ⟨T,u,v,hu,hv,rfl,hT,rfl⟩:=y
  exact hs i u v acc _ T (fun bH H'=> ∃m',m'<xs.length - i/\(m'=xs.length - (i+1)/\i+1<=xs.length/\bH.length<=i+1/\Pv (i+1) bH H')) (hu xs q1) (hv ys q2) jA p hT fun bH H' h1 h2=>⟨xs.length - (i+1),by omega,rfl,cN,h1,h2⟩
 ·have e:i=xs.length:=by omega
  subst e
  exact .inl ⟨⟨xs,q1,⟨ys,q2⟩,rfl⟩,fun D hD=>hd acc H D jA p hD⟩
end L2
namespace L2
open PySem PySem.Spec PyProof.Rows
section
variable {X:Cx}
end
end L2
namespace L2
open PySem PySem.Spec PyProof.Rows PySem.MeetsSeq PySem.SeqAt
theorem z_ (p:Addr) (av:Array Value) (c:Nat) (x:Value) (f:Value->Bool) (j:Nat) (hj:j<av.size) (yes:f av[j]=true) (k:Nat) (hz:av.size<=sizeLine):
  ∀i:Nat,j - i=k->i<=j->(∀m (hm:m<av.size),i<=m->m<j->f av[m]=false)->Meets (Builtin.«list.remove.loop» ⟨[.ref p,x,rawInt i],[]⟩)
   (fun A R s=>s.heap.get? p=some { cls:= .type "list",dict:=none,data:= .seq av c,slots:= #[] }/\(∀y,y∈av->EqAt A.in1 s y x (f y))/\R (.ok (.ret .none)) { s with heap:=s.heap.update p (Obj.mapSeq fun xs=>xs.eraseIdxIfInBounds j) }):=by
 induction k with
 | zero=>
  intro i hk Iq no prog w A R s h
  obtain ⟨hp,g,d,tk,os⟩:=s;obtain ⟨q1,q2,h⟩:=h
  have e0:i=j:=by omega
  subst e0
  wp_walk using wpAny_loadPart' q1
  have e1:av[((i:Nat):Int).toNat]? =some av[i]:=by simp[hj]
  rw[e1]
  refine wpAny_bind (q2 _ (Array.getElem_mem hj) prog w _ _ ?_);rw[yes]
  have z2:(av.eraseIdxIfInBounds i).size<=sizeLine+1:=Nat.le_trans (size_erased av _) (Nat.le_succ_of_le hz)
  wp_walk using (wpAny_updateSeq q1 rfl (hz:=hz) (_hz':=z2)),wpAny_loadPart' q1
  simpa using h
 | succ k ih=>
  intro i hk Iq no prog w A R s h
  obtain ⟨hp,g,d,tk,os⟩:=s;obtain ⟨q1,q2,h⟩:=h
  have lt:i<av.size:=by omega
  wp_walk using wpAny_loadPart' q1
  have e1:av[((i:Nat):Int).toNat]? =some av[i]:=by simp[lt]
  have e2:((i:Int)+1)=((i+1:Nat):Int):=by push_cast;rfl
  rw[e1]
  refine wpAny_bind (q2 _ (Array.getElem_mem lt) prog w _ _ ?_);rw[no i lt (Nat.le_refl _) (by omega)]
  wp_walk
  rw[e2]
  exact ⟨plainId_quiet plain_remove_loop _,codeAny_builtin entry_remove_loop (by rw[Around.under_plainId plain_remove_loop _];exact ih (i+1) (by omega) (by omega) (fun m hm h1 h2=>no m hm (by omega) h2) prog w A R _ ⟨q1,q2,h⟩)⟩
theorem Aa (p:Addr) (av:Array Value) (c:Nat) (x:Value) (f:Value->Bool) (j:Nat) (hj:j<av.size) (yes:f av[j]=true) (no: ∀m (hm:m<av.size),m<j->f av[m]=false) (hz:av.size<=sizeLine):
  Meets (Builtin.«list.remove» ⟨[.ref p,x],[]⟩) (fun A R s=>s.heap.get? p=some { cls:= .type "list",dict:=none,data:= .seq av c,slots:= #[] }/\(∀y,y∈av->EqAt A.in1 s y x (f y))/\R (.ok (.ret .none)) { s with heap:=s.heap.update p (Obj.mapSeq fun xs=>xs.eraseIdxIfInBounds j) }):=by
 intro prog w A R s h
 obtain ⟨hp,g,d,tk,os⟩:=s;obtain ⟨q1,q2,h⟩:=h
 wp_walk using wpAny_loadPart' q1
 exact ⟨plainId_quiet plain_remove_loop _,codeAny_builtin entry_remove_loop (by rw[Around.under_plainId plain_remove_loop _];exact z_ p av c x f j hj yes _ hz 0 rfl (Nat.zero_le _) (fun m hm _ h2=>no m hm h2) prog w A R _ ⟨q1,q2,h⟩)⟩
section
variable {X:Cx}
noncomputable def KA (K:PySem.W.Frag):V->List V->Hp->VK->Prop:=fun x vs H Q=> ∃(p:Addr) (xs:List V) (v:V) (ds:List PyData) (d:PyData) (j:Nat),x= .ref p/\vs=[v]/\H p=some (.lst xs)/\f_ K H xs ds/\mx K H v d/\(PyData.canLayAll0 ds=true/\d.canLay0=true)/\d.depth<=60/\
 (∃e,ds[j]? =some e/\PyData.eqv e d=true)/\(∀m e,m<j->ds[m]? =some e->PyData.eqv e d=false)/\Q .cy (upd H p (.lst (xs.eraseIdx j)))
theorem CT {k:Nat} (K:PySem.W.Frag) (h:X.K=K) (hr:fP k X.A):Iv X "list.remove" (KA K):=by
 subst h
 intro pins s σ H x vs v us Q I rx rv h
 obtain ⟨p,xs,y,ds,d,j,rfl,rfl,hH,rs,rd,⟨l1,l2⟩,dp,⟨ej,KC,yj⟩,no,q⟩:=h
 cases rx
 obtain ⟨u,rfl,ru⟩:=rv.one
 obtain ⟨z,az,n,r,hl,e⟩:=I.lg hH
 obtain ⟨as,ra⟩:=rd.reads I ru
 obtain ⟨bs,rb⟩:=rs.reads I r
 have hu:=hr.units
 have hm:min (PyData.depthAll ds) d.depth<=60:=Nat.le_trans (Nat.min_le_right _ _) dp
 have qt:az.map (readOf s.heap)=ds:=readsAll_map ds az bs l1 rb
 have zU: ∀m (hm:m<az.toArray.size) (g:PyData),ds[m]? =some g->PyData.eqv (readOf s.heap az.toArray[m]) d=PyData.eqv g d:=fun m hm g hg=>by
  rw[<-qt,List.getElem?_map]at hg
  have yY:m<az.length:=by rw[List.size_toArray]at hm;exact hm
  rw[List.getElem?_eq_getElem yY]at hg
  have:=Option.some.inj hg
  rw[List.getElem_toArray,this]
 have hlen:ds.length=az.length:=by rw[<-qt,List.length_map]
 have hj:j<az.toArray.size:=by rw[List.size_toArray, <-hlen];exact (List.getElem?_eq_some_iff.mp KC).1
 refine call_meets F.slot_list_remove ⟨_,e,rfl⟩ F.entry_list_remove (F.args_list_remove_2 _ _)
  (Aa p az.toArray n u (fun w=>PyData.eqv (readOf s.heap w) d) j hj (by rw[zU j hj ej KC];exact yj) (fun m hm h2=>?_) (by rw[List.size_toArray, <-hl];exact z)) ⟨e,?_,?_⟩
 ·have yY:m<ds.length:=by rw[hlen];rw[List.size_toArray]at hm;exact hm
  rw[zU m hm ds[m] (List.getElem?_eq_getElem yY)]
  exact no m _ h2 (List.getElem?_eq_getElem yY)
 ·exact items_eqAt (by simpa using rb) ra l1 l2 (by omega)
 ·refine ⟨.cy,_,I.xp (its':=az.eraseIdx j) hH e ?_ (r.eraseIdx j) ?_,rfl,q⟩
  ·show az.toArray.eraseIdxIfInBounds j=(az.eraseIdx j).toArray
   rw[List.eraseIdxIfInBounds_toArray]
  ·have:=kj xs j
   omega
end
end L2
namespace L2
open PySem PySem.Spec PyProof.Rows
end L2
namespace L2
open PySem PySem.Spec PyProof.Rows
structure ZT (P:Program) (w:World) (K:PySem.W.Frag) (fp:List Addr) (it:Addr) (Sq:Hp->List V->Prop) (IT:Nat->Heap->Prop):Prop where
 obj: ∀i h,IT i h-> ∃o,h.get? it=some o/\ ∀v,o.data≠ .cell v
 keep: ∀i h h',IT i h->(∀o,h.get? it=some o->h'.get? it=some o)->IT i h'
 inj: ∀(X:Cx),X.K=K-> ∀(pins:List (Addr×Obj)) (s:Shared) (σ:St) (H:Hp),Inv X pins σ H s-> ∀xs ys,Sq H xs->Sq H ys->xs=ys
 draws: ∀(X:Cx),X.prog=P->X.w=w->X.K=K->X.calm=true-> ∀(pins:List (Addr×Obj)) (s:Shared) (σ:St) (H:Hp),Inv X pins σ H s-> ∀xs,Sq H xs->
  ∃(PP:Nat->Value->Prop) (SS:Nat->Heap->Prop),(∀i x v,xs[i]? =some x->PP i v->RelV x v)/\Draws P w X.A.in1 it fp xs.length PP SS/\(∀i,IT i s.heap->SS i s.heap)/\ ∀i h,SS i h->IT i h
theorem ZS.zt {P:Program} {w:World} {K:PySem.W.Frag} {a it:Addr} {Sq:Hp->List V->Prop} {IT:Nat->Heap->Prop} (Z:ZS P w K a it Sq IT) (ne:a≠it):ZT P w K [it,a] it Sq IT where
 obj:=Z.obj
 keep:=Z.keep
 inj:=Z.inj
 draws:=fun X hP hw hK hc pins s σ H I xs hq=>by
  obtain ⟨az,SS,rv,D,h1,h2⟩:=Z.draws X hP hw hK hc pins s σ H I xs hq ne
  rw[<-rv.length]at D
  refine ⟨_,SS,fun i x v hx hv=>?_,D,h1,h2⟩
  obtain ⟨u,hu,ru⟩:=rv.get hx
  have:v=u:=Option.some.inj (hv.symm.trans hu)
  rw[this];exact ru
theorem GH {P:Program} {w:World} {K:PySem.W.Frag} (it:Addr) (l:List Nat) (t:Tok):ZT P w K [it] it (fun _ xs=>xs=bX l) (fun i h=>h.IsStrIter it (strIterType (S l)) (S l) t i) where
 obj:=fun i h st=>by
  obtain ⟨o,ho,hc,hd⟩:=st
  exact ⟨o,ho,fun v z=>by rw[hd]at z;cases z⟩
 keep:=fun i h h' st k=>by
  obtain ⟨o,ho,r⟩:=st
  exact ⟨o,k o ho,r⟩
 inj:=fun X hK pins s σ H I xs ys h1 h2=>h1.trans h2.symm
 draws:=fun X hP hw hK hc pins s σ H I xs hq=>by
  subst hP hw hK hq
  have rel: ∀i x v,(bX l)[i]? =some x->(∃(c:Nat) (u:Tok),(S l).cps[i]? =some c/\v=Value.str ⟨#[c]⟩ u)->RelV x v:=fun i x v hx hh=>by
   obtain ⟨c,u,e1,e2⟩:=hh
   obtain ⟨d,hd,rfl⟩:=eI hx
   have e3:l[i]? =some c:=by rw[<-e1];show l[i]? =l.toArray[i]?; exact (List.getElem?_toArray ..).symm
   rw[hd]at e3;cases e3
   exact ⟨u,e2⟩
  have e:(S l).cps.size=(bX l).length:=by rw[ir,aT]
  by_cases ha:(S l).cps.all (· <128)=true
  ·have et:strIterType (S l)="str_ascii_iterator":=by unfold strIterType;rw[if_pos ha]
   have D:=Draws.strAscii (prog:=X.prog) (w:=X.w) (A:=X.A.in1) (I.ok.hd hc) it (S l) t
   rw[e]at D
   exact ⟨_,_,rel,D,fun i h=>by rw[et]at h;exact h,fun i h z=>by rw[et];exact z⟩
  ·have et:strIterType (S l)="str_iterator":=by unfold strIterType;rw[if_neg ha]
   have D:=Draws.strWide (prog:=X.prog) (w:=X.w) (A:=X.A.in1) (I.ok.hd hc) it (S l) t
   rw[e]at D
   exact ⟨_,_,rel,D,fun i h=>by rw[et]at h;exact h,fun i h z=>by rw[et];exact z⟩
theorem xI {P:Program} {w:World} {K:PySem.W.Frag} {elts:List Expr} {k:Nat} {pos:Pos} {z TI TO i1 i2:Addr} {f1 f2:List Addr} {Sq1 Sq2:Hp->List V->Prop} {I1 I2:Nat->Heap->Prop}
  (W1:ZT P w K f1 i1 Sq1 I1) (W2:ZT P w K f2 i2 Sq2 I2) (Z:ZA z TI TO i1 i2 f1 f2):
  Turn P w K (.Tuple elts k pos) (Er Sq1 Sq2) [z,TI,TO,i1,i2] z (fun i h=>IsZip h z TI TO .none/\IsPair h TI (.ref i1) (.ref i2)/\(∃a b,IsPair h TO a b)/\I1 i h/\I2 i h) where
 mem:=by simp
 obj:=fun i h st b hb=>by
  obtain ⟨q1,q2,⟨a,b',q3⟩,q4,q5⟩:=st
  simp only[List.mem_cons,List.not_mem_nil,or_false]at hb
  rcases hb with g | g | g | g | g<;>rw[g]
  ·exact ⟨_,q1,fun v z=>by cases z⟩
  ·exact ⟨_,q2,fun v z=>by cases z⟩
  ·exact ⟨_,q3,fun v z=>by cases z⟩
  ·exact W1.obj i h q4
  ·exact W2.obj i h q5
 keep:=fun i h h' st kp=>by
  obtain ⟨q1,q2,⟨a,b',q3⟩,q4,q5⟩:=st
  exact ⟨kp z (by simp) _ q1,kp TI (by simp) _ q2,⟨a,b',kp TO (by simp) _ q3⟩,W1.keep _ _ _ q4 fun o e=>kp i1 (by simp) o e,W2.keep _ _ _ q5 fun o e=>kp i2 (by simp) o e⟩
 item:=by
  intro X hP hw hK hc i pins s σ H E I hf st hg
  obtain ⟨q1,q2,⟨a,b',q3⟩,q4,q5⟩:=st
  obtain ⟨xs,ys,x,y,hx,hy,gx,gy⟩:=hg
  obtain ⟨PX,SX,rx,DX,ux,vx⟩:=W1.draws X hP hw hK hc pins s σ H I xs hx
  obtain ⟨PY,SY,ry,DY,uy,vy⟩:=W2.draws X hP hw hK hc pins s σ H I ys hy
  have PV:=W1.inj X hK pins s σ H I
  have PZ:=W2.inj X hK pins s σ H I
  subst hP hw hK
  refine uQ DX DY Z q1 q2 q3 (ux i q4) (uy i q5) (List.getElem?_eq_some_iff.mp gx).1 (List.getElem?_eq_some_iff.mp gy).1 fun x2 y2 h' tk p1 p2 e1 e2 e3 e4 e5 e6 e7=>⟨_,rfl,?_⟩
  have ru:=rx i x x2 gx p1
  have P0:=ry i y y2 gy p2
  have lt: ∀{c o},s.heap.get? c=some o->s.heap.objs.size≠c:=fun e=>Nat.ne_of_gt (Heap.lt_size e)
  obtain ⟨o1,g1⟩:=DX.live _ _ (ux i q4)
  obtain ⟨o2,g2⟩:=DY.live _ _ (uy i q5)
  have yW:s.heap.objs.size∉[z,TI,TO,i1,i2]:=by
   simp only[List.mem_cons,List.not_mem_nil,or_false,not_or]
   exact ⟨lt q1,lt q2,lt q3,lt g1,lt g2⟩
  refine wpAny_letOwnedTupleGo_zip e1 fun h2 z2 sb=>?_
  have kk: ∀b o,b∉[z,TI,TO,i1,i2]->s.heap.get? b=some o->h2.get? b=some o:=fun b o hb e=>by
   simp only[List.mem_cons,List.not_mem_nil,or_false,not_or]at hb
   exact sb.extBut _ _ hb.1 (e7 b o hb.1 hb.2.2.1 hb.2.2.2.1 hb.2.2.2.2 e)
  have jP:h2.IsTuple s.heap.objs.size #[x2,y2]:=⟨_,sb.extBut _ _ (lt q1) e5,rfl,_,rfl⟩
  refine ⟨.ref s.heap.objs.size,upd H s.heap.objs.size (.tup [x,y]),?_,rfl,⟨s.heap.objs.size,x,y,fun zs GI=>by rw[PV zs xs GI hx];exact gx,fun zs GI=>by rw[PZ zs ys GI hy];exact gy,rfl,I.bq.fresh (Nat.le_refl _),rfl⟩,
   ⟨z2,sb.extBut _ _ Z.tz (e7 _ _ Z.tz Z.tt Z.t1 Z.t2 q2),⟨_,_,sb.extBut _ _ Z.oz e2⟩,vx _ _ (DX.frame _ _ _ e3 fun c hc o e=>sb.extBut _ _ (nm hc Z.z1) e),vy _ _ (DY.frame _ _ _ e4 fun c hc o e=>sb.extBut _ _ (nm hc Z.z2) e)⟩,fun b hb=>?_⟩
  ·refine I.iy (t':=tk) (h':=h2) kk hf (Nat.le_refl _) ?_
   exact ⟨by show 2<=sizeLine;decide,[x2,y2], .cons ru (.cons P0 .nil),jP⟩
  ·rw[aj (fun q:b=s.heap.objs.size=>yW (q▸hb))];exact (hf b hb).1
 done:=by
  intro X hP hw hK hc i pins s σ H E I hf st hg
  obtain ⟨q1,q2,⟨a,b',q3⟩,q4,q5⟩:=st
  obtain ⟨xs,hx,⟨ys,hy⟩,el⟩:=hg
  obtain ⟨PX,SX,rx,DX,ux,vx⟩:=W1.draws X hP hw hK hc pins s σ H I xs hx
  subst hP hw hK
  subst el
  refine xG DX Z q1 q2 q3 (ux _ q4) fun h' hk=>⟨rfl,I.jO (t':=s.toks) (ch:=[z,TI,TO,i1,i2]) (fun b o hb e=>?_) hf⟩
  simp only[List.mem_cons,List.not_mem_nil,or_false,not_or]at hb
  exact hk b o hb.1 hb.2.2.1 hb.2.2.2.1 hb.2.2.2.2 e
 self:=fun _ _ s _ _ st h=>wpAny_pyIter_zip st.1 h
noncomputable abbrev MU (h:Heap) (x:Str) (t:Tok):Heap:=h.push { cls:= .type (strIterType x),data:= .fields #[.str x t, .int 0 0] }
noncomputable abbrev MV (h:Heap) (x:Str) (t:Tok) (m:Addr):Heap:=ID (MU h x t) "tuple_iterator" m
noncomputable abbrev MW (h:Heap) (x:Str) (t:Tok) (m:Addr):Heap:=(MV h x t m).push { cls:= .type "tuple",data:= .seq #[.ref h.objs.size, .ref (MU h x t).objs.size] }
noncomputable abbrev MX (h:Heap) (x:Str) (t:Tok) (m:Addr):Heap:=(MW h x t m).push { cls:= .type "tuple",data:= .seq #[.none, .none] }
noncomputable abbrev IE (h:Heap) (x:Str) (t:Tok) (m:Addr):Heap:=(MX h x t m).push { cls:= .type "zip",data:= .fields #[.none, .bool false, .bool false, .ref (MV h x t m).objs.size, .ref (MW h x t m).objs.size] }
set_option maxHeartbeats 4000000 in
theorem se (x:Str) (t:Tok) (m:Addr) (ys:Array Value):Meets (Builtin.«zip.__new__» ⟨[.type "zip", .str x t, .ref m],[]⟩) (fun _ R s=>s.heap.IsTuple m ys/\R (.ok (.ret (.ref (MX s.heap x t m).objs.size))) { s with heap:=IE s.heap x t m }):=
 .of_wp fun prog w A R s h=>by
  obtain ⟨hp,g,d,tk,os⟩:=s;obtain ⟨q2,h⟩:=h;have CC:=sub_zip
  have k2:Heap.IsTuple (Shared.heap ⟨hp.push { cls:= .type (strIterType x),data:= .fields #[.str x t, .int 0 0] },g,d,tk,os⟩) m ys:=by
   obtain ⟨o,e,r⟩:=q2
   exact ⟨o,Heap.get?_push_of_some _ e,r⟩
  have k1: ∀{A':Around} {E':Value->Shared->Prop} {Q':Value->Shared->Prop},Q' (.ref hp.objs.size) ⟨hp.push { cls:= .type (strIterType x),data:= .fields #[.str x t, .int 0 0] },g,d,tk,os⟩->wpAny (model prog w) A' (pyIter (.str x t)) Q' E' ⟨hp,g,d,tk,os⟩:=fun h=>wpAny_pyIter_strU (s:=⟨hp,g,d,tk,os⟩) h
  wp_walk using k1,wpAny_pyIter_tuple k2
  exact ⟨_,rfl,h⟩
theorem GJ (x:Str) (t:Tok) (m:Addr) (ys:Array Value) {prog:Program} {w:World} {A:Around} {E:Value->Shared->Prop} {s:Shared} {Q:Value->Shared->Prop} (p2:s.heap.IsTuple m ys)
  (h: ∀h',IsZip h' (s.heap.objs.size+4) (s.heap.objs.size+2) (s.heap.objs.size+3) .none->IsPair h' (s.heap.objs.size+2) (.ref s.heap.objs.size) (.ref (s.heap.objs.size+1))->
   IsPair h' (s.heap.objs.size+3) .none .none->h'.get? s.heap.objs.size=some { cls:= .type (strIterType x),data:= .fields #[.str x t, .int 0 0] }->h'.get? (s.heap.objs.size+1)=some { cls:= .type "tuple_iterator",data:= .fields #[.ref m, .int 0 0] }->
   (∀b o,s.heap.get? b=some o->h'.get? b=some o)->Q (.ref (s.heap.objs.size+4)) { s with heap:=h' }):
  wpAny (model prog w) A (call (.type "zip") [.str x t, .ref m]) Q E s:=by
 refine callType_new F.called_zip (by decide) (F.typeCall_zip_2 _ _) (F.newCall_zip_2 _ _) (fun ob=>F.args_object_init_3 ob _ _) F.entry_zip_new (se x t m ys) ⟨p2,?_⟩
 have e1:(MU s.heap x t).objs.size=s.heap.objs.size+1:=Heap.size_push ..
 have e2:(MV s.heap x t m).objs.size=s.heap.objs.size+2:=by rw[Heap.size_push,e1]
 have e3:(MW s.heap x t m).objs.size=s.heap.objs.size+3:=by rw[Heap.size_push,e2]
 have e4:(MX s.heap x t m).objs.size=s.heap.objs.size+4:=by rw[Heap.size_push,e3]
 have g5:(IE s.heap x t m).get? (MX s.heap x t m).objs.size=some _:=Heap.get?_push_size _ rfl
 have g4:(IE s.heap x t m).get? (MW s.heap x t m).objs.size=some _:=Heap.get?_push_of_some _ (Heap.get?_push_size _ rfl)
 have g3:(IE s.heap x t m).get? (MV s.heap x t m).objs.size=some _:=Heap.get?_push_of_some _ (Heap.get?_push_of_some _ (Heap.get?_push_size _ rfl))
 have g2:(IE s.heap x t m).get? (MU s.heap x t).objs.size=some _:=Heap.get?_push_of_some _ (Heap.get?_push_of_some _ (Heap.get?_push_of_some _ (Heap.get?_push_size _ rfl)))
 have g1:(IE s.heap x t m).get? s.heap.objs.size=some _:=Heap.get?_push_of_some _ (Heap.get?_push_of_some _ (Heap.get?_push_of_some _ (Heap.get?_push_of_some _ (Heap.get?_push_size _ rfl))))
 show _/\_
 rw[e2,e3,e4]at g5
 rw[e1,e2]at g3
 rw[e3]at g4
 rw[e1]at g2
 rw[e4]
 exact ⟨⟨_,g5,rfl⟩,h _ g5 g3 g4 g1 g2 fun b o x=>Heap.get?_push_of_some _ (Heap.get?_push_of_some _ (Heap.get?_push_of_some _ (Heap.get?_push_of_some _ (Heap.get?_push_of_some _ x))))⟩
theorem CU {n m:Nat} (h2:m<n):ZA (n+4:Nat) (n+2:Nat) (n+3:Nat) n (n+1:Nat) [n] [(n+1:Nat),m]:=by
 have n1: ∀{a b:Nat},a≠b->(a:Addr)∉([b]:List Addr):=fun h q=>h (List.mem_singleton.mp q)
 exact ⟨List.mem_cons_self,List.mem_cons_self,n1 (a:=n+4) (by omega),CQ (a:=n+4) (b:=n+1) (c:=m) (by omega) (by omega),n1 (a:=n+3) (by omega),CQ (a:=n+3) (b:=n+1) (c:=m) (by omega) (by omega),
  CQ (a:=n) (b:=n+1) (c:=m) (by omega) (by omega),n1 (a:=n+1) (by omega),BM (a:=n+2) (b:=n+4) (by omega),BM (a:=n+2) (b:=n+3) (by omega),BM (a:=n+2) (b:=n) (by omega),BM (a:=n+2) (b:=n+1) (by omega),BM (a:=n+3) (b:=n+4) (by omega)⟩
section
variable {X:Cx} {elts:List Expr} {k:Nat} {pos':Pos} {a b:Expr} {ta:TA} {p pos:Pos}
noncomputable abbrev KD (l:List Nat):Hp->List V->Prop:=fun _ xs=>xs=bX l
noncomputable def GK (K:PySem.W.Frag) (ta:TA):TI:=fun σ H R=>ta σ H fun vs H1=> ∃l b,vs=[.str (S l), .ref b]/\(∃ys,aY K H1 b ys)/\R (Er (KD l) (xH K b)) H1
theorem Ab (K:PySem.W.Frag) (hK:X.K=K) (hg:Gl X "zip") (hm:X.mg "zip"=none) (ha:PA X [a,b] ta) (hs:starEach [a,b] X.env=[(false,eval a X.env),(false,eval b X.env)]:=by rfl) (lD:starEach [b] X.env=[(false,eval b X.env)]:=by rfl):
  PI X (.Tuple elts k pos') (.Call (.Name "zip" p) [a,b] [] pos) (GK K ta):=by
 subst hK
 intro pins s σ H R I h
 refine Call_ (cM I hg hm boot_zip (PyProof.Rows.callWith_type1 (bU (ha pos pins s σ H _ I h) fun us s1 ⟨vs,H1,I1,r1,q1⟩=>?_) (by rw[hs,lD]) (by rw[lD];rfl)))
 obtain ⟨l,v,rfl,⟨ys,hy⟩,q⟩:=q1
 obtain ⟨u',v',rfl,ru,rv⟩:=vals2 r1
 obtain ⟨t,rfl⟩:=ru
 cases rv
 obtain ⟨yi,_,py,_⟩:=I1.tuple hy
 obtain ⟨oy,ey,_⟩:=id py
 have lv:=Heap.lt_size ey
 refine GJ (S l) t v yi.toArray py fun h' z1 z2 z3 z4 z5 kk=>wpAny_pyIter_zip z1 ?_
 refine ⟨s1.heap.objs.size+4,[s1.heap.objs.size+4,s1.heap.objs.size+2,s1.heap.objs.size+3,s1.heap.objs.size,s1.heap.objs.size+1],_,_,H1,rfl,I1.kept (t':=s1.toks) kk,xI (GH s1.heap.objs.size l t) ((uR v (s1.heap.objs.size+1)).zt (Nat.ne_of_lt (Nat.lt_succ_of_lt lv))) (CU lv),
  ⟨z1,z2,⟨_,_,z3⟩,⟨_,z4,rfl,rfl⟩,⟨_,z5,rfl,rfl⟩⟩,fun e he=>?_,q⟩
 have KG:s1.heap.objs.size<=e:=by
  simp only[List.mem_cons,List.not_mem_nil,or_false]at he
  rcases he with g | g | g | g | g<;>rw[g]<;>omega
 exact I1.jD KG (I1.bq.fresh KG)
end
end L2
namespace L2
open PySem PySem.Spec PyProof.Rows
section
variable {X:Cx}
noncomputable def CV:List V->Hp->VK->Prop:=fun xs H Q=> ∃x,xs=[x, .ty "tuple"]/\((∃p ys,x= .ref p/\H p=some (.tup ys)/\Q (.bl true) H)\/(∃z,x= .str z/\Q (.bl false) H)\/ ∃i,x= .int i/\Q (.bl false) H)
theorem sf (K:PySem.W.Frag) (h:X.K=K):cY X (.builtin "isinstance") CV:=by
 subst h
 intro pins s σ H xs us Q I r h
 obtain ⟨x,rfl,h⟩:=h
 obtain ⟨u,w',rfl,r1,r2⟩:=vals2 r
 cases (show w'=Value.type "tuple" from r2)
 rcases h with ⟨p,ys,rfl,hq,q⟩ | ⟨z,rfl,q⟩ | ⟨i,rfl,q⟩
 ·exact iP I r1 (.tup hq) (by unfold PySem.W.kitOne;rw[if_pos (by decide)]) fun tk=>⟨.bl true,H,I.tok _,rfl,q⟩
 ·exact iP I r1 (.str z) (b:=false) (by unfold PySem.W.kitOne;rw[if_neg (by decide)];rfl) fun tk=>⟨.bl false,H,I.tok _,rfl,q⟩
 ·exact iP I r1 (.int i) (b:=false) (by unfold PySem.W.kitOne;rw[if_neg (by decide)];rfl) fun tk=>⟨.bl false,H,I.tok _,rfl,q⟩
end
end L2
set_option maxHeartbeats 1000000
namespace L2
open PySem PySem.Spec PyProof.Rows
section
variable {X:Cx}
end
end L2
namespace L2
open PySem PySem.Spec PyProof.Rows
section
variable {X:Cx}
end
end L2
namespace L2.F2
open PySem PySem.Spec PyProof.Rows
end L2.F2
namespace L2
open PySem PySem.Spec PyProof.Rows
section
variable {prog:Program} {w:World} {A:Around} {E:Value->Shared->Prop} {s:Shared}
noncomputable def P4 (h:Heap) (it a:Addr) (i:Int):Prop:= ∃o,h.get? it=some o/\o.cls= .type "reversed"/\o.data= .fields #[.ref a,rawInt i]
end
section
variable {X:Cx} {tg:Expr}
end
theorem uS {K:PySem.W.Frag} {a:Addr} {xs:List V} {σc:St} {g:TG} {tc:TT} {te:TE} {Q:VK} {H1:Hp} (Pv:Nat->List V->Hp->Prop) (hn:xs.length<sizeLine) (hl: ∀i acc H,Pv i acc H->aJ K H a xs) (h0:Pv 0 [] H1)
  (hs: ∀(i:Nat) (x:V) (acc:List V) (H:Hp) (T:Addr) (Nx:List V->Hp->Prop),xs[i]? =some x->acc.length<=i->Pv i acc H->H T=none->(∀bH H',bH.length<=i+1->Pv (i+1) bH H'->Nx bH H')->
   g (.ref T) σc (upd H T (.tup [.int i,x])) fun σ2 H2=>Wk σc σ2/\tc σ2 H2 fun b H3=>if b=true then te σ2 H3 fun v H4=>Nx (acc++[v]) H4 else Nx acc H3)
  (hd: ∀acc H D,acc.length<=xs.length->Pv xs.length acc H->H D=none->Q (.ref D) (upd H D (.lst acc))):jK (xA K a) σc g tc te Q H1:=by
 refine ⟨fun i m acc H=>m=xs.length - i/\i<=xs.length/\acc.length<=i/\Pv i acc H,⟨xs.length,by simp,Nat.zero_le _,Nat.le_refl _,h0⟩,?_⟩
 rintro i m acc H ⟨rfl,hi,jA,p⟩
 refine ⟨by omega,?_⟩
 by_cases cN:i<xs.length
 ·refine .inr ⟨⟨xs,xs[i],hl i acc H p,List.getElem?_eq_getElem cN⟩,fun x H' y=>?_⟩
  obtain ⟨T,z,hy,rfl,hT,rfl⟩:=y
  exact hs i z acc _ T (fun bH H'=> ∃m',m'<xs.length - i/\(m'=xs.length - (i+1)/\i+1<=xs.length/\bH.length<=i+1/\Pv (i+1) bH H')) (hy xs (hl i acc H p)) jA p hT fun bH H' h1 h2=>⟨xs.length - (i+1),by omega,rfl,cN,h1,h2⟩
 ·have e:i=xs.length:=by omega
  subst e
  exact .inl ⟨⟨xs,hl _ acc H p,rfl⟩,fun D hD=>hd acc H D jA p hD⟩
end L2
set_option maxHeartbeats 1000000
namespace L2
open PySem PySem.Spec PyProof.Rows
section
variable {X:Cx}
noncomputable def GL:List V->Hp->VK->Prop:=fun xs H Q=> ∃d kvs,xs=[.ref d]/\H d=some (.dK kvs)/\kvs.length<=100000/\ ∀l,H l=none->Q (.ref l) (upd H l (.lst (kvs.map fun kv=>kV kv.1)))
theorem xJ {P:Program} {w:World} {k:Key} {u:Value} (h:(bJ P w).is k u=true):RelV (kV k) u:=by
 rcases bQ h with ⟨i,t,rfl,rfl⟩ | ⟨x,t,rfl,rfl⟩
 ·exact ⟨t,rfl⟩
 ·exact ⟨t,rfl⟩
theorem uT (hc:X.calm=true):cY X (.type "list") GL:=by
 intro pins s σ H xs us Q I r h
 obtain ⟨d,kvs,rfl,hd,hz,q⟩:=h
 obtain ⟨u,rfl,ru⟩:=vals1 r
 cases ru
 obtain ⟨z,lo,ws,kv,dd⟩:=zV I.bq hd
 obtain ⟨o,es,ep,ho,he,Gz,hk,P5,hn⟩:=dd
 have hm:s.heap.DictAt (bJ X.prog X.w) d ws ep:=⟨o,es,ho,he,Gz,hk,P5,hn⟩
 have Yg:ws.length=kvs.length:=kv.length.symm
 have KH:=kv.keys
 have hs:(100000:Nat)<sizeLine:=by decide
 refine PySem.W.kdl_call (PySem.W.kdl_dict (knd:=bJ X.prog X.w) (kvs:=ws) (ep:=ep) lo) (I.ok.hd hc) hm (by omega) fun h' tk bH c' Yh e uA=>?_
 obtain ⟨h1,h2⟩:=uA
 refine ⟨.ref s.heap.objs.size,_,I.laid (t':=tk) (o:= .lst (kvs.map fun kv=>kV kv.1)) Yh (Nat.le_refl _) ?_,rfl,q _ I.fresh⟩
 refine ⟨by rw[List.length_map];omega,bH.toList,c',?_,by simpa using e⟩
 have gen: ∀(l:List (Key×V)) (vs:List Value),vs.length=l.length->(∀(j:Nat) (v:Value),vs[j]? =some v-> ∃k,(l.map (·.1))[j]? =some k/\(bJ X.prog X.w).is k v=true)->Vals (l.map fun kv=>kV kv.1) vs:=by
  intro l
  induction l with
  | nil=>intro vs hl _;cases vs with
   | nil=>exact .nil
   | cons _ _=>cases hl
  | cons p l ih=>
   intro vs hl h
   cases vs with
   | nil=>cases hl
   | cons v vs=>
    obtain ⟨k,hk,hi⟩:=h 0 v rfl
    cases hk
    exact .cons (xJ hi) (ih vs (by simpa using hl) fun j w hj=>by have:=h (j+1) w (by simpa using hj);simpa using this)
 refine gen kvs bH.toList (by rw[<-Yg];simpa using h1) fun j v ej=>?_
 obtain ⟨k,x,ek,ei⟩:=h2 j v (by simpa using ej)
 refine ⟨k,?_,ei⟩
 rw[KH,List.getElem?_map,ek]
 rfl
theorem Ac {i:Nat} (h:(i:Int)<2 ^ 63):Builtin.List.listFitsIndex (i:Int)=true:=by
 unfold Builtin.List.listFitsIndex
 rw[Bool.and_eq_true]
 exact ⟨decide_eq_true (by omega),decide_eq_true (by omega)⟩
noncomputable def CW:V->List V->Hp->VK->Prop:=fun x vs H Q=> ∃(l:Addr) (xs:List V) (i:Nat) (y:V),x= .ref l/\vs=[.int i,y]/\H l=some (.lst xs)/\i<=xs.length/\xs.length<sizeLine/\Q .cy (upd H l (.lst (xs.take i++y::xs.drop i)))
theorem fo:Iv X "list.insert" CW:=by
 intro pins s σ H x vs v us Q I rx rv h
 obtain ⟨l,xs,i,y,rfl,rfl,hH,hi,hz,q⟩:=h
 cases rx
 obtain ⟨a,b,rfl,⟨t,rfl⟩,rb⟩:=vals2 rv
 obtain ⟨z,az,n,r,hl,e⟩:=I.lg hH
 have hn:=fZ
 have hf: ¬(!Builtin.List.listFitsIndex (i:Int))=true:=by rw[Ac (by omega)];decide
 have hsz:az.toArray.size<=sizeLine:=by rw[List.size_toArray];omega
 generalize hI:(i:Int)=I' at hf
 have hm:=PySem.AutoSeq1.list_insert_list_int_val_1 l az.toArray n I' t b hf hsz
 refine call_meets F.slot_list_insert ⟨_,e,rfl⟩ F.entry_list_insert (F.args_list_insert_3 _ _ _) hm ⟨e,?_⟩
 clear hm
 refine ⟨.cy,_,I.xp (its':=az.take i++b::az.drop i) hH e ?_ ?_ ?_,rfl,q⟩
 ·have e1:(if I'<0 then (I'+(az.toArray.size:Int)).toNat else min I'.toNat az.toArray.size)=i:=by rw[<-hI,if_neg (by omega),Int.toNat_natCast,List.size_toArray];omega
  show ((az.toArray.extract 0 (if I'<0 then (I'+(az.toArray.size:Int)).toNat else min I'.toNat az.toArray.size)).push b++az.toArray.extract (if I'<0 then (I'+(az.toArray.size:Int)).toNat else min I'.toNat az.toArray.size))=_
  rw[e1]
  apply Array.toList_inj.mp
  simp
  exact List.take_of_length_le (by rw[List.length_drop];exact Nat.le_refl _)
 ·have h1:Vals (xs.take i) (az.take i):=r.take i
  exact h1.append (.cons rb (r.drop i))
 ·rw[List.length_append,List.length_cons,List.length_take,List.length_drop];omega
noncomputable def GN (K:PySem.W.Frag):V->List V->Hp->VK->Prop:=fun x vs H Q=> ∃(p:Addr) (ls:List (List Nat)),x= .str (S [])/\vs=[.ref p]/\aY K H p (ls.map fun l=>V.str (S l))/\(ls.map List.length).sum<=16777216/\Q (.str (S ls.flatten)) H
theorem Ad (K:PySem.W.Frag) (h:X.K=K):vS X "str.join" (GN K):=by
 subst h
 intro pins s σ H x xs v us Q I rx rv h
 obtain ⟨p,ls,rfl,rfl,hq,hz,q⟩:=h
 obtain ⟨t,rfl⟩:=rx
 obtain ⟨u,rfl,ru⟩:=vals1 rv
 cases ru
 obtain ⟨az,r,pl,_⟩:=I.tuple hq
 have e:(S []).length=0:=rfl
 refine join_tuple pl (by simpa using jo r) ?_ fun t' k=>?_
 ·rw[e,Nat.mul_zero,Nat.add_zero,List.map_map]
  have e2:(Str.length ∘ S)=List.length:=by funext l;exact da l
  have e3:((fun x:Str=>x.length) ∘ S)=List.length:=by funext l;exact da l
  first | (rw[e2];exact hz) | (rw[e3];exact hz)
 ·exact ⟨.str (S ls.flatten),H,I.tok _,⟨t',congrArg (fun z=>Value.str z t') (zM ls)⟩,q⟩
noncomputable def xK (ta:TA):TE:=fun σ H Q=>ta σ H fun vs H1=> ∃j:Int,vs=[.int j]/\ -(2 ^ 61)<=j/\j<=1000000/\ ∀q,H1 q=none->Q (.ref q) (upd H1 q (.lst ((List.range j.toNat).map fun (k:Nat)=>V.int (0+(k:Int)))))
noncomputable def xM (ta:TA):TE:=fun σ H Q=>ta σ H fun vs H1=> ∃i j:Int,vs=[.int i, .int j]/\(-(2 ^ 61)<=i/\i<2 ^ 61/\ -(2 ^ 61)<=j/\j<2 ^ 61)/\j - i<=1000000/\ ∀q,H1 q=none->Q (.ref q) (upd H1 q (.lst ((List.range (j - i).toNat).map fun (k:Nat)=>V.int (i+(k:Int)))))
theorem sg {i:Int}: ∀(n:Nat) (vs:List Value),vs.length=n->(∀(j:Nat) (v:Value),vs[j]? =some v-> ∃t,v= .int (i+(j:Int)*1) t)->Vals ((List.range n).map fun (k:Nat)=>V.int (i+(k:Int))) vs
 | 0,vs,hl,_=>by
  obtain rfl:vs=[]:=List.length_eq_zero_iff.mp hl
  exact .nil
 | n+1,vs,hl,h=>by
  have e:vs=vs.take n++[vs[n]'(by omega)]:=by
   conv=>lhs;rw[<-List.take_length (l:=vs),hl,List.take_succ_eq_append_getElem (by omega)]
  obtain ⟨t,ht⟩:=h n (vs[n]'(by omega)) (List.getElem?_eq_getElem _)
  rw[e,List.range_succ,List.map_append]
  refine (sg n (vs.take n) (by rw[List.length_take];omega) fun j w hj=>h j w ?_).append (.cons ⟨t,?_⟩ .nil)
  ·have Yi:=(List.getElem?_eq_some_iff.mp hj).1
   rw[List.length_take]at Yi
   rw[List.getElem?_take_of_lt (by omega)]at hj
   exact hj
  ·rw[ht,Int.mul_one]
theorem si {pins:List (Addr×Obj)} {σ:St} {H:Hp} {s:Shared} {Q:VK} {lo hi:Int} {t u v:Tok} {tk:Nat} (hc:X.calm=true) (I:Inv X pins σ H s) (h1: -(2 ^ 61)<=lo) (h2:lo<2 ^ 61) (h3: -(2 ^ 61)<=hi) (h4:hi<2 ^ 61) (hz:hi - lo<=1000000)
  (q: ∀p,H p=none->Q (.ref p) (upd H p (.lst ((List.range (hi - lo).toNat).map fun (k:Nat)=>V.int (lo+(k:Int)))))):
  wpAny (model X.prog X.w) X.A (call (.type "list") [.ref s.heap.objs.size]) (EP X pins σ Q) X.xe { s with heap:=s.heap.push { cls:= .type "range",data:= .fields #[.int lo t, .int hi u, .int 1 v] },toks:=tk }:=by
 have hs:(1000000:Nat)<sizeLine:=by decide
 refine PySem.call_list_range (n:=(hi - lo).toNat) (I.ok.hd hc) (IsRange.new ..) (small_one (by omega) (by omega) (by omega) (by omega)) (by rw[rangeSize_one];split<;>omega) (by omega) fun h' MP bH c' hk e uA=>?_
 obtain ⟨GO,Yj⟩:=uA
 have hsz:(s.heap.push { cls:= .type "range",data:= .fields #[.int lo t, .int hi u, .int 1 v] }).objs.size=s.heap.objs.size+1:=Heap.size_push _ _
 refine ⟨.ref _,_,I.laid (t':=MP) (o:= .lst ((List.range (hi - lo).toNat).map fun (k:Nat)=>V.int (lo+(k:Int)))) (fun b o hb=>hk b o (Heap.get?_push_of_some _ hb)) (Nat.le_of_lt (by show s.heap.objs.size<_;rw[hsz];exact Nat.lt_succ_self _)) ?_,rfl,q _ (I.bq.fresh (Nat.le_of_lt (by show s.heap.objs.size<_;rw[hsz];exact Nat.lt_succ_self _)))⟩
 exact ⟨by rw[List.length_map,List.length_range];omega,bH.toList,c',sg _ _ (by simpa using GO) (fun j v e=>Yj j v (by simpa using e)),by simpa using e⟩
theorem iE {a:Expr} {ta:TA} {p p2 pos qu:Pos} (hc:X.calm=true) (P6:Gl X "list") (CY:X.mg "list"=none) (hg:Gl X "range") (hm:X.mg "range"=none) (ha:PA X [a] ta)
  (hs:starEach [a] X.env=[(false,eval a X.env)]:=by rfl) (lD:starEach [.Call (.Name "range" p2) [a] [] qu] X.env=[(false,eval (.Call (.Name "range" p2) [a] [] qu) X.env)]:=by rfl):
  PE X (.Call (.Name "list" p) [.Call (.Name "range" p2) [a] [] qu] [] pos) (xK ta):=by
 intro pins s σ H Q I h
 refine Call_ (cM I P6 CY boot_list (PyProof.Rows.callWith_type1 ?_ lD rfl))
 rw[lD]
 refine Calls.spliced_cons ?_
 refine Call_ (cM I hg hm boot_range (PyProof.Rows.callWith_type1 (bU (ha qu pins s σ H _ I h) fun us s1 ⟨vs,H1,I1,r1,q1⟩=>?_) hs rfl))
 obtain ⟨j,rfl,q1,q2,q⟩:=q1
 obtain ⟨u,rfl,t,rfl⟩:=vals1 r1
 refine call_range_1 ?_
 refine Calls.spliced_nil ?_
 refine si hc I1 (by omega) (by omega) q1 (by omega) (by omega) (by simpa using q)
theorem kP {a b:Expr} {ta:TA} {p p2 pos qu:Pos} (hc:X.calm=true) (P6:Gl X "list") (CY:X.mg "list"=none) (hg:Gl X "range") (hm:X.mg "range"=none) (ha:PA X [a,b] ta)
  (hs:starEach [a,b] X.env=[(false,eval a X.env),(false,eval b X.env)]:=by rfl) (V6:starEach [b] X.env=[(false,eval b X.env)]:=by rfl) (lD:starEach [.Call (.Name "range" p2) [a,b] [] qu] X.env=[(false,eval (.Call (.Name "range" p2) [a,b] [] qu) X.env)]:=by rfl):
  PE X (.Call (.Name "list" p) [.Call (.Name "range" p2) [a,b] [] qu] [] pos) (xM ta):=by
 intro pins s σ H Q I h
 refine Call_ (cM I P6 CY boot_list (PyProof.Rows.callWith_type1 ?_ lD rfl))
 rw[lD]
 refine Calls.spliced_cons ?_
 refine Call_ (cM I hg hm boot_range (PyProof.Rows.callWith_type1 (bU (ha qu pins s σ H _ I h) fun us s1 ⟨vs,H1,I1,r1,q1⟩=>?_) (by rw[hs,V6]) (by rw[V6];rfl)))
 obtain ⟨i,j,rfl,⟨q1,q2,q3,q4⟩,q5,q⟩:=q1
 obtain ⟨u,u',rfl,⟨t,rfl⟩,⟨t',rfl⟩⟩:=vals2 r1
 refine call_range_2 ?_
 refine Calls.spliced_nil ?_
 exact si hc I1 q1 q2 q3 q4 q5 q
end
end L2
namespace L2
open PySem PySem.Spec PyProof.Rows PySem.W
section
noncomputable def Ev (lt:Nat->Nat->Bool) (n:Nat) {α:Type}:KasT α->(α->Prop)->Prop
 | .ret a,Q=>Q a
 | .ask i j k,Q=>i<n/\j<n/\Ev lt n (k (lt i j)) Q
structure Tot (lt:Nat->Nat->Bool) (n:Nat):Prop where
 tr: ∀a b c,lt b a=false->lt c b=false->lt c a=false
 sm: ∀a b,lt a b=true->lt b a=false
 tt: ∀a b,a<n->b<n->a≠b->lt a b=false->lt b a=true
noncomputable def Pm (p:Array Nat) (n:Nat):Prop:=p.Perm (List.range n).toArray
section
variable {lt:Nat->Nat->Bool} {n:Nat}
end
end
section
variable {prog:Program} {w:World} {A:Around} {E:Value->Shared->Prop} {s:Shared}
end
section
variable {X:Cx}
end
end L2
namespace L2
open PySem PySem.Spec PyProof.Rows
noncomputable def IF (lo:Int) (n:Nat):It:=⟨fun i _=>i<n,fun i H x H'=>H'=H/\x= .int (lo - i),fun i _=>n<=i⟩
theorem sj {P:Program} {w:World} {K:PySem.W.Frag} {tg:Expr} (it:Addr) (lo:Int) (n:Nat):Turn P w K tg (IF lo n) [it] it (fun i h=>IsRangeIter h it (lo+(i:Nat)*(-1)) ((n:Int) - (i:Nat)) (-1)) where
 mem:=by simp
 obj:=fun i h st b hb=>by
  have e:b=it:=by simpa using hb
  subst e
  exact ⟨_,st,fun v z=>by
   have z':Data.fields _=Data.cell v:=z
   cases z'⟩
 keep:=fun i h h' st k=>k it (by simp) _ st
 item:=by
  intro X hP hw hK hc i pins s σ H E I hf st hg
  subst hP hw hK
  obtain ⟨f0,f1,f2,f3,f4,f5⟩:=hf it (by simp)
  have W:=Walks.range (prog:=X.prog) (w:=X.w) (I.ok.hd hc) it lo (-1) n
  refine W.item i s _ _ hg st fun v h' tk hv lC kk=>?_
  obtain ⟨t,rfl⟩:=hv
  have I1:Inv X pins σ H { s with heap:=h',toks:=tk }:=I.turned (fun b o hb e=>kk b o (by simpa using hb) e) f0 f1 f3 f4 f5
  refine ⟨_,rfl,lU (s:={ s with heap:=h',toks:=tk }) (n:="range_iterator") lC rfl rfl (by decide) ⟨.int (lo - i),H,I1,⟨t,?_⟩,⟨rfl,rfl⟩,lC,fun b hb=>(hf b hb).1⟩⟩
  have e:lo+(i:Int)*(-1)=lo - (i:Int):=by omega
  rw[e]
 done:=by
  intro X hP hw hK hc i pins s σ H E I hf st hg
  subst hP hw hK
  obtain ⟨f0,f1,f2,f3,f4,f5⟩:=hf it (by simp)
  exact wpAny_pyNext_range_end (I.ok.hd hc) st (by have:n<=i:=hg;omega) fun h' eb=>⟨rfl,I.turned (t':=s.toks) (fun b o hb e=>eb b o hb e) f0 f1 f3 f4 f5⟩
 self:=fun _ _ _ _ _ st h=>wpAny_pyIter_rangeiter st h
section
variable {X:Cx} {tg:Expr}
theorem xN {pins:List (Addr×Obj)} {σ:St} {H:Hp} {s:Shared} {R:It->Hp->Prop} {E:Value->Shared->Prop} {lo hi:Int} {t u v:Tok} {tk:Nat} (I:Inv X pins σ H s) (h1: -(2 ^ 62)<=lo) (h2:lo<2 ^ 62) (h3: -(2 ^ 62)<=hi) (h4:hi<2 ^ 62)
  (q:R (IF lo (lo - hi).toNat) H):wpAny (model X.prog X.w) X.A (pyIter (.ref s.heap.objs.size)) (OL X pins σ tg R) E { s with heap:=s.heap.push { cls:= .type "range",data:= .fields #[.int lo t, .int hi u, .int (-1) v] },toks:=tk }:=by
 refine wpAny_pyIter_range (IsRange.new ..) (PySem.W.small_down h1 h2 h3 h4) ?_
 have I1:Inv X pins σ H { s with heap:=s.heap.push { cls:= .type "range",data:= .fields #[.int lo t, .int hi u, .int (-1) v] },toks:=tk }:=I.kept fun b o e=>Heap.get?_push_of_some _ e
 refine ⟨(s.heap.push { cls:= .type "range",data:= .fields #[.int lo t, .int hi u, .int (-1) v] }).objs.size,[(s.heap.push { cls:= .type "range",data:= .fields #[.int lo t, .int hi u, .int (-1) v] }).objs.size],_,_,H,rfl,
  I1.kept (t':=tk) fun b o e=>Heap.get?_push_of_some _ e,sj _ lo (lo - hi).toNat,?_,fun b hb=>?_,q⟩
 ·have e1:lo+((0:Nat):Int)*(-1)=lo:=by simp
  have e2:(((lo - hi).toNat:Nat):Int) - ((0:Nat):Int)=Builtin.Range.rangeSize lo hi (-1):=by rw[PySem.W.rangeSize_downNat];omega
  show IsRangeIter _ _ (lo+((0:Nat):Int)*(-1)) ((((lo - hi).toNat:Nat):Int) - ((0:Nat):Int)) (-1)
  rw[e1,e2]
  exact Heap.get?_push_size _ rfl
 ·have e:b=(s.heap.push { cls:= .type "range",data:= .fields #[.int lo t, .int hi u, .int (-1) v] }).objs.size:=by simpa using hb
  subst e
  exact I1.jD (Nat.le_refl _) (I1.bq.fresh (Nat.le_refl _))
noncomputable def KI (ta:TA):TI:=fun σ H R=>ta σ H fun vs H1=> ∃i j:Int,vs=[.int i, .int j, .int (-1)]/\(-(2 ^ 62)<=i/\i<2 ^ 62/\ -(2 ^ 62)<=j/\j<2 ^ 62)/\R (IF i (i - j).toNat) H1
theorem xO {a b c:Expr} {ta:TA} {p pos:Pos} (hg:Gl X "range") (hm:X.mg "range"=none) (ha:PA X [a,b,c] ta) (hs:starEach [a,b,c] X.env=[(false,eval a X.env),(false,eval b X.env),(false,eval c X.env)]:=by rfl)
  (lD:starEach [b,c] X.env=[(false,eval b X.env),(false,eval c X.env)]:=by rfl):PI X tg (.Call (.Name "range" p) [a,b,c] [] pos) (KI ta):=by
 intro pins s σ H R I h
 refine Call_ (cM I hg hm boot_range (PyProof.Rows.callWith_type1 (bU (ha pos pins s σ H _ I h) fun us s1 ⟨vs,H1,I1,r1,q1⟩=>?_) (by rw[hs,lD]) (by rw[lD];rfl)))
 obtain ⟨i,j,e,⟨q1,q2,q3,q4⟩,q⟩:=q1
 subst e
 cases r1 with
 | cons r rr=>
  cases rr with
  | cons r' rr=>
   cases rr with
   | cons Yk rr=>
    cases rr
    obtain ⟨t,rfl⟩:=r
    obtain ⟨t',rfl⟩:=r'
    obtain ⟨t'',rfl⟩:=Yk
    exact call_range_3 (by decide) (xN I1 q1 q2 q3 q4 q) (Or.inl (PyProof.noPylong_of_log2 (by decide+kernel)))
end
theorem uU {lo:Int} {n:Nat} {g:TG} {tb:TS} {D:Ends} {σ:St} {H:Hp} (Pv:Nat->St->Hp->Prop) (h0:Pv 0 σ H)
  (hs: ∀i σ H,i<n->Pv i σ H->g (.int (lo - i)) σ H fun σ2 H2=>tb { D with nx:=Pv (i+1),ct:=Pv (i+1),bk:=D.nx } σ2 H2) (hd: ∀σ H,Pv n σ H->D.nx σ H):
  ∃W:Nat->Nat->St->Hp->Prop,(∃m,W 0 m σ H)/\ ∀i m σ H,W i m σ H->
   ((IF lo n).stop i H/\D.nx σ H)\/((IF lo n).go i H/\ ∃N:St->Hp->Prop,(∀σ' H',N σ' H'-> ∃m',m'<m/\W (i+1) m' σ' H')/\ ∀x H',(IF lo n).uh i H x H'->g x σ H' fun σ2 H2=>tb { D with nx:=N,ct:=N,bk:=D.nx } σ2 H2):=by
 refine ⟨fun i m σ H=>m=n - i/\i<=n/\Pv i σ H,⟨n,by simp,Nat.zero_le _,h0⟩,?_⟩
 rintro i m σ H ⟨rfl,hi,p⟩
 by_cases cN:i<n
 ·refine .inr ⟨cN,Pv (i+1),fun σ' H' p'=>⟨n - (i+1),by omega,rfl,cN,p'⟩,fun x H' y=>?_⟩
  obtain ⟨e,y⟩:=y
  subst e y
  exact hs i σ _ cN p
 ·have e:i=n:=by omega
  subst e
  exact .inl ⟨Nat.le_refl _,hd σ H p⟩
noncomputable def Ae (K:PySem.W.Frag) (a:Addr) (n:Nat):It:=
 ⟨fun i H=> ∃xs x,aJ K H a xs/\xs.length=n/\xs.reverse[i]? =some x,fun i H x H'=>H'=H/\ ∀xs,aJ K H a xs->xs.reverse[i]? =some x,fun i H=>i=n⟩
theorem xP {P:Program} {w:World} {K:PySem.W.Frag} {tg:Expr} (a it:Addr) (n:Nat) (hz:n<=sizeLine):Turn P w K tg (Ae K a n) [it] it (fun i h=>i<=n/\h.IsRevIter it a ((n:Int) - 1 - (i:Int))) where
 mem:=by simp
 obj:=fun i h st b hb=>by
  have e:b=it:=by simpa using hb
  subst e
  obtain ⟨_,o,e,c,d⟩:=st
  exact ⟨o,e,fun v z=>by rw[d]at z;cases z⟩
 keep:=fun i h h' st k=>let ⟨q,o,e,r⟩:=st;⟨q,o,k it (by simp) o e,r⟩
 item:=by
  intro X hP hw hK hc i pins s σ H E I hf st hg
  subst hP hw hK
  obtain ⟨xs,x,hq,hl,hx⟩:=hg
  obtain ⟨az,rv,p,MY⟩:=I.list hq
  have Af:=rv.length
  have hi:i<n:=by have:=(List.getElem?_eq_some_iff.mp hx).1;rw[List.length_reverse]at this;omega
  obtain ⟨f0,f1,f2,f3,f4,f5⟩:=hf it (by simp)
  obtain ⟨_,st⟩:=st
  have e:(n:Int) - 1 - (i:Int)=((n - 1 - i:Nat):Int):=by omega
  rw[e]at st
  rw[List.getElem?_reverse (by omega),hl]at hx
  obtain ⟨u,hu,ru⟩:=rv.get hx
  refine wpAny_pyNext_rev_item (items:=az.toArray) (x:=u) st p.isList (by simpa using hu) fun h' lC sb=>?_
  have I1:Inv X pins σ H { s with heap:=h' }:=I.turned (t':=s.toks) (fun b o hb e=>(sb.2 b hb).trans e) f0 f1 f3 f4 f5
  obtain ⟨o,e1,cc,d⟩:=id lC
  refine ⟨u,rfl,lU (s:={ s with heap:=h' }) e1 cc d (by decide) ⟨x,H,I1,ru,⟨rfl,fun ys hy=>?_⟩,⟨hi,?_⟩,fun b hb=>(hf b hb).1⟩⟩
  ·rw[I.lS hy hq,List.getElem?_reverse (by omega),hl];exact hx
  ·have e2:(n:Int) - 1 - ((i+1:Nat):Int)=((n - 1 - i:Nat):Int) - 1:=by omega
   rw[e2]
   exact lC
 done:=by
  intro X hP hw hK hc i pins s σ H E I hf st hg
  subst hP hw hK
  obtain ⟨f0,f1,f2,f3,f4,f5⟩:=hf it (by simp)
  obtain ⟨hi,st⟩:=st
  have uF:i=n:=hg
  have e:(n:Int) - 1 - (i:Int)= -1:=by omega
  rw[e]at st
  exact wpAny_pyNext_rev_end (I.ok.hd hc) st fun h' eb=>⟨rfl,I.turned (t':=s.toks) (fun b o hb e=>eb b o hb e) f0 f1 f3 f4 f5⟩
 self:=fun _ _ _ _ _ st h=>wpAny_pyIter_revIter st.2 h
section
variable {X:Cx} {tg:Expr}
noncomputable def KJ (K:PySem.W.Frag) (ta:TA):TI:=fun σ H R=>ta σ H fun vs H1=> ∃a xs,vs=[.ref a]/\aJ K H1 a xs/\R (Ae K a xs.length) H1
theorem CZ (K:PySem.W.Frag) (hK:X.K=K) {a:Expr} {ta:TA} {p pos:Pos} (hg:Gl X "reversed") (hm:X.mg "reversed"=none) (ha:PA X [a] ta) (hs:starEach [a] X.env=[(false,eval a X.env)]:=by rfl):PI X tg (.Call (.Name "reversed" p) [a] [] pos) (KJ K ta):=by
 subst hK
 intro pins s σ H R I h
 refine Call_ (cM I hg hm boot_reversed (PyProof.Rows.callWith_type1 (bU (ha pos pins s σ H _ I h) fun us s1 ⟨vs,H1,I1,r1,q1⟩=>?_) hs rfl))
 obtain ⟨b,xs,rfl,hq,q⟩:=q1
 obtain ⟨u,rfl,ru⟩:=vals1 r1
 cases (show u=Value.ref b from ru)
 obtain ⟨az,rv,pl,hz⟩:=I1.list hq
 have hl:=rv.length
 have hsz:az.toArray.size=xs.length:=by rw[List.size_toArray];omega
 refine call_reversed_list pl.isList ?_
 rw[hsz]
 have hit:(s1.heap.push (revObj b ((xs.length:Int) - 1))).IsRevIter s1.heap.objs.size b ((xs.length:Int) - 1):=⟨_,Heap.get?_push_size _ rfl,rfl,rfl⟩
 refine wpAny_pyIter_revIter hit ?_
 refine ⟨s1.heap.objs.size,[s1.heap.objs.size],_,_,H1,rfl,I1.kept (t':=s1.toks) fun b o e=>Heap.get?_push_of_some _ e,xP b _ xs.length hz,⟨Nat.zero_le _,?_⟩,fun b hb=>?_,q⟩
 ·have e:(xs.length:Int) - 1 - ((0:Nat):Int)=(xs.length:Int) - 1:=by simp
  rw[e]
  exact hit
 ·have e:b=s1.heap.objs.size:=by simpa using hb
  subst e
  exact I1.jD (Nat.le_refl _) (I1.bq.fresh (Nat.le_refl _))
end
theorem Ag {K:PySem.W.Frag} {a:Addr} {xs:List V} {g:TG} {tb:TS} {D:Ends} {σ:St} {H:Hp} (Pv:Nat->St->Hp->Prop) (h0:Pv 0 σ H) (hl: ∀i σ H,i<=xs.length->Pv i σ H->aJ K H a xs)
  (hs: ∀i x σ H,xs.reverse[i]? =some x->Pv i σ H->g x σ H fun σ2 H2=>tb { D with nx:=Pv (i+1),ct:=Pv (i+1),bk:=D.nx } σ2 H2) (hd: ∀σ H,Pv xs.length σ H->D.nx σ H):
  ∃W:Nat->Nat->St->Hp->Prop,(∃m,W 0 m σ H)/\ ∀i m σ H,W i m σ H->
   ((Ae K a xs.length).stop i H/\D.nx σ H)\/((Ae K a xs.length).go i H/\ ∃N:St->Hp->Prop,(∀σ' H',N σ' H'-> ∃m',m'<m/\W (i+1) m' σ' H')/\ ∀x H',(Ae K a xs.length).uh i H x H'->g x σ H' fun σ2 H2=>tb { D with nx:=N,ct:=N,bk:=D.nx } σ2 H2):=by
 refine ⟨fun i m σ H=>m=xs.length - i/\i<=xs.length/\Pv i σ H,⟨xs.length,by simp,Nat.zero_le _,h0⟩,?_⟩
 rintro i m σ H ⟨rfl,hi,p⟩
 have q:=hl i σ H hi p
 by_cases cN:i<xs.length
 ·refine .inr ⟨⟨xs,xs.reverse[i]'(by rw[List.length_reverse];exact cN),q,rfl,List.getElem?_eq_getElem _⟩,Pv (i+1),fun σ' H' p'=>⟨xs.length - (i+1),by omega,rfl,cN,p'⟩,fun x H' y=>?_⟩
  obtain ⟨e,y⟩:=y
  subst e
  exact hs i x σ _ (y xs q) p
 ·have e:i=xs.length:=by omega
  subst e
  exact .inl ⟨rfl,hd σ H p⟩
end L2
namespace L2
open PySem PySem.Spec PyProof.Rows PySem.MeetsSeq PySem.SeqAt
section
variable {X:Cx}
noncomputable def C0 (K:PySem.W.Frag):V->List V->Hp->VK->Prop:=fun x vs H Q=> ∃(p:Addr) (xs:List V) (v:V) (ds:List PyData) (d:PyData) (j:Nat),x= .ref p/\vs=[v]/\H p=some (.lst xs)/\f_ K H xs ds/\mx K H v d/\(PyData.canLayAll0 ds=true/\d.canLay0=true)/\d.depth<=60/\
 (∃e,ds[j]? =some e/\PyData.eqv e d=true)/\(∀m e,m<j->ds[m]? =some e->PyData.eqv e d=false)/\Q (.int (j:Nat)) H
theorem xQ {k:Nat} (K:PySem.W.Frag) (h:X.K=K) (hr:fP k X.A):vS X "list.index" (C0 K):=by
 subst h
 intro pins s σ H x vs v us Q I rx rv h
 obtain ⟨p,xs,y,ds,d,j,rfl,rfl,hH,rs,rd,⟨l1,l2⟩,dp,⟨ej,KC,yj⟩,no,q⟩:=h
 cases rx
 obtain ⟨u,rfl,ru⟩:=rv.one
 obtain ⟨z,az,n,r,hl,e⟩:=I.lg hH
 obtain ⟨as,ra⟩:=rd.reads I ru
 obtain ⟨bs,rb⟩:=rs.reads I r
 have hu:=hr.units
 have Eo:sizeLine<2 ^ 62:=by decide
 have hm:min (PyData.depthAll ds) d.depth<=60:=Nat.le_trans (Nat.min_le_right _ _) dp
 have qt:az.map (readOf s.heap)=ds:=readsAll_map ds az bs l1 rb
 have zU: ∀m (hm:m<az.toArray.size) (g:PyData),ds[m]? =some g->PyData.eqv (readOf s.heap az.toArray[m]) d=PyData.eqv g d:=fun m hm g hg=>by
  rw[<-qt,List.getElem?_map]at hg
  have yY:m<az.length:=by rw[List.size_toArray]at hm;exact hm
  rw[List.getElem?_eq_getElem yY]at hg
  have:=Option.some.inj hg
  rw[List.getElem_toArray,this]
 have hlen:ds.length=az.length:=by rw[<-qt,List.length_map]
 have hj:j<az.toArray.size:=by rw[List.size_toArray, <-hlen];exact (List.getElem?_eq_some_iff.mp KC).1
 have hjz:j<sizeLine:=by rw[List.size_toArray, <-hl]at hj;omega
 refine call_meets F.slot_list_index ⟨_,e,rfl⟩ F.entry_list_index (F.args_list_index_2 _ _) (SeqAt.list_indexAt p az.toArray n none #[] u (fun w=>PyData.eqv (readOf s.heap w) d) j hj (by omega) (by rw[zU j hj ej KC];exact yj) ?_) ⟨e,?_,?_⟩
 ·intro m hm cN
  have yY:m<ds.length:=by rw[hlen];rw[List.size_toArray]at hm;exact hm
  rw[zU m hm ds[m] (List.getElem?_eq_getElem yY)]
  exact no m _ cN (List.getElem?_eq_getElem yY)
 ·exact items_eqAt (by simpa using rb) ra l1 l2 (by omega)
 ·exact ⟨.int (j:Nat),H,I.tok _,⟨_,rfl⟩,q⟩
end
end L2
namespace L2
open PySem PySem.Spec PyProof.Rows
noncomputable abbrev fG (h:Heap) (z TI TO:Addr) (f0:Value) (f:Bool):Prop:=
 h.get? z=some { cls:= .type "zip",dict:=none,data:= .fields #[f0, .bool f, .bool false, .ref TI, .ref TO],slots:= #[] }
noncomputable def BN (h:Heap) (z TI TO:Addr):Prop:= ∃f0 f,fG h z TI TO f0 f/\(f0= .none\/ ∃a:Nat,f0=rawInt a)
theorem BN.keep {h h':Heap} {z TI TO:Addr} (x:BN h z TI TO) (k: ∀o,h.get? z=some o->h'.get? z=some o):BN h' z TI TO:=by
 obtain ⟨f0,f,e,g⟩:=x
 exact ⟨f0,f,k _ e,g⟩
section
variable {prog:Program} {w:World} {A:Around} {E:Value->Shared->Prop} {s:Shared}
variable {z TI TO i1 i2:Addr} {f1 f2:List Addr} {n1 n2 i:Nat} {P1 P2:Nat->Value->Prop} {S1 S2:Nat->Heap->Prop} {a b:Value}
theorem xR {a:Addr} {Q:Option Obj->Shared->Prop} (h:Q (s.heap.get? a) s):wpAny (model prog w) A (loadIfAlive a) Q E s:=by
 exact fun _ _ _=>h
theorem sk {Q:Bool->Shared->Prop} {f0:Value} {f:Bool} (hz:fG s.heap z TI TO f0 f) (h0:f0= .none\/ ∃a:Nat,f0=rawInt a)
  (h: ∀b h' f',fG h' z TI TO f0 f'->h'.objs.size=s.heap.objs.size->(∀c o,c≠z->s.heap.get? c=some o->h'.get? c=some o)->Q b { s with heap:=h' }):
  wpAny (model prog w) A (Builtin.SmallTypes.ownedTupleIsFree (.ref z)) Q E s:=by
 unfold Builtin.SmallTypes.ownedTupleIsFree
 refine wpAny_bind (m:=field (.ref z) 0) (wpAny_field hz rfl (x:=f0) rfl ?_)
 rcases h0 with rfl | ⟨a,rfl⟩
 ·exact wpAny_pure (h true s.heap f hz rfl fun c o _ e=>e)
 ·show wpAny _ _ (loadIfAlive (a:Int).toNat >>= _) _ _ s
  refine wpAny_bind (xR ?_)
  cases hg:s.heap.get? (a:Int).toNat with
  | none=>exact wpAny_pure (h true s.heap f hz rfl fun c o _ e=>e)
  | some o=>
   show wpAny _ _ (field (.ref z) 1 >>= _) _ _ s
   refine wpAny_bind (wpAny_field hz rfl (x:= .bool f) rfl ?_)
   cases f with
   | true=>exact wpAny_pure (h false s.heap true hz rfl fun c o _ e=>e)
   | false=>
    show wpAny _ _ (setField (.ref z) 1 (.bool true) >>= fun _=>pure false) _ _ s
    refine wpAny_bind (wpAny_setField_rec hz (by simp) fun k1 r9 kf=>?_)
    exact wpAny_pure (h false k1 true r9 kf.1 fun c o hc e=>kf.extBut _ _ hc e)
theorem xS {Q:Value->Shared->Prop} (D1:Draws prog w A i1 f1 n1 P1 S1) (D2:Draws prog w A i2 f2 n2 P2 S2) (Z:ZA z TI TO i1 i2 f1 f2)
  (hz:BN s.heap z TI TO) (t_:IsPair s.heap TI (.ref i1) (.ref i2)) (BL:IsPair s.heap TO a b) (h1:S1 i s.heap) (h2:S2 i s.heap) (l1:i<n1) (l2:i<n2)
  (hQ: ∀x y h' tk,P1 i x->P2 i y->BN h' z TI TO->(∃a b,IsPair h' TO a b)->S1 (i+1) h'->S2 (i+1) h'->IsPair h' s.heap.objs.size x y->
   (∀c o,c≠z->c≠TO->c≠i1->c≠i2->s.heap.get? c=some o->h'.get? c=some o)->Q (.ref s.heap.objs.size) { s with heap:=h',toks:=tk }):
  wpAny (model prog w) A (Builtin.«zip.__next__» ⟨[.ref z],[]⟩) (fun fin s'=> ∃v,fin= .done (.ret v)/\Q v s') E s:=by
 obtain ⟨hp,g,d,PR,os⟩:=s
 obtain ⟨f0,f,hz,h0⟩:=hz
 have i1z:=nm Z.m1 Z.z1
 have i2z:=nm Z.m2 Z.z2
 have MQ:=nm Z.m1 Z.o1
 have MR:=nm Z.m2 Z.o2
 have Yf:=nm Z.m2 Z.c1
 refine wpAny_bind (m:=field (.ref z) 2) (wpAny_field hz rfl (x:= .bool false) rfl ?_)
 refine wpAny_bind (m:=field (.ref z) 3) (wpAny_field hz rfl (x:= .ref TI) rfl ?_)
 refine wpAny_bind (m:=seqItems? (.ref TI)) (wpAny_seqItems t_ rfl ?_)
 refine wpAny_bind (m:=Builtin.SmallTypes.ownedTupleIsFree (.ref z)) ?_
 refine sk hz h0 fun b0 k0 f' IG GP wb=>?_
 replace GP:k0.objs.size=hp.objs.size:=GP
 replace wb: ∀c o,c≠z->hp.get? c=some o->k0.get? c=some o:=wb
 have Yl:IsPair k0 TI (.ref i1) (.ref i2):=wb _ _ Z.tz t_
 have KL:IsPair k0 TO a b:=wb _ _ Z.oz BL
 have KN:S1 i k0:=D1.frame _ _ _ h1 fun c hc o e=>wb _ _ (nm hc Z.z1) e
 have V7:S2 i k0:=D2.frame _ _ _ h2 fun c hc o e=>wb _ _ (nm hc Z.z2) e
 cases b0 with
 | true=>
  simp only[if_true]
  refine wpAny_bind (wpAny_rule ?_);refine wpAny_bind (m:=field (.ref z) 4) (wpAny_field IG rfl (x:= .ref TO) rfl ?_)
  refine wpAny_bind (wpAny_setField_rec IG (by simp) fun k1 r9 kf=>?_)
  replace r9:fG k1 z TI TO .ellipsis f':=r9
  replace kf:Heap.SameBut z k0 k1:=kf
  refine wpAny_bind ?_;simp only[List.zipIdx_cons,List.zipIdx_nil,List.forIn_cons,List.forIn_nil]
  refine wpAny_bind (wpAny_bind (wpAny_onRaise ?_));refine wpAny_bind (m:=Builtin.SmallTypes.nextOf (.ref i1)) ?_
  refine D1.item i _ _ _ l1 (D1.frame _ _ _ KN fun c hc o e=>kf.extBut _ _ (nm hc Z.z1) e) fun x k2 V4 px gW jq=>wpAny_pure ?_
  replace jq:Heap.SameBut i1 k1 k2:=jq
  have to2:IsPair k2 TO a b:=jq.extBut _ _ (Ne.symm MQ) (kf.extBut _ _ Z.oz KL)
  refine wpAny_bind (m:=seqItems? (.ref TO)) (wpAny_seqItems to2 rfl ?_)
  refine wpAny_bind (wpAny_updateSeq_pair to2 fun k3 to3 oa=>?_)
  replace to3:IsPair k3 TO x b:=to3
  replace oa:Heap.SameBut TO k2 k3:=oa
  refine wpAny_bind (wpAny_letGo (wpAny_pure ?_));refine wpAny_bind (wpAny_bind (wpAny_onRaise ?_))
  refine wpAny_bind (m:=Builtin.SmallTypes.nextOf (.ref i2)) ?_
  refine D2.item i _ _ _ l2 (D2.frame _ _ _ V7 fun c hc o e=>oa.extBut _ _ (nm hc Z.o2) (jq.extBut _ _ (nm hc Z.c1) (kf.extBut _ _ (nm hc Z.z2) e))) fun y k4 Kv py wa mF=>wpAny_pure ?_
  replace mF:Heap.SameBut i2 k3 k4:=mF
  have Kw:IsPair k4 TO x b:=mF.extBut _ _ (Ne.symm MR) to3
  refine wpAny_bind (m:=seqItems? (.ref TO)) (wpAny_seqItems Kw rfl ?_)
  refine wpAny_bind (wpAny_updateSeq_pair Kw fun k5 CO uP=>?_)
  replace CO:IsPair k5 TO x y:=CO
  replace uP:Heap.SameBut TO k4 k5:=uP
  refine wpAny_bind (wpAny_letGo (wpAny_pure (wpAny_pure ?_)));refine wpAny_bind (m:=seqItems? (.ref TO)) (wpAny_seqItems CO rfl ?_)
  refine wpAny_bind (wpAny_newTuple ?_)
  have sz:k5.objs.size=hp.objs.size:=by rw[uP.1,mF.1,oa.1,jq.1,kf.1,GP]
  have z5:fG k5 z TI TO .ellipsis f':=uP.extBut _ _ (Ne.symm Z.oz) (mF.extBut _ _ (Ne.symm i2z) (oa.extBut _ _ (Ne.symm Z.oz) (jq.extBut _ _ (Ne.symm i1z) r9)))
  have kp: ∀c o,c≠z->c≠TO->c≠i1->c≠i2->hp.get? c=some o->k5.get? c=some o:=fun c o c1 c2 c3 c4 e=>uP.extBut _ _ c2 (mF.extBut _ _ c4 (oa.extBut _ _ c2 (jq.extBut _ _ c3 (kf.extBut _ _ c1 (wb _ _ c1 e)))))
  have CP:S1 (i+1) k5:=D1.frame _ _ _ gW fun c hc o e=>uP.extBut _ _ (nm hc Z.o1) (mF.extBut _ _ (nm hc Z.c2) (oa.extBut _ _ (nm hc Z.o1) e))
  have PU:S2 (i+1) k5:=D2.frame _ _ _ wa fun c hc o e=>uP.extBut _ _ (nm hc Z.o2) e
  have zl:z<k5.objs.size:=Heap.lt_size z5
  refine wpAny_bind (m:=Builtin.SmallTypes.ownedTupleHandOut (.ref z) (.ref k5.objs.size)) ?_
  have z6:fG (k5.push { cls:= .type "tuple",data:= .seq #[x,y] }) z TI TO .ellipsis f':=Heap.get?_push_of_some _ z5
  (unfold Builtin.SmallTypes.ownedTupleHandOut;refine wpAny_bind (wpAny_setField_rec z6 (by simp) fun k7 z7 s7=>?_))
  replace z7:fG k7 z TI TO (rawInt k5.objs.size) f':=z7
  refine wpAny_setField_rec z7 (by simp) fun k8 z8 s8=>?_
  replace z8:fG k8 z TI TO (rawInt k5.objs.size) false:=z8
  have up: ∀c o,c≠z->k5.get? c=some o->k8.get? c=some o:=fun c o c1 e=>s8.extBut _ _ c1 (s7.extBut _ _ c1 (Heap.get?_push_of_some _ e))
  have t8:IsPair k8 k5.objs.size x y:=s8.extBut _ _ (Nat.ne_of_gt zl) (s7.extBut _ _ (Nat.ne_of_gt zl) (Heap.get?_push_size _ rfl))
  rw[sz]at t8
  refine wpAny_pure ⟨_,rfl,?_⟩
  show Q (.ref k5.objs.size) _
  rw[sz]
  exact hQ x y k8 Kv px py ⟨_,_,z8, .inr ⟨_,rfl⟩⟩ ⟨_,_,up _ _ Z.oz CO⟩ (D1.frame _ _ _ CP fun c hc o e=>up c o (nm hc Z.z1) e) (D2.frame _ _ _ PU fun c hc o e=>up c o (nm hc Z.z2) e) t8 fun c o c1 c2 c3 c4 e=>up c o c1 (kp c o c1 c2 c3 c4 e)
 | false=>
  simp only[Bool.false_eq_true,if_false]
  refine wpAny_bind ?_
  rw[<-Array.forIn_toList]
  simp only[List.forIn_cons,List.forIn_nil]
  refine wpAny_bind (wpAny_bind (wpAny_holding ?_));refine wpAny_bind (m:=Builtin.SmallTypes.nextOf (.ref i1)) ?_
  refine D1.item i _ _ _ l1 KN fun x k2 V4 px gW jq=>wpAny_pure (wpAny_pure ?_)
  replace jq:Heap.SameBut i1 k0 k2:=jq
  refine wpAny_bind (wpAny_bind (wpAny_holding ?_));refine wpAny_bind (m:=Builtin.SmallTypes.nextOf (.ref i2)) ?_
  refine D2.item i _ _ _ l2 (D2.frame _ _ _ V7 fun c hc o e=>jq.extBut _ _ (nm hc Z.c1) e) fun y k4 Kv py wa mF=>wpAny_pure (wpAny_pure (wpAny_pure ?_))
  replace mF:Heap.SameBut i2 k2 k4:=mF
  show wpAny _ _ (newTuple [x,y] >>= _) _ _ _
  refine wpAny_bind (wpAny_newTuple ?_)
  have sz:k4.objs.size=hp.objs.size:=by rw[mF.1,jq.1,GP]
  refine wpAny_pure ⟨_,rfl,?_⟩
  show Q (.ref k4.objs.size) _
  have up: ∀c o,k4.get? c=some o->(k4.push { cls:= .type "tuple",data:= .seq #[x,y] }).get? c=some o:=fun c o e=>Heap.get?_push_of_some _ e
  have z4:fG k4 z TI TO f0 f':=mF.extBut _ _ (Ne.symm i2z) (jq.extBut _ _ (Ne.symm i1z) IG)
  have o4:IsPair k4 TO a b:=mF.extBut _ _ (Ne.symm MR) (jq.extBut _ _ (Ne.symm MQ) KL)
  have t8:IsPair (k4.push { cls:= .type "tuple",data:= .seq #[x,y] }) k4.objs.size x y:=Heap.get?_push_size _ rfl
  rw[sz]at t8
  have e0:Value.ref k4.objs.size=Value.ref hp.objs.size:=by rw[sz]
  rw[e0]
  exact hQ x y _ Kv px py ⟨_,_,up _ _ z4,h0⟩ ⟨_,_,up _ _ o4⟩ (D1.frame _ _ _ gW fun c hc o e=>up c o (mF.extBut _ _ (nm hc Z.c2) e)) (D2.frame _ _ _ wa fun c hc o e=>up c o e) t8 fun c o c1 c2 c3 c4 e=>up c o (mF.extBut _ _ c4 (jq.extBut _ _ c3 (wb _ _ c1 e)))
theorem Ah {Q:Fin->Shared->Prop} (D1:Draws prog w A i1 f1 n1 P1 S1) (Z:ZA z TI TO i1 i2 f1 f2)
  (hz:BN s.heap z TI TO) (t_:IsPair s.heap TI (.ref i1) (.ref i2)) (h1:S1 n1 s.heap)
  (hE: ∀h' e,(∀c o,c≠z->c≠TO->c≠i1->c≠i2->s.heap.get? c=some o->h'.get? c=some o)->(∃o,h'.get? e=some o/\o.cls= .type "StopIteration")->E (.ref e) { s with heap:=h' }):
  wpAny (model prog w) A (Builtin.«zip.__next__» ⟨[.ref z],[]⟩) Q E s:=by
 obtain ⟨hp,g,d,PR,os⟩:=s
 obtain ⟨f0,f,hz,h0⟩:=hz
 have i1z:=nm Z.m1 Z.z1
 refine wpAny_bind (m:=field (.ref z) 2) (wpAny_field hz rfl (x:= .bool false) rfl ?_)
 refine wpAny_bind (m:=field (.ref z) 3) (wpAny_field hz rfl (x:= .ref TI) rfl ?_)
 refine wpAny_bind (m:=seqItems? (.ref TI)) (wpAny_seqItems t_ rfl ?_)
 refine wpAny_bind (m:=Builtin.SmallTypes.ownedTupleIsFree (.ref z)) ?_
 refine sk hz h0 fun b0 k0 f' IG GP wb=>?_
 replace GP:k0.objs.size=hp.objs.size:=GP
 replace wb: ∀c o,c≠z->hp.get? c=some o->k0.get? c=some o:=wb
 have KN:S1 n1 k0:=D1.frame _ _ _ h1 fun c hc o e=>wb _ _ (nm hc Z.z1) e
 cases b0 with
 | true=>
  simp only[if_true]
  refine wpAny_bind (wpAny_rule ?_);refine wpAny_bind (m:=field (.ref z) 4) (wpAny_field IG rfl (x:= .ref TO) rfl ?_)
  refine wpAny_bind (wpAny_setField_rec IG (by simp) fun k1 r9 kf=>?_)
  replace r9:fG k1 z TI TO .ellipsis f':=r9
  replace kf:Heap.SameBut z k0 k1:=kf
  refine wpAny_bind ?_;simp only[List.zipIdx_cons,List.zipIdx_nil,List.forIn_cons,List.forIn_nil]
  refine wpAny_bind (wpAny_bind (wpAny_onRaise ?_));refine wpAny_bind (m:=Builtin.SmallTypes.nextOf (.ref i1)) ?_
  refine D1.done _ _ _ (D1.frame _ _ _ KN fun c hc o e=>kf.extBut _ _ (nm hc Z.z1) e) fun k2 e jq he=>?_
  obtain ⟨oe,q_,Kx⟩:=he
  have z2:fG k2 z TI TO .ellipsis f':=jq _ _ (Ne.symm i1z) r9
  have ez:e≠z:=fun x=>by subst x;rw[z2]at q_;cases q_;simp at Kx
  refine wpAny_setField_rec z2 (by simp) fun k3 _ oa=>hE k3 e (fun c o c1 _ c3 _ x=>oa.extBut _ _ c1 (jq _ _ c3 (kf.extBut _ _ c1 (wb _ _ c1 x)))) ⟨oe,oa.extBut _ _ ez q_,Kx⟩
 | false=>
  simp only[Bool.false_eq_true,if_false]
  refine wpAny_bind ?_
  rw[<-Array.forIn_toList]
  simp only[List.forIn_cons,List.forIn_nil]
  refine wpAny_bind (wpAny_bind (wpAny_holding ?_));refine wpAny_bind (m:=Builtin.SmallTypes.nextOf (.ref i1)) ?_
  refine D1.done _ _ _ KN fun k2 e jq he=>hE k2 e (fun c o c1 _ c3 _ x=>jq _ _ c3 (wb _ _ c1 x)) he
theorem sq {Q:Option Value->Shared->Prop} (D1:Draws prog w A.in1 i1 f1 n1 P1 S1) (D2:Draws prog w A.in1 i2 f2 n2 P2 S2) (Z:ZA z TI TO i1 i2 f1 f2)
  (hz:BN s.heap z TI TO) (t_:IsPair s.heap TI (.ref i1) (.ref i2)) (BL:IsPair s.heap TO a b) (h1:S1 i s.heap) (h2:S2 i s.heap) (l1:i<n1) (l2:i<n2)
  (hQ: ∀x y h' tk,P1 i x->P2 i y->BN h' z TI TO->(∃a b,IsPair h' TO a b)->S1 (i+1) h'->S2 (i+1) h'->IsPair h' s.heap.objs.size x y->
   (∀c o,c≠z->c≠TO->c≠i1->c≠i2->s.heap.get? c=some o->h'.get? c=some o)->Q (some (.ref s.heap.objs.size)) { s with heap:=h',toks:=tk }):
  wpAny (model prog w) A (pyNext (.ref z)) Q E s:=by
 have hT:s.TypeIs (.ref z) "zip":=by
  obtain ⟨f0,f,e,_⟩:=hz
  exact ⟨_,e,rfl⟩
 unfold pyNext
 exact wpAny_bind (wpAny_attempt (wpAny_callSpecial?_slot (name:=Str.ofString "__next__") hT F.slot_zip_next (wpAny_call_entry F.slot_zip_next hT F.entry_zip_next
   (xS D1 D2 Z hz t_ BL h1 h2 l1 l2 fun x y h' tk p1 p2 a1 a2 a3 a4 a5 a6=>wpAny_pure (hQ x y h' tk p1 p2 a1 a2 a3 a4 a5 a6)) (F.args_zip_next_1 _))))
theorem uV {Q:Option Value->Shared->Prop} (D1:Draws prog w A.in1 i1 f1 n1 P1 S1) (Z:ZA z TI TO i1 i2 f1 f2)
  (hz:BN s.heap z TI TO) (t_:IsPair s.heap TI (.ref i1) (.ref i2)) (h1:S1 n1 s.heap)
  (hQ: ∀h',(∀c o,c≠z->c≠TO->c≠i1->c≠i2->s.heap.get? c=some o->h'.get? c=some o)->Q none { s with heap:=h' }):wpAny (model prog w) A (pyNext (.ref z)) Q E s:=by
 have hT:s.TypeIs (.ref z) "zip":=by
  obtain ⟨f0,f,e,_⟩:=hz
  exact ⟨_,e,rfl⟩
 unfold pyNext
 refine wpAny_bind (wpAny_attempt (wpAny_callSpecial?_slot (name:=Str.ofString "__next__") hT F.slot_zip_next (wpAny_call_entry F.slot_zip_next hT F.entry_zip_next (Ah D1 Z hz t_ h1 fun h' e hk he=>?_) (F.args_zip_next_1 _))))
 obtain ⟨o,ho,hc⟩:=he
 refine wpAny_bind (wpAny_isInstance (T:="StopIteration") (b:=true) ⟨o,ho,hc⟩ isSubtype_stop (wpAny_pure (hQ _ hk)))
end
theorem xT {P:Program} {w:World} {K:PySem.W.Frag} {nx:Str} {pos:Pos} {a1 a2 z TI TO i1 i2:Addr} {Sq1 Sq2:Hp->List V->Prop} {I1 I2:Nat->Heap->Prop}
  (W1:ZS P w K a1 i1 Sq1 I1) (W2:ZS P w K a2 i2 Sq2 I2) (Z:ZA z TI TO i1 i2 [i1,a1] [i2,a2]) (n1:a1≠i1) (n2:a2≠i2):
  Turn P w K (.Name nx pos) (Er Sq1 Sq2) [z,TI,TO,i1,i2] z (fun i h=>BN h z TI TO/\IsPair h TI (.ref i1) (.ref i2)/\(∃a b,IsPair h TO a b)/\I1 i h/\I2 i h) where
 mem:=by simp
 obj:=fun i h st b hb=>by
  obtain ⟨⟨f0,f,q1,_⟩,q2,⟨a,b',q3⟩,q4,q5⟩:=st
  simp only[List.mem_cons,List.not_mem_nil,or_false]at hb
  rcases hb with g | g | g | g | g<;>rw[g]
  ·exact ⟨_,q1,fun v z=>by cases z⟩
  ·exact ⟨_,q2,fun v z=>by cases z⟩
  ·exact ⟨_,q3,fun v z=>by cases z⟩
  ·exact W1.obj i h q4
  ·exact W2.obj i h q5
 keep:=fun i h h' st kp=>by
  obtain ⟨q1,q2,⟨a,b',q3⟩,q4,q5⟩:=st
  exact ⟨q1.keep (kp z (by simp)),kp TI (by simp) _ q2,⟨a,b',kp TO (by simp) _ q3⟩,W1.keep _ _ _ q4 fun o e=>kp i1 (by simp) o e,W2.keep _ _ _ q5 fun o e=>kp i2 (by simp) o e⟩
 item:=by
  intro X hP hw hK hc i pins s σ H E I hf st hg
  obtain ⟨q1,q2,⟨a,b',q3⟩,q4,q5⟩:=st
  obtain ⟨xs,ys,x,y,hx,hy,gx,gy⟩:=hg
  obtain ⟨xi,SX,rx,DX,ux,vx⟩:=W1.draws X hP hw hK hc pins s σ H I xs hx n1
  obtain ⟨yi,SY,ry,DY,uy,vy⟩:=W2.draws X hP hw hK hc pins s σ H I ys hy n2
  obtain ⟨u0,hu,ru⟩:=rx.get gx
  obtain ⟨w0,Es,P0⟩:=ry.get gy
  have PV:=W1.inj X hK pins s σ H I
  have PZ:=W2.inj X hK pins s σ H I
  subst hP hw hK
  refine sq DX DY Z q1 q2 q3 (ux i q4) (uy i q5) (List.getElem?_eq_some_iff.mp hu).1 (List.getElem?_eq_some_iff.mp Es).1 fun x2 y2 h' tk p1 p2 e1 e2 e3 e4 e5 e7=>⟨_,rfl,?_⟩
  have ex:x2=u0:=Option.some.inj (p1.symm.trans hu)
  have ey:y2=w0:=Option.some.inj (p2.symm.trans Es)
  subst ex
  subst ey
  have lt: ∀{c o},s.heap.get? c=some o->s.heap.objs.size≠c:=fun e=>Nat.ne_of_gt (Heap.lt_size e)
  obtain ⟨o1,g1⟩:=DX.live _ _ (ux i q4)
  obtain ⟨o2,g2⟩:=DY.live _ _ (uy i q5)
  have yW:s.heap.objs.size∉[z,TI,TO,i1,i2]:=by
   obtain ⟨f0,f,qz,_⟩:=q1
   simp only[List.mem_cons,List.not_mem_nil,or_false,not_or]
   exact ⟨lt qz,lt q2,lt q3,lt g1,lt g2⟩
  have kk: ∀b o,b∉[z,TI,TO,i1,i2]->s.heap.get? b=some o->h'.get? b=some o:=fun b o hb e=>by
   simp only[List.mem_cons,List.not_mem_nil,or_false,not_or]at hb
   exact e7 b o hb.1 hb.2.2.1 hb.2.2.2.1 hb.2.2.2.2 e
  have jP:h'.IsTuple s.heap.objs.size #[x2,y2]:=⟨_,e5,rfl,_,rfl⟩
  refine wpAny_pure ⟨.ref s.heap.objs.size,upd H s.heap.objs.size (.tup [x,y]),?_,rfl,⟨s.heap.objs.size,x,y,fun zs GI=>by rw[PV zs xs GI hx];exact gx,fun zs GI=>by rw[PZ zs ys GI hy];exact gy,rfl,I.bq.fresh (Nat.le_refl _),rfl⟩,
   ⟨e1,e7 _ _ Z.tz Z.tt Z.t1 Z.t2 q2,e2,vx _ _ e3,vy _ _ e4⟩,fun b hb=>?_⟩
  ·refine I.iy (t':=tk) (h':=h') kk hf (Nat.le_refl _) ?_
   exact ⟨by show 2<=sizeLine;decide,[x2,y2], .cons ru (.cons P0 .nil),jP⟩
  ·rw[aj (fun q:b=s.heap.objs.size=>yW (q▸hb))];exact (hf b hb).1
 done:=by
  intro X hP hw hK hc i pins s σ H E I hf st hg
  obtain ⟨q1,q2,⟨a,b',q3⟩,q4,q5⟩:=st
  obtain ⟨xs,hx,⟨ys,hy⟩,el⟩:=hg
  obtain ⟨xi,SX,rx,DX,ux,vx⟩:=W1.draws X hP hw hK hc pins s σ H I xs hx n1
  have hl:=rx.length
  subst hP hw hK
  have e0:i=xi.length:=by omega
  subst e0
  refine uV DX Z q1 q2 (ux _ q4) fun h' hk=>⟨rfl,I.jO (t':=s.toks) (ch:=[z,TI,TO,i1,i2]) (fun b o hb e=>?_) hf⟩
  simp only[List.mem_cons,List.not_mem_nil,or_false,not_or]at hb
  exact hk b o hb.1 hb.2.2.1 hb.2.2.2.1 hb.2.2.2.2 e
 self:=fun _ _ s _ _ st h=>by
  obtain ⟨⟨f0,f,q1,_⟩,_⟩:=st
  have hT:s.TypeIs (.ref z) "zip":=⟨_,q1,rfl⟩
  refine wpAny_pyIter_slot hT F.slot_zip_iter (wpAny_call_entry F.slot_zip_iter hT F.entry_zip_iter ?_ (F.args_zip_iter_1 _))
  show wpAny _ _ (ret (.ref z)) _ _ s
  exact wpAny_pure ⟨_,rfl,"zip",_,hT,F.slot_zip_next.lookup,h⟩
section
variable {X:Cx} {nx:Str} {pos':Pos} {a b:Expr} {ta:TA} {p pos:Pos}
theorem Ai {Sq1 Sq2:Addr->Hp->List V->Prop} (hg:Gl X "zip") (hm:X.mg "zip"=none) (ha:PA X [a,b] ta) (hs:starEach [a,b] X.env=[(false,eval a X.env),(false,eval b X.env)]) (lD:starEach [b] X.env=[(false,eval b X.env)])
  (hk: ∀(pins:List (Addr×Obj)) (s:Shared) (σ:St) (H:Hp),Inv X pins σ H s-> ∀u v xs ys,Sq1 u H xs->Sq2 v H ys->u<s.heap.objs.size/\v<s.heap.objs.size/\ ∃(c d:String) (P1 P2:Heap->Prop) (I1 I2:Nat->Heap->Prop),V5 c d P1 P2 u v/\P1 s.heap/\P2 s.heap/\
   ZS X.prog X.w X.K u s.heap.objs.size (Sq1 u) I1/\ZS X.prog X.w X.K v (s.heap.objs.size+1) (Sq2 v) I2/\(∀h':Heap,h'.get? s.heap.objs.size=some { cls:= .type c,data:= .fields #[.ref u, .int 0 0] }->I1 0 h')/\ ∀h':Heap,h'.get? (s.heap.objs.size+1)=some { cls:= .type d,data:= .fields #[.ref v, .int 0 0] }->I2 0 h'):
  PI X (.Name nx pos') (.Call (.Name "zip" p) [a,b] [] pos) (Kz Sq1 Sq2 ta):=by
 intro pins s σ H R I h
 refine Call_ (cM I hg hm boot_zip (PyProof.Rows.callWith_type1 (bU (ha pos pins s σ H _ I h) fun us s1 ⟨vs,H1,I1,r1,q1⟩=>?_) (by rw[hs,lD]) (by rw[lD];rfl)))
 obtain ⟨u,v,rfl,⟨xs,hx⟩,⟨ys,hy⟩,q⟩:=q1
 obtain ⟨u',v',rfl,ru,rv⟩:=vals2 r1
 cases ru
 cases rv
 obtain ⟨lu,lv,c,d,P1,P2,J1,J2,M,p1,p2,W1,W2,j1,j2⟩:=hk pins s1 σ H1 I1 u v xs ys hx hy
 refine M X.prog X.w X.A X.xe s1 _ p1 p2 fun h' z1 z2 z3 z4 z5 kk=>wpAny_pyIter_zip z1 ?_
 refine ⟨s1.heap.objs.size+4,[s1.heap.objs.size+4,s1.heap.objs.size+2,s1.heap.objs.size+3,s1.heap.objs.size,s1.heap.objs.size+1],_,_,H1,rfl,I1.kept (t':=s1.toks) kk,xT W1 W2 (GF lu lv) (Nat.ne_of_lt lu) (Nat.ne_of_lt (Nat.lt_succ_of_lt lv)),⟨⟨_,_,z1, .inl rfl⟩,z2,⟨_,_,z3⟩,j1 h' z4,j2 h' z5⟩,fun e he=>?_,q⟩
 have KG:s1.heap.objs.size<=e:=by
  simp only[List.mem_cons,List.not_mem_nil,or_false]at he
  rcases he with g | g | g | g | g<;>rw[g]<;>omega
 exact I1.jD KG (I1.bq.fresh KG)
theorem xU (K:PySem.W.Frag) (hK:X.K=K) (hg:Gl X "zip") (hm:X.mg "zip"=none) (ha:PA X [a,b] ta) (hs:starEach [a,b] X.env=[(false,eval a X.env),(false,eval b X.env)]:=by rfl) (lD:starEach [b] X.env=[(false,eval b X.env)]:=by rfl):PI X (.Name nx pos') (.Call (.Name "zip" p) [a,b] [] pos) (Kz (xH K) (xH K) ta):=by
 subst hK
 refine Ai hg hm ha hs lD fun pins s σ H I u v xs ys hx hy=>?_
 obtain ⟨xi,_,px,_⟩:=I.tuple hx
 obtain ⟨yi,_,py,_⟩:=I.tuple hy
 obtain ⟨ox,ex,_⟩:=id px
 obtain ⟨oy,ey,_⟩:=id py
 exact ⟨Heap.lt_size ex,Heap.lt_size ey,_,_,(fun h=>h.IsTuple u xi.toArray),(fun h=>h.IsTuple v yi.toArray),_,_,GD (r_ u v xi.toArray yi.toArray),px,py,uR u _,uR v _,fun h' e=>⟨_,e,rfl,rfl⟩,fun h' e=>⟨_,e,rfl,rfl⟩⟩
end
end L2
namespace L2
open PySem PySem.Spec PyProof.Rows HT
section
variable {prog:Program} {w:World} {A:Around} {E:Value->Shared->Prop} {s:Shared}
end
section
variable {X:Cx}
end
end L2
set_option maxHeartbeats 4000000
namespace My
open PySem PySem.Spec PyProof.Rows L2
noncomputable def bp:List Nat:=[97,98,99,100,101,102,103,104,105,106,107,108,109,110,111,112,113,114,115,116,117,118,119,120,121,122]
noncomputable def kx:List Nat:=[65,66,67,68,69,70,71,72,73,74,75,76,77,78,79,80,81,82,83,84,85,86,87,88,89,90]
noncomputable def Lt (c:Nat):Prop:=c∈bp\/c∈kx
noncomputable instance (c:Nat):Decidable (Lt c):=by unfold Lt;infer_instance
noncomputable def aX (c:Nat):Nat:=if cF c=true then PyProof.Rows.up1 c else PyProof.Rows.lo1 c
theorem qv: ∀c∈bp++kx,c<128/\aX c∈bp++kx/\aX (aX c)=c/\aX c≠c:=by decide+kernel
theorem Lt.mem {c:Nat} (h:Lt c):c∈bp++kx:=List.mem_append.mpr h
theorem Lt.lt {c:Nat} (h:Lt c):c<128:=(qv c h.mem).1
theorem Lt.aX {c:Nat} (h:Lt c):Lt (aX c):=List.mem_append.mp (qv c h.mem).2.1
theorem bA {c:Nat} (h:Lt c):aX (aX c)=c:=(qv c h.mem).2.2.1
theorem GQ {c:Nat} (h:Lt c):aX c≠c:=(qv c h.mem).2.2.2
theorem C1 {a b:Nat} (ha:Lt a) (hb:Lt b) (e:My.aX a=My.aX b):a=b:=by rw[<-bA ha,e,bA hb]
theorem sr: ∀c∈bp,oK kx ((bp.idxOf c:Nat):Int)=some (aX c):=by decide+kernel
theorem xV: ∀c∈kx,oK bp ((kx.idxOf c:Nat):Int)=some (aX c):=by decide+kernel
noncomputable def su (l:List Nat):List Nat:=(l.map aX).reverse
noncomputable def aE (b:Addr) (H H':Hp):Prop:= ∀c o,H c=some o->c≠b->H' c=some o
theorem aE.refl (b:Addr) (H:Hp):aE b H H:=fun _ _ h _=>h
theorem aE.trans {b:Addr} {H H1 H2:Hp} (x:aE b H H1) (y:aE b H1 H2):aE b H H2:=fun c o h n=>y c o (x c o h n) n
theorem aE.of {b:Addr} {H H':Hp} (x:ah H H'):aE b H H':=fun c o h _=>x c o h
theorem aE.upd (b:Addr) (H:Hp) (o:HO):aE b H (upd H b o):=fun c o h n=>by rw[aj n];exact h
theorem ah.upd {H:Hp} {p:Addr} {o:HO} (h:H p=none):ah H (L2.upd H p o):=fun c u e=>by rw[aj (aq e h)];exact e
noncomputable def bM (H:Hp) (b:Addr):Prop:= ∃x y:Int,H b=some (.lst [.int x, .int y])
theorem bM.same {H H':Hp} {b:Addr} (h:bM H b) (s:ah H H'):bM H' b:=let ⟨x,y,e⟩:=h;⟨x,y,s _ _ e⟩
structure Yd (y:List Nat):Prop where
 nd:y.Nodup
 lt: ∀c∈y,Lt c
 cl: ∀c∈y,aX c∈y
noncomputable def kQ (_:PySem.W.Frag):Sp:=fun vs H Q _=> ∃c,vs=[.str (S [c])]/\c<128/\Q (.str (S [aX c])) H
theorem qw {K:PySem.W.Frag} {vs:List V} {H:Hp} {Q:VK} {E:XK} (h:kQ K vs H Q E):vs.length=1:=by obtain ⟨c,rfl,_⟩:=h;rfl
noncomputable def o7 (_:PySem.W.Frag):Sp:=fun vs H Q _=> ∃c,vs=[.str (S [c])]/\Lt c/\Q (.str (S [aX c])) H
theorem uW {K:PySem.W.Frag} {vs:List V} {H:Hp} {Q:VK} {E:XK} (h:o7 K vs H Q E):vs.length=1:=by obtain ⟨c,rfl,_⟩:=h;rfl
noncomputable def we (K:PySem.W.Frag):Sp:=fun vs H Q _=> ∃(a:Addr) (ns:List Int) (k:Nat),vs=[.ref a, .int k]/\aJ K H a (ns.map V.int)/\k<=1000/\ ∀b H',H b=none->bM H' b->ah H H'->Q (.ref b) H'
theorem Aj {K:PySem.W.Frag} {vs:List V} {H:Hp} {Q:VK} {E:XK} (h:we K vs H Q E):vs.length=2:=by obtain ⟨a,ns,k,rfl,_⟩:=h;rfl
noncomputable def sx (_:PySem.W.Frag):Sp:=fun vs H Q _=> ∃(b:Addr) (m:Int),vs=[.ref b, .int m]/\bM H b/\1<=m/\m<1000000/\ ∀(r:Nat) H',(r:Int)<m->bM H' b->aE b H H'->Q (.int r) H'
theorem xW {K:PySem.W.Frag} {vs:List V} {H:Hp} {Q:VK} {E:XK} (h:sx K vs H Q E):vs.length=2:=by obtain ⟨b,m,rfl,_⟩:=h;rfl
noncomputable def sy (_:PySem.W.Frag):Sp:=fun vs H Q _=> ∃(b:Addr) (ke top:Nat),vs=[.ref b, .int ke, .int top]/\bM H b/\1<=ke/\ke<=top/\top<=8/\ ∀(y:List Nat) H',Yd y->2*ke<=y.length->y.length<=2*top->bM H' b->aE b H H'->Q (.str (S y)) H'
theorem xX {K:PySem.W.Frag} {vs:List V} {H:Hp} {Q:VK} {E:XK} (h:sy K vs H Q E):vs.length=3:=by obtain ⟨b,m,t,rfl,_⟩:=h;rfl
noncomputable def sG (_:PySem.W.Frag):Sp:=fun vs H Q _=> ∃(b:Addr) (y:List Nat) (top:Nat),vs=[.ref b, .str (S y), .int top]/\bM H b/\y≠[]/\y.length<=1000/\top<=1000/\ ∀(l:List Nat) H',(∀c∈l,c∈y)->l.length<=top->bM H' b->aE b H H'->Q (.str (S l)) H'
theorem xY {K:PySem.W.Frag} {vs:List V} {H:Hp} {Q:VK} {E:XK} (h:sG K vs H Q E):vs.length=3:=by obtain ⟨b,m,t,rfl,_⟩:=h;rfl
noncomputable def kn (K:PySem.W.Frag):Sp:=fun vs H Q _=> ∃(a:Addr) (ns:List Int),vs=[.ref a]/\aJ K H a (ns.map V.int)/\ns.length<=63/\ ∀H',Q (.bl true) H'
theorem C2 {K:PySem.W.Frag} {vs:List V} {H:Hp} {Q:VK} {E:XK} (h:kn K vs H Q E):vs.length=1:=by obtain ⟨b,m,rfl,_⟩:=h;rfl
theorem sH: ∀l:List Nat,(l.map fun c=>[c]).flatten=l
 | []=>rfl
 | c::l=>by rw[List.map_cons,List.flatten_cons,sH l];rfl
theorem Ak: ∀l:List Nat,((l.map fun c=>[c]).map List.length).sum=l.length
 | []=>rfl
 | c::l=>by
  rw[List.map_cons,List.map_cons,List.sum_cons,Ak l]
  show 1+l.length=l.length+1
  omega
theorem fq (l:List Nat):bX l=(l.map fun c=>[c]).map fun l=>V.str (S l):=by unfold bX;rw[List.map_map];rfl
theorem eP (l:List Nat) (c:Nat):bX l++[V.str (S [c])]=bX (l++[c]):=by unfold bX;rw[List.map_append];rfl
theorem take_snoc {α:Type} {l:List α} {i:Nat} {x:α} (h:l[i]? =some x):l.take i++[x]=l.take (i+1):=by rw[List.take_add_one,h];rfl
theorem wg {ns:List Int} {i:Nat} (h:i<ns.length): ∃z,(ns.map V.int)[i]? =some (V.int z):=⟨ns[i],by rw[List.getElem?_map,List.getElem?_eq_getElem h];rfl⟩
theorem eK {σ:L2.St} {H:Hp} {A B:Hp->Prop} (h:A H):Ge σ H fun b H3=>if b=true then A H3 else B H3:=by
 show (if true=true then A H else B H)
 rw[if_pos rfl]
 exact h
theorem uX (b:Bool) (z:Int): ∃y,oK [V.int 0,V.int z] (if b=true then 1 else 0)=some (V.int y):=by
 cases b
 ·exact ⟨0,rfl⟩
 ·exact ⟨z,rfl⟩
theorem fH {α:Type}: ∀{l:List α} {i:Nat} {x:α},l[i]? =some x->(x::l.eraseIdx i).Perm l
 | [],i,x,h=>by simp at h
 | a::l,0,x,h=>by
  have:a=x:=by simpa using h
  subst this
  exact List.Perm.refl _
 | a::l,i+1,x,h=>by
  have ih:=fH (l:=l) (i:=i) (x:=x) (by simpa using h)
  rw[List.eraseIdx_cons_succ]
  exact (List.Perm.swap a x _).trans (List.Perm.cons a ih)
theorem o8 (l:List Nat) (i:Nat):(bX l).eraseIdx i=bX (l.eraseIdx i):=by
 unfold bX
 induction l generalizing i with
 | nil=>rfl
 | cons a l ih=>
  cases i with
  | zero=>rfl
  | succ i=>rw[List.map_cons,List.eraseIdx_cons_succ,ih,List.eraseIdx_cons_succ,List.map_cons]
theorem Am {l:List Nat} {i:Nat} (h:i<l.length):(bX l)[i]? =some (V.str (S [l[i]])):=by unfold bX;rw[List.getElem?_map,List.getElem?_eq_getElem h];rfl
theorem C3 (a b:List Nat):bX a++bX b=bX (a++b):=by unfold bX;rw[List.map_append]
theorem xZ: ∀c∈bp,aX c∉bp:=by decide+kernel
theorem x3:bp.Nodup:=by decide+kernel
theorem Yd.perm {a b:List Nat} (h:Yd a) (p:a.Perm b):Yd b:=
 ⟨p.nodup_iff.mp h.nd,fun c hc=>h.lt c (p.mem_iff.mpr hc),fun c hc=>p.mem_iff.mp (h.cl c (p.mem_iff.mpr hc))⟩
structure GR (i:Nat) (L E:List Nat):Prop where
 yd:Yd E
 nd:L.Nodup
 sm: ∀c∈L,c∈bp
 ap: ∀c∈L,c∉E
 ll:L.length=26 - i
 el:E.length=2*i
theorem GR.start:GR 0 bp []:=⟨⟨List.nodup_nil,fun _ h=>absurd h List.not_mem_nil,fun _ h=>absurd h List.not_mem_nil⟩,x3,fun _ h=>h,fun _ _ h=>absurd h List.not_mem_nil,rfl,rfl⟩
theorem GR.turn {i r:Nat} {L E:List Nat} (w:GR i L E) (hi:i<26) (hr:r<L.length):GR (i+1) (L.eraseIdx r) (E++[L[r],aX L[r]]):=by
 have hp:=fH (l:=L) (List.getElem?_eq_getElem hr)
 have hm:L[r]∈L:=List.getElem_mem hr
 have hs:=w.sm _ hm
 have hl:Lt L[r]:= .inl hs
 have V8:=hp.nodup_iff.mpr w.nd
 have sub: ∀c∈L.eraseIdx r,c∈L:=fun c hc=>hp.mem_iff.mp (List.mem_cons_of_mem _ hc)
 have V9:=w.ap _ hm
 have Ym:aX L[r]∉E:=fun z=>V9 (by have:=w.yd.cl _ z;rwa [bA hl]at this)
 refine ⟨⟨?_,fun c hc=>?_,fun c hc=>?_⟩,(List.nodup_cons.mp V8).2,fun c hc=>w.sm c (sub c hc),fun c hc hE=>?_,?_,?_⟩
 ·rw[List.nodup_append]
  refine ⟨w.yd.nd,?_,fun a ha b hb z=>?_⟩
  ·rw[List.nodup_cons]
   refine ⟨fun z=>(GQ hl) (List.mem_singleton.mp z).symm,List.nodup_cons.mpr ⟨List.not_mem_nil,List.nodup_nil⟩⟩
  ·subst z
   rcases List.mem_cons.mp hb with z | z
   ·exact V9 (z▸ha)
   ·exact Ym (List.mem_singleton.mp z▸ha)
 ·rcases List.mem_append.mp hc with z | z
  ·exact w.yd.lt c z
  ·rcases List.mem_cons.mp z with z | z
   ·rw[z];exact hl
   ·rw[List.mem_singleton.mp z];exact hl.aX
 ·rcases List.mem_append.mp hc with z | z
  ·exact List.mem_append_left _ (w.yd.cl c z)
  ·refine List.mem_append_right _ ?_
   rcases List.mem_cons.mp z with z | z
   ·rw[z];exact List.mem_cons_of_mem _ (List.mem_singleton.mpr rfl)
   ·rw[List.mem_singleton.mp z,bA hl];exact List.mem_cons_self
 ·rcases List.mem_append.mp hE with z | z
  ·exact w.ap c (sub c hc) z
  ·rcases List.mem_cons.mp z with z | z
   ·exact (List.nodup_cons.mp V8).1 (z▸hc)
   ·have e:c=aX L[r]:=List.mem_singleton.mp z
    exact xZ _ hs (e▸w.sm c (sub c hc))
 ·have:=hp.length_eq
  rw[List.length_cons,w.ll]at this
  omega
 ·rw[List.length_append,w.el]
  show 2*i+2=_
  omega
theorem aE.dm {b p:Addr} {H H':Hp} {o:HO} (h:aE b H H') (n:H p=none):aE b H (L2.upd H' p o):=fun c u e z=>by rw[aj (aq e n)];exact h c u e z
theorem bM.dm {b p:Addr} {H:Hp} {o:HO} (h:bM H b) (n:p≠b):bM (L2.upd H p o) b:=let ⟨x,y,e⟩:=h;⟨x,y,by rw[aj (Ne.symm n)];exact e⟩
theorem aE.none {b p:Addr} {H H':Hp} (h:aE b H H') (n:H' p=none) (z:p≠b):H p=none:=by
 cases q:H p with
 | none=>rfl
 | some o=>rw[h p o q z]at n;cases n
theorem bM.ne {b p:Addr} {H:Hp} (h:bM H b) (n:H p=none):p≠b:=fun z=>by obtain ⟨x,y,e⟩:=h;rw[<-z,n]at e;cases e
theorem ck {c:Bool} {A B:Prop} (h:c=false) (hB:B):if c=true then A else B:=by rw[h];exact J0 hB
theorem dZ {c:Bool} {A B:Prop} (h:c=true) (hA:A):if c=true then A else B:=by rw[h];exact Pd hA
theorem mG (a:List Nat):a.take (bX a).length=a:=by rw[aT];exact List.take_of_length_le (Nat.le_refl _)
theorem aE.same {b:Addr} {H H2 H3:Hp} (n:H b=Option.none) (s:ah H H2) (t:aE b H2 H3):ah H H3:=fun c o e=>t c o (s c o e) (aq e n)
theorem aE.after {p:Addr} {H H1 H2:Hp} (s:aE p H H1) (t:ah H1 H2):aE p H H2:=fun c o e z=>t c o (s c o e z)
noncomputable def cD (ws:List (List Nat)):List V:=ws.map fun l=>V.str (S l)
theorem bt (ws:List (List Nat)):(cD ws).length=ws.length:=by unfold cD;rw[List.length_map]
theorem mH (ws:List (List Nat)) (l:List Nat):cD ws++[V.str (S l)]=cD (ws++[l]):=by unfold cD;rw[List.map_append];rfl
theorem mI {ws:List (List Nat)} {i:Nat} (h:i<ws.length):(cD ws)[i]? =some (V.str (S ws[i])):=by unfold cD;rw[List.getElem?_map,List.getElem?_eq_getElem h];rfl
noncomputable def cx (st:List Nat) (c:Nat):List Nat:=if st.getLast? =some (aX c) then st.dropLast else st++[c]
noncomputable def red (l:List Nat):List Nat:=l.foldl cx []
noncomputable def jr:List Nat->Prop
 | []=>True
 | [_]=>True
 | a::b::r=>a≠aX b/\jr (b::r)
theorem jr.tail: ∀{a:Nat} {r:List Nat},jr (a::r)->jr r
 | _,[],_=>trivial
 | _,_::_,h=>h.2
theorem jr.snoc: ∀{l:List Nat} {c:Nat},jr l->l.getLast?≠ some (aX c)->jr (l++[c])
 | [],_,_,_=>trivial
 | [a],c,_,h=>⟨fun z=>h (by rw[z];rfl),trivial⟩
 | a::b::r,c,h,k=>⟨h.1,jr.snoc (l:=b::r) h.2 (by simpa using k)⟩
theorem jr.init: ∀{l:List Nat} {c:Nat},jr (l++[c])->jr l/\l.getLast?≠ some (aX c)
 | [],_,_=>⟨trivial,by simp⟩
 | [a],c,h=>⟨trivial,fun z=>h.1 (by simpa using z)⟩
 | a::b::r,c,h=>by
  have ih:=jr.init (l:=b::r) (c:=c) h.2
  exact ⟨⟨h.1,ih.1⟩,by simpa using ih.2⟩
theorem snoc_cases (l:List Nat):l=[]\/ ∃m a,l=m++[a]:=by
 by_cases h:l=[]
 ·exact .inl h
 ·exact .inr ⟨l.dropLast,l.getLast h,(List.dropLast_concat_getLast h).symm⟩
theorem jr.left: ∀{m l:List Nat},jr (m++l)->jr m
 | [],_,_=>trivial
 | [_],_,_=>trivial
 | a::b::r,l,h=>⟨h.1,jr.left (m:=b::r) (l:=l) h.2⟩
theorem ky {l:List Nat} {c:Nat} (h:l.getLast? =some c): ∃m,l=m++[c]:=by
 rcases snoc_cases l with rfl | ⟨m,a,rfl⟩
 ·simp at h
 ·refine ⟨m,?_⟩
  have:a=c:=by simpa using h
  rw[this]
theorem x4 {st:List Nat} {c:Nat} (h:jr st):jr (cx st c):=by
 unfold cx
 by_cases e:st.getLast? =some (aX c)
 ·rw[if_pos e]
  obtain ⟨m,rfl⟩:=ky e
  rw[List.dropLast_concat]
  exact h.init.1
 ·rw[if_neg e]
  exact h.snoc e
theorem o9 {st:List Nat} {c d:Nat} (h:d∈cx st c):d∈st\/d=c:=by
 unfold cx at h
 by_cases e:st.getLast? =some (aX c)
 ·rw[if_pos e]at h
  exact .inl (List.dropLast_subset _ h)
 ·rw[if_neg e]at h
  rcases List.mem_append.mp h with z | z
  ·exact .inl z
  ·exact .inr (List.mem_singleton.mp z)
theorem uY {st:List Nat} {x y:Nat} (h:jr st) (hy:Lt y) (e:x=aX y):cx (cx st x) y=st:=by
 subst e
 unfold cx
 by_cases z:st.getLast? =some (aX (aX y))
 ·rw[if_pos z]
  obtain ⟨m,rfl⟩:=ky z
  rw[List.dropLast_concat,bA hy]
  have:=h.init.2
  rw[bA hy]at this
  rw[if_neg this]
 ·rw[if_neg z,if_pos (by simp),List.dropLast_concat]
theorem mJ: ∀(l st:List Nat),jr st->jr (l.foldl cx st)
 | [],_,h=>h
 | _::l,_,h=>mJ l _ (x4 h)
theorem C4 (l:List Nat):jr (red l):=mJ l [] trivial
theorem fI {a b:List Nat} {x y:Nat} (hy:Lt y) (e:x=aX y):red (a++x::y::b)=red (a++b):=by
 unfold red
 rw[List.foldl_append,List.foldl_cons,List.foldl_cons,uY (mJ a [] trivial) hy e, <-List.foldl_append]
theorem fold_same: ∀(l st:List Nat),jr (st++l)->l.foldl cx st=st++l
 | [],st,_=>by simp
 | c::l,st,h=>by
  have h':jr ((st++[c])++l):=by rw[List.append_assoc];exact h
  have h2:=(jr.left h').init.2
  rw[List.foldl_cons]
  have:cx st c=st++[c]:=by unfold cx;rw[if_neg h2]
  rw[this,fold_same l (st++[c]) h',List.append_assoc]
  rfl
theorem fJ {l:List Nat} (h:jr l):red l=l:=by
 exact fold_same l [] h
theorem fold_lt: ∀(l st:List Nat),(∀c∈l,Lt c)->(∀c∈st,Lt c)-> ∀c∈l.foldl cx st,Lt c
 | [],_,_,h=>h
 | a::l,st,h1,h2=>fold_lt l _ (fun c hc=>h1 c (List.mem_cons_of_mem _ hc)) fun c hc=>(o9 hc).elim (h2 c) fun z=>z▸h1 a List.mem_cons_self
theorem uZ {l:List Nat} (h: ∀c∈l,Lt c): ∀c∈red l,Lt c:=fold_lt l [] h fun _ h=>absurd h List.not_mem_nil
theorem x5 (st:List Nat) (c:Nat):(cx st c).length<=st.length+1:=by
 unfold cx
 by_cases e:st.getLast? =some (aX c)
 ·rw[if_pos e,List.length_dropLast];omega
 ·rw[if_neg e,List.length_append];exact Nat.le_refl _
theorem sI: ∀(l st:List Nat),(l.foldl cx st).length<=st.length+l.length
 | [],_=>Nat.le_refl _
 | c::l,st=>by
  have:=sI l (cx st c)
  have h2:=x5 st c
  rw[List.foldl_cons,List.length_cons]
  omega
theorem gL (l:List Nat):(red l).length<=l.length:=by
 have:=sI l []
 rw[List.length_nil,Nat.zero_add]at this
 exact this
theorem An {l:List Nat} {i c:Nat} (h:l[i]? =some c):red (l.take (i+1))=cx (red (l.take i)) c:=by
 unfold red
 rw[<-take_snoc h,List.foldl_append]
 rfl
theorem Ao: ∀{l:List Nat},(∀k a b,l[k]? =some a->l[k+1]? =some b->a≠aX b)->jr l
 | [],_=>trivial
 | [_],_=>trivial
 | a::b::r,h=>⟨h 0 a b rfl rfl,Ao (l:=b::r) fun k x y h1 h2=>h (k+1) x y (by simpa using h1) (by simpa using h2)⟩
noncomputable def yZ (l:List Nat) (s e:Nat):List Nat:=(l.drop s).take (e - s)
noncomputable def strip:Nat->List Nat->List Nat
 | 0,l=>l
 | n+1,l=>match l with
  | []=>[]
  | [a]=>[a]
  | a::b::r=>if a=aX ((b::r).getLast (by simp)) then strip n (b::r).dropLast else a::b::r
theorem eQ: ∀(n:Nat) {l:List Nat},l.length<2->strip n l=l
 | 0,_,_=>rfl
 | _+1,[],_=>rfl
 | _+1,[_],_=>rfl
 | _+1,_::_::_,h=>by simp at h;omega
theorem jV (l:List Nat) (y:Nat):(l++[y]).getLast (by simp)=y:=by simp
theorem strip_go (n:Nat) {a y:Nat} {m:List Nat} (h:a=aX y):strip (n+1) (a::(m++[y]))=strip n m:=by
 cases m with
 | nil=>
  show (if a=aX (([y]:List Nat).getLast (by simp)) then strip n ([y]:List Nat).dropLast else _)=strip n []
  rw[if_pos (by simpa using h)]
  rfl
 | cons b r=>
  show (if a=aX ((b::(r++[y])).getLast (by simp)) then strip n (b::(r++[y])).dropLast else _)=strip n (b::r)
  have e1:(b::(r++[y])).getLast (by simp)=y:=jV (b::r) y
  have e2:(b::(r++[y])).dropLast=b::r:=by
   have:b::(r++[y])=(b::r)++[y]:=rfl
   rw[this,List.dropLast_concat]
  rw[if_pos (by rw[e1];exact h),e2]
theorem strip_stop (n:Nat) {a y:Nat} {m:List Nat} (h:a≠aX y):strip n (a::(m++[y]))=a::(m++[y]):=by
 cases n with
 | zero=>rfl
 | succ n=>
  cases m with
  | nil=>
   show (if a=aX (([y]:List Nat).getLast (by simp)) then _ else _)=_
   rw[if_neg (by simpa using h)]
   rfl
  | cons b r=>
   show (if a=aX ((b::(r++[y])).getLast (by simp)) then _ else _)=_
   have e1:(b::(r++[y])).getLast (by simp)=y:=jV (b::r) y
   rw[if_neg (by rw[e1];exact h)]
   rfl
theorem sJ {l:List Nat} (h:2<=l.length): ∃a m y,l=a::(m++[y]):=by
 cases l with
 | nil=>simp at h
 | cons a r=>
  rcases snoc_cases r with rfl | ⟨m,y,rfl⟩
  ·simp at h
  ·exact ⟨a,m,y,rfl⟩
theorem mK: ∀(n:Nat) (l:List Nat) (k:Nat),l.length<=n->strip (n+k) l=strip n l
 | 0,l,k,h=>by rw[eQ _ (by omega),eQ _ (by omega)]
 | n+1,l,k,h=>by
  by_cases h2:l.length<2
  ·rw[eQ _ h2,eQ _ h2]
  ·obtain ⟨a,m,y,rfl⟩:=sJ (l:=l) (by omega)
   have hm:m.length<=n:=by simp at h;omega
   by_cases e:a=aX y
   ·have:n+1+k=(n+k)+1:=by omega
    rw[this,strip_go _ e,strip_go _ e,mK n m k hm]
   ·rw[strip_stop _ e,strip_stop _ e]
noncomputable def core (l:List Nat):List Nat:=strip l.length l
theorem iS {a y:Nat} {m:List Nat} (h:a=aX y):core (a::(m++[y]))=core m:=by
 unfold core
 have:(a::(m++[y])).length=(m.length+1)+1:=by simp
 rw[this,strip_go _ h,mK _ _ _ (Nat.le_refl _)]
theorem d_ {a y:Nat} {m:List Nat} (h:a≠aX y):core (a::(m++[y]))=a::(m++[y]):=strip_stop _ h
theorem eh {l:List Nat} (h:l.length<2):core l=l:=eQ _ h
theorem mL {P:List Nat->List Nat->Prop} (h1: ∀l,l.length<2->P l l) (h2: ∀a m y,a≠aX y->P (a::(m++[y])) (a::(m++[y]))) (h3: ∀a m y r,a=aX y->P m r->P (a::(m++[y])) r): ∀(n:Nat) (l:List Nat),l.length<=n->P l (core l)
 | 0,l,h=>by rw[eh (by omega)];exact h1 l (by omega)
 | n+1,l,h=>by
  by_cases hl:l.length<2
  ·rw[eh hl];exact h1 l hl
  ·obtain ⟨a,m,y,rfl⟩:=sJ (l:=l) (by omega)
   by_cases e:a=aX y
   ·rw[iS e]
    exact h3 a m y _ e (mL h1 h2 h3 n m (by simp at h;omega))
   ·rw[d_ e];exact h2 a m y e
theorem iF (l:List Nat):(core l).length<=l.length:=
 mL (P:=fun l r=>r.length<=l.length) (fun _ _=>Nat.le_refl _) (fun _ _ _ _=>Nat.le_refl _) (fun a m y r _ k=>by simp;omega) l.length l (Nat.le_refl _)
theorem GS {l:List Nat} {s e:Nat} (h1:s+2<=e) (h2:e<=l.length):yZ l s e=l[s]::(yZ l (s+1) (e - 1)++[l[e - 1]]):=by
 unfold yZ
 rw[List.drop_eq_getElem_cons (by omega)]
 have e1:e - s=(e - 1 - (s+1))+1+1:=by omega
 rw[e1,List.take_succ_cons,List.take_add_one,List.getElem?_drop]
 have e2:s+1+(e - 1 - (s+1))=e - 1:=by omega
 rw[e2,List.getElem?_eq_getElem (by omega)]
 rfl
theorem C5 {l:List Nat} {s e:Nat} (h2:e<=l.length):(yZ l s e).length=e - s:=by unfold yZ;rw[List.length_take,List.length_drop];omega
theorem C6 (l:List Nat):yZ l 0 l.length=l:=by unfold yZ;simp
noncomputable def jW (_:PySem.W.Frag):Sp:=fun vs H Q _=> ∃l:List Nat,vs=[.str (S l)]/\(∀c∈l,Lt c)/\l.length<=1000/\ ∀H',ah H H'->Q (.str (S (red l))) H'
theorem og {K:PySem.W.Frag} {vs:List V} {H:Hp} {Q:VK} {E:XK} (h:jW K vs H Q E):vs.length=1:=by obtain ⟨c,rfl,_⟩:=h;rfl
noncomputable def kR (_:PySem.W.Frag):Sp:=fun vs H Q _=> ∃l:List Nat,vs=[.str (S l)]/\(∀c∈l,Lt c)/\l.length<=1000/\ ∀H',ah H H'->Q (.str (S (core (red l)))) H'
theorem qx {K:PySem.W.Frag} {vs:List V} {H:Hp} {Q:VK} {E:XK} (h:kR K vs H Q E):vs.length=1:=by obtain ⟨c,rfl,_⟩:=h;rfl
theorem gM {α:Type} (l:List α) (k:Nat):cut l none (some (k:Int))=l.take k:=by
 unfold cut
 rw[HT.rB,HT.lE,List.drop_zero,Nat.sub_zero]
 by_cases h:k<=l.length
 ·rw[Nat.min_eq_left h]
 ·rw[Nat.min_eq_right (by omega),List.take_of_length_le (Nat.le_refl _),List.take_of_length_le (by omega)]
theorem cm {α:Type} (l:List α) (k:Nat):cut l (some (k:Int)) none=l.drop k:=by
 unfold cut
 rw[HT.rB,HT.lE]
 by_cases h:k<=l.length
 ·rw[Nat.min_eq_left h,List.take_of_length_le (by rw[List.length_drop];exact Nat.le_refl _)]
 ·rw[Nat.min_eq_right (by omega),List.drop_of_length_le (Nat.le_refl _),List.drop_of_length_le (by omega)]
  simp
noncomputable def Spot (w:List Nat) (k:Nat):Prop:= ∃a b,w[k]? =some a/\w[k+1]? =some b/\a=aX b
theorem u3 {w:List Nat} {k:Nat} (h:Spot w k): ∃a b,w=w.take k++a::b::w.drop (k+2)/\a=aX b/\b∈w:=by
 obtain ⟨a,b,h1,h2,e⟩:=h
 obtain ⟨k1,e1⟩:=List.getElem?_eq_some_iff.mp h1
 obtain ⟨k2,e2⟩:=List.getElem?_eq_some_iff.mp h2
 refine ⟨a,b,?_,e,List.mem_of_getElem? h2⟩
 have d1:w.drop k=a::w.drop (k+1):=by rw[List.drop_eq_getElem_cons k1,e1]
 have d2:w.drop (k+1)=b::w.drop (k+2):=by rw[List.drop_eq_getElem_cons k2,e2]
 rw[<-d2, <-d1,List.take_append_drop]
theorem Ap {w:List Nat} {k:Nat} (h:Spot w k) (hw: ∀c∈w,Lt c):red (w.take k++w.drop (k+2))=red w/\(w.take k++w.drop (k+2)).length+2=w.length:=by
 obtain ⟨a,b,e,ea,hb⟩:=u3 h
 constructor
 ·have:=fI (a:=w.take k) (b:=w.drop (k+2)) (hw b hb) ea
  rw[<-this, <-e]
 ·have:=congrArg List.length e
  rw[List.length_append,List.length_cons,List.length_cons]at this
  rw[List.length_append]
  omega
theorem C7 {w:List Nat} (h: ∀k, ¬Spot w k):red w=w:=fJ (Ao fun k a b h1 h2 e=>h k ⟨a,b,h1,h2,e⟩)
noncomputable def fQ (ks:List Nat):List V:=ks.map fun (k:Nat)=>V.int k
noncomputable def ids (ks:List Nat):List PyData:=ks.map fun (k:Nat)=>PyData.int k
theorem kz {K:PySem.W.Frag} {H:Hp}: ∀ks:List Nat,f_ K H (fQ ks) (ids ks)
 | []=> .nil
 | k::ks=> .cons (.int _) (kz ks)
theorem lay_ints: ∀ks:List Nat,PyData.canLayAll0 (ids ks)=true
 | []=>rfl
 | k::ks=>by show (PyData.canLay0 (.int _)&&PyData.canLayAll0 (ids ks))=true;rw[lay_ints ks];rfl
theorem mM: ∀ks:List Nat,PyData.depthAll (ids ks)=0
 | []=>rfl
 | k::ks=>by show max (PyData.depth (.int _)) (PyData.depthAll (ids ks))=0;rw[mM ks];rfl
noncomputable def Et (ws:List (List Nat)):List PyData:=ws.map fun l=>PyData.str (S l)
theorem sM {K:PySem.W.Frag} {H:Hp}: ∀ws:List (List Nat),f_ K H (cD ws) (Et ws)
 | []=> .nil
 | w::ws=> .cons (.str _) (sM ws)
mutual
theorem eqv_refl: ∀d:PyData,d.hasDict=false->PyData.eqv d d=true
 | .none,_=>rfl
 | .bool b,_=>by simp[PyData.eqv]
 | .int i,_=>by simp[PyData.eqv]
 | .str x,_=>by simp[PyData.eqv]
 | .list xs,h=>by show PyData.eqvAll xs xs=true;exact eqvAll_refl xs (by simpa [PyData.hasDict]using h)
 | .tuple xs,h=>by show PyData.eqvAll xs xs=true;exact eqvAll_refl xs (by simpa [PyData.hasDict]using h)
 | .dict kvs,h=>by simp[PyData.hasDict]at h
theorem eqvAll_refl: ∀ds:List PyData,PyData.hasDictAll ds=false->PyData.eqvAll ds ds=true
 | [],_=>rfl
 | d::ds,h=>by
  simp[PyData.hasDictAll]at h
  show (PyData.eqv d d&&PyData.eqvAll ds ds)=true
  rw[eqv_refl d h.1,eqvAll_refl ds h.2]
  rfl
end
noncomputable def fe (c:List Nat) (k:Nat):List Nat:=c.drop k++c.take k
noncomputable def jX (c:List Nat) (n:Nat):List (List Nat):=(List.range n).map fun k=>fe c (k+1)
noncomputable def gZ (c:List Nat):List Nat:=cj c (jX c (c.length - 1))
@[irreducible] noncomputable def aU (w:List Nat):List Nat:=gZ (core (red w))
theorem eR (w:List Nat):aU w=gZ (core (red w)):=by unfold aU;rfl
theorem o_ (c:List Nat) (n:Nat):jX c (n+1)=jX c n++[fe c (n+1)]:=by unfold jX;rw[List.range_succ,List.map_append];rfl
theorem gN: ∀(r:List (List Nat)) (a b:List Nat),cj a (r++[b])=cG (cj a r) b
 | [],_,_=>rfl
 | _::r,_,_=>gN r _ _
theorem jY (c:List Nat) (k:Nat):(fe c k).length=c.length:=by unfold fe;rw[List.length_append,List.length_drop,List.length_take];omega
theorem mN: ∀(r:List (List Nat)) (a:List Nat),cj a r=a\/cj a r∈r
 | [],a=> .inl rfl
 | b::r,a=>by
  rcases mN r (cG a b) with h | h
  ·have hl:cG a b=a\/cG a b=b:=by unfold cG;split<;>simp
   rcases hl with e | e
   ·left;show cj (cG a b) r=a;rw[h,e]
   ·right;show cj (cG a b) r∈b::r;rw[h,e];exact List.mem_cons_self
  ·right;exact List.mem_cons_of_mem _ h
noncomputable def wj (_:PySem.W.Frag):Sp:=fun vs H Q _=> ∃l:List Nat,vs=[.str (S l)]/\(∀c∈l,Lt c)/\l.length<=1000/\ ∀H',ah H H'->Q (.str (S (aU l))) H'
theorem Aq {K:PySem.W.Frag} {vs:List V} {H:Hp} {Q:VK} {E:XK} (h:wj K vs H Q E):vs.length=1:=by obtain ⟨c,rfl,_⟩:=h;rfl
noncomputable def mP (_:PySem.W.Frag):Sp:=fun vs H Q _=> ∃a b:List Nat,vs=[.str (S a), .str (S b)]/\(∀c∈a,Lt c)/\a.length<=1000/\(∀c∈b,Lt c)/\b.length<=1000/\ ∀H',ah H H'->Q (.bl (decide (aU a=aU b))) H'
theorem sN {K:PySem.W.Frag} {vs:List V} {H:Hp} {Q:VK} {E:XK} (h:mP K vs H Q E):vs.length=2:=by obtain ⟨c,d,rfl,_⟩:=h;rfl
noncomputable def AllLt (l:List Nat):Prop:= ∀c∈l,Lt c
theorem AllLt.app {a b:List Nat} (h:AllLt a) (g:AllLt b):AllLt (a++b):=fun c hc=>(List.mem_append.mp hc).elim (h c) (g c)
theorem AllLt.left {a b:List Nat} (h:AllLt (a++b)):AllLt a:=fun c hc=>h c (List.mem_append_left _ hc)
theorem AllLt.right {a b:List Nat} (h:AllLt (a++b)):AllLt b:=fun c hc=>h c (List.mem_append_right _ hc)
theorem mQ: ∀(t st x y:List Nat),AllLt t->red (x++(st++t)++y)=red (x++t.foldl cx st++y)
 | [],st,x,y,_=>by rw[List.append_nil];rfl
 | c::t,st,x,y,h=>by
  have hc:Lt c:=h c List.mem_cons_self
  have ht:AllLt t:=fun d hd=>h d (List.mem_cons_of_mem _ hd)
  rw[List.foldl_cons, <-mQ t (cx st c) x y ht]
  unfold cx
  by_cases e:st.getLast? =some (aX c)
  ·rw[if_pos e]
   obtain ⟨m,rfl⟩:=ky e
   rw[List.dropLast_concat]
   have:=fI (a:=x++m) (b:=t++y) hc rfl
   simpa [List.append_assoc]using this
  ·rw[if_neg e]
   simp[List.append_assoc]
theorem wm {t:List Nat} (x y:List Nat) (h:AllLt t):red (x++t++y)=red (x++red t++y):=by
 have:red (x++([]++t)++y)=red (x++red t++y):=mQ t [] x y h
 simpa using this
theorem Ar {t:List Nat} (y:List Nat) (h:AllLt t):red (t++y)=red (red t++y):=by simpa using wm [] y h
theorem x6 {t:List Nat} (x:List Nat) (h:AllLt t):red (x++t)=red (x++red t):=by simpa using wm x [] h
theorem sO (c:Nat) (l:List Nat):su (c::l)=su l++[aX c]:=by unfold su;rw[List.map_cons,List.reverse_cons]
theorem mR (a b:List Nat): ¬a<cG a b:=by
 unfold cG
 split
 ·rename_i h;exact fun g=>List.lt_irrefl a (List.lt_trans g h)
 ·exact List.lt_irrefl a
theorem lr (a b:List Nat): ¬b<cG a b:=by
 unfold cG
 split
 ·exact List.lt_irrefl b
 ·rename_i h;exact h
theorem Eu {a b c:List Nat} (h: ¬b<a) (g: ¬c<b): ¬c<a:=List.le_trans (show a<=b from h) (show b<=c from g)
theorem C8 {a b:List Nat} (h: ¬b<a) (g: ¬a<b):a=b:=List.le_antisymm (show a<=b from h) (show b<=a from g)
theorem js: ∀(r:List (List Nat)) (a:List Nat), ∀x∈a::r, ¬x<cj a r
 | [],a,x,hx=>by rw[List.mem_singleton.mp hx];exact List.lt_irrefl a
 | b::r,a,x,hx=>by
  show ¬x<cj (cG a b) r
  have h0:=js r (cG a b) (cG a b) List.mem_cons_self
  rcases List.mem_cons.mp hx with e | hx
  ·rw[e];exact Eu h0 (mR a b)
  ·rcases List.mem_cons.mp hx with e | hx
   ·rw[e];exact Eu h0 (lr a b)
   ·exact js r (cG a b) x (List.mem_cons_of_mem _ hx)
theorem mS (c:List Nat):fe c 0=c:=by unfold fe;simp
theorem C9 (c:List Nat):fe c c.length=c:=by unfold fe;simp
theorem sQ (c:List Nat) (k:Nat) (hk:k<=c.length): ¬fe c k<gZ c:=by
 have h:=js (jX c (c.length - 1)) c
 by_cases z:k=0
 ·rw[z,mS];exact h c List.mem_cons_self
 ·by_cases z2:k=c.length
  ·rw[z2,C9];exact h c List.mem_cons_self
  ·refine h _ (List.mem_cons_of_mem _ ?_)
   unfold jX
   exact List.mem_map.mpr ⟨k - 1,List.mem_range.mpr (by omega),by rw[show k - 1+1=k by omega]⟩
theorem gO (c:List Nat): ∃k,k<=c.length/\gZ c=fe c k:=by
 rcases mN (jX c (c.length - 1)) c with h | h
 ·exact ⟨0,Nat.zero_le _,by show cj _ _=_;rw[h,mS]⟩
 ·unfold jX at h
  obtain ⟨k,hk,e⟩:=List.mem_map.mp h
  have:=List.mem_range.mp hk
  exact ⟨k+1,by omega,e.symm⟩
theorem As {c m:List Nat} (h1: ∃k,k<=c.length/\m=fe c k) (h2: ∀k,k<=c.length-> ¬fe c k<m):gZ c=m:=by
 obtain ⟨k,hk,e⟩:=h1
 obtain ⟨j,hj,e2⟩:=gO c
 refine C8 ?_ ?_
 ·rw[e];exact sQ c k hk
 ·rw[e2];exact h2 j hj
theorem qy (a b:List Nat):fe (a++b) a.length=b++a:=by unfold fe;rw[List.drop_left,List.take_left]
theorem qA {c:List Nat} {k j:Nat} (hk:k<=c.length) (hj:j<=c.length): ∃i,i<=c.length/\fe (fe c k) j=fe c i:=by
 by_cases z:j<=c.length - k
 ·refine ⟨k+j,by omega,?_⟩
  unfold fe
  rw[List.drop_append_of_le_length (by rw[List.length_drop];omega),List.take_append_of_le_length (by rw[List.length_drop];omega),List.drop_drop,List.append_assoc, <-List.take_add]
 ·refine ⟨j - (c.length - k),by omega,?_⟩
  unfold fe
  have e1:(c.drop k).length=c.length - k:=List.length_drop
  rw[List.drop_append,List.take_append,e1,List.drop_of_length_le (by rw[e1];omega),List.take_of_length_le (l:=c.drop k) (by rw[e1];omega),List.nil_append,List.drop_take,List.take_take]
  have e2:min (j - (c.length - k)) k=j - (c.length - k):=by omega
  rw[e2]
  have e3:c.drop (j - (c.length - k))=(c.drop (j - (c.length - k))).take (k - (j - (c.length - k)))++c.drop k:=by
   have:=List.take_append_drop (k - (j - (c.length - k))) (c.drop (j - (c.length - k)))
   rw[List.drop_drop]at this
   have e:j - (c.length - k)+(k - (j - (c.length - k)))=k:=by omega
   rw[e]at this
   exact this.symm
  rw[e3,List.append_assoc]
  congr 2
  exact e3.symm
theorem u4 {c:List Nat} {k:Nat} (hk:k<=c.length):gZ (fe c k)=gZ c:=by
 refine (As (c:=c) ?_ fun j hj=>?_).symm
 ·obtain ⟨j,hj,e⟩:=gO (fe c k)
  rw[jY]at hj
  rw[e]
  exact qA hk hj
 ·have hb:c=fe (fe c k) (c.length - k):=by
   have e:fe c k=c.drop k++c.take k:=rfl
   have:=qy (c.drop k) (c.take k)
   rw[List.length_drop, <-e]at this
   rw[this,List.take_append_drop]
  obtain ⟨i,hi,e⟩:=qA (c:=fe c k) (k:=c.length - k) (j:=j) (by rw[jY];omega) (by rw[jY];exact hj)
  rw[<-hb]at e
  rw[e]
  exact sQ _ i hi
theorem mT (a b:List Nat):gZ (a++b)=gZ (b++a):=by
 rw[<-qy a b]
 exact (u4 (by rw[List.length_append];omega)).symm
theorem u5 {a b:Nat} (ha:Lt a) (hb:Lt b) (h:a≠aX b):b≠aX a:=fun z=>h (by rw[z,bA ha])
theorem pf {l:List Nat} (h: ∀a m y,l=a::(m++[y])->a≠aX y):core l=l:=by
 by_cases z:l.length<2
 ·exact eh z
 ·obtain ⟨a,m,y,rfl⟩:=sJ (l:=l) (by omega)
  exact d_ (h a m y rfl)
theorem Au {c d:Nat} {r:List Nat} (h:jr (d::r)) (hc:c≠aX d):jr (c::d::r):=⟨hc,h⟩
theorem GU {c:Nat} {t:List Nat} (hc:Lt c) (ht:AllLt t):gZ (core (red (c::t)))=gZ (core (red (t++[c]))):=by
 have e1:red (c::t)=red (c::red t):=x6 [c] ht
 have e2:red (t++[c])=red (red t++[c]):=Ar [c] ht
 rw[e1,e2]
 have hr:jr (red t):=C4 t
 have Af:AllLt (red t):=uZ ht
 generalize red t=r at hr Af
 cases r with
 | nil=>rfl
 | cons d s=>
  have hd:Lt d:=Af d List.mem_cons_self
  have V_:AllLt s:=fun x hx=>Af x (List.mem_cons_of_mem _ hx)
  obtain ⟨m,e,BO⟩: ∃m e,d::s=m++[e]:=by
   rcases snoc_cases (d::s) with z | ⟨m,e,z⟩
   ·cases z
   ·exact ⟨m,e,z⟩
  have x8:Lt e:=Af e (by rw[BO];simp)
  have last:(d::s).getLast? =some e:=by rw[BO];simp
  by_cases rq:c=aX d
  ·have f1:red (c::d::s)=s:=by
    have:=fI (a:=[]) (b:=s) hd rq
    rw[List.nil_append,List.nil_append]at this
    rw[this,fJ hr.tail]
   rw[f1]
   by_cases Ew:e=aX c
   ·have f2:red (d::s++[c])=m:=by
     rw[BO,List.append_assoc]
     have:=fI (a:=m) (b:=[]) hc Ew
     rw[List.append_nil]at this
     show red (m++e::c::[])=m
     rw[this,fJ]
     rw[BO]at hr
     exact hr.init.1
    rw[f2]
    have Yn:e=d:=by rw[Ew,rq,bA hd]
    subst Yn
    cases m with
    | nil=>
     have:s=[]:=by cases BO;rfl
     rw[this]
    | cons x m'=>
     have hx:x=e/\s=m'++[e]:=by
      have:=BO
      rw[List.cons_append]at this
      injection this with h1 h2
      exact ⟨h1.symm,h2⟩
     obtain ⟨rfl,rfl⟩:=hx
     have k1:core (m'++[x])=m'++[x]:=pf fun a mm y z=>by
      cases m' with
      | nil=>simp at z
      | cons a' m''=>
       rw[List.cons_append]at z
       injection z with z1 z2
       have z3:y=x:=by
        have:=congrArg List.getLast? z2
        simpa using this.symm
       rw[<-z1,z3]
       exact u5 hd (V_ a' (by simp)) hr.1
     have k2:core (x::m')=x::m':=pf fun a mm y z=>by
      injection z with z1 z2
      rw[<-z1]
      subst z2
      have:=hr.tail
      rw[List.append_assoc]at this
      have h4:jr ((mm++[y])++[x]):=by rw[List.append_assoc];exact this
      have h5:=h4.init.2
      intro z
      exact h5 (by rw[z,List.getLast?_concat,bA (V_ y (by simp))])
     rw[k1,k2]
     exact mT m' [x]
   ·have f2:red (d::s++[c])=d::s++[c]:=fJ (hr.snoc (by rw[last];intro z;exact Ew (by injection z)))
    rw[f2]
    have:core (d::(s++[c]))=core s:=iS (by rw[rq,bA hd])
    rw[List.cons_append,this]
  ·have f1:red (c::d::s)=c::d::s:=fJ (Au hr rq)
   rw[f1]
   by_cases Ew:e=aX c
   ·have f2:red (d::s++[c])=m:=by
     rw[BO,List.append_assoc]
     have:=fI (a:=m) (b:=[]) hc Ew
     rw[List.append_nil]at this
     show red (m++e::c::[])=m
     rw[this,fJ]
     rw[BO]at hr
     exact hr.init.1
    rw[f2,BO,iS (by rw[Ew,bA hc])]
   ·have f2:red (d::s++[c])=d::s++[c]:=fJ (hr.snoc (by rw[last];intro z;exact Ew (by injection z)))
    rw[f2]
    have k1:core (c::d::s)=c::d::s:=by
     rw[BO]
     exact d_ (u5 x8 hc Ew)
    have k2:core (d::s++[c])=d::s++[c]:=by
     rw[List.cons_append]
     exact d_ (u5 hc hd rq)
    rw[k1,k2]
    exact mT [c] (d::s)
theorem ph: ∀{u v:List Nat},AllLt u->AllLt v->aU (u++v)=aU (v++u)
 | [],v,_,_=>by rw[List.append_nil];rfl
 | c::u,v,hu,hv=>by
  have hc:Lt c:=hu c List.mem_cons_self
  have Wa:AllLt u:=fun x hx=>hu x (List.mem_cons_of_mem _ hx)
  have e1:aU (c::u++v)=aU (u++v++[c]):=by
   rw[eR,eR]
   exact GU hc (Wa.app hv)
  have e2:=ph (u:=u) (v:=v++[c]) Wa (hv.app fun x hx=>by rw[List.mem_singleton.mp hx];exact hc)
  rw[e1,List.append_assoc,e2,List.append_assoc]
  rfl
theorem u6 {r:List Nat}:AllLt r-> ∃p,AllLt p/\r=p++core r++su p:=
 mL (P:=fun l c=>AllLt l-> ∃p,AllLt p/\l=p++c++su p) (fun l _ _=>⟨[],fun _ h=>absurd h List.not_mem_nil,by simp[su]⟩) (fun a m y _ _=>⟨[],fun _ h=>absurd h List.not_mem_nil,by simp[su]⟩)
  (fun a m y c e ih h=>by
   have ha:Lt a:=h a List.mem_cons_self
   have hy:Lt y:=h y (by simp)
   obtain ⟨p,hp,e2⟩:=ih fun x hx=>h x (by simp[hx])
   refine ⟨a::p,fun x hx=>?_,?_⟩
   ·rcases List.mem_cons.mp hx with z | z
    ·rw[z];exact ha
    ·exact hp x z
   ·have e3:aX a=y:=by rw[e,bA hy]
    rw[sO,e3]
    have:m++[y]=p++c++su p++[y]:=by rw[<-e2]
    rw[this]
    simp[List.append_assoc]) r.length r (Nat.le_refl _)
theorem Av {w:List Nat} {k:Nat} (h:AllLt w):aU (fe w k)=aU w:=by
 unfold fe
 have h1:AllLt (w.take k++w.drop k):=by rw[List.take_append_drop];exact h
 rw[ph h1.right h1.left,List.take_append_drop]
noncomputable def MZ:List Nat:=[97,98,99,100,101,102,103,104,105,106,107,108,109,110,111,112,113,114,115,116,117,118,119,120,121,122,65,66,67,68,69,70,71,72,73,74,75,76,77,78,79,80,81,82,83,84,85,86,87,88,89,90]
theorem bN: ∀c∈bp,cF c=true/\PyProof.Rows.lo1 c=c/\aX c∈kx:=by decide+kernel
theorem dn: ∀c∈kx,cF c=false/\PyProof.Rows.lo1 c=aX c/\c∉bp/\aX c∈bp:=by decide+kernel
theorem pj: ∀c∈kx,c∉bp:=by decide+kernel
theorem iT {c:Nat} (h:Lt c):cF c=decide (c∈bp):=by
 rcases h with h | h
 ·rw[(bN c h).1,decide_eq_true h]
 ·rw[(dn c h).1,decide_eq_false (dn c h).2.2.1]
noncomputable def kept (sm:List Nat) (c:Nat):Bool:=decide (PyProof.Rows.lo1 c∈sm)
noncomputable def Wb (i j k:Nat):Prop:=(i<j/\j<k)\/(j<k/\k<i)\/(k<i/\i<j)
noncomputable instance (i j k:Nat):Decidable (Wb i j k):=by unfold Wb;infer_instance
theorem x9 {a b:List Nat} (h:a.Perm b) (ha:a.Pairwise (· <= ·)) (hb:b.Pairwise (· <= ·)):a=b:=
 List.Perm.eq_of_pairwise (le:=fun x y=>x<=y) (fun _ _ _ _ h1 h2=>Nat.le_antisymm h1 h2) ha hb h
noncomputable def sR (_:PySem.W.Frag):Sp:=fun vs H Q _=> ∃l:List Nat,vs=[.str (S l)]/\(∀c∈l,c<128)/\l.length<64/\ ∀l' H',l'.Perm (l.filter cF)->l'.Pairwise (· <= ·)->ah H H'->Q (.str (S l')) H'
theorem x_ {K:PySem.W.Frag} {vs:List V} {H:Hp} {Q:VK} {E:XK} (h:sR K vs H Q E):vs.length=1:=by obtain ⟨c,rfl,_⟩:=h;rfl
noncomputable def pq (_:PySem.W.Frag):Sp:=fun vs H Q _=> ∃y:List Nat,vs=[.str (S y)]/\y.length<64/\ ∀q l' H',H q=none->H' q=some (.lst (bX l'))->l'.Perm (y.filter fun c=>decide (c∈bp))->l'.Pairwise (· <= ·)->ah H H'->Q (.ref q) H'
theorem u7 {K:PySem.W.Frag} {vs:List V} {H:Hp} {Q:VK} {E:XK} (h:pq K vs H Q E):vs.length=1:=by obtain ⟨c,rfl,_⟩:=h;rfl
theorem kT {p:Nat->Bool} {l:List Nat} {i c:Nat} (h:l[i]? =some c):(l.take (i+1)).filter p=(l.take i).filter p++if p c=true then [c] else []:=by
 rw[<-take_snoc h,List.filter_append]
 congr 1
 by_cases z:p c=true
 ·rw[if_pos z,List.filter_cons_of_pos z];rfl
 ·rw[if_neg z,List.filter_cons_of_neg z];rfl
theorem Aw {y:List Nat} (h:Yd y):2*(y.filter cF).length=y.length:=by
 have key: ∀p q:Nat->Bool,(∀c∈y,p c=true->q (aX c)=true)->(y.filter p).length<=(y.filter q).length:=fun p q Yo=>by
  have hn:((y.filter p).map aX).Nodup:=by
   show ((y.filter p).map aX).Pairwise (· ≠ ·)
   rw[List.pairwise_map]
   refine (h.nd.filter p).imp_of_mem fun {a b} ha hb z e=>z ?_
   exact C1 (h.lt a (List.mem_filter.mp ha).1) (h.lt b (List.mem_filter.mp hb).1) e
  have:=hn.length_le_of_subset (l₂:=y.filter q) fun c hc=>by
   obtain ⟨d,hd,rfl⟩:=List.mem_map.mp hc
   obtain ⟨d1,d2⟩:=List.mem_filter.mp hd
   exact List.mem_filter.mpr ⟨h.cl d d1,Yo d d1 d2⟩
  rwa [List.length_map]at this
 have k1:=key cF (fun c=>!cF c) fun c hc z=>by
  rw[iT (h.lt c hc)]at z
  have hs:=of_decide_eq_true z
  rw[(dn _ (bN c hs).2.2).1];rfl
 have k2:=key (fun c=>!cF c) cF fun c hc z=>by
  rcases h.lt c hc with q | q
  ·rw[(bN c q).1]at z;cases z
  ·exact (bN _ (dn c q).2.2.2).1
 have k3:(y.filter cF).length+(y.filter fun c=>!cF c).length=y.length:=by
  clear k1 k2 key h
  induction y with
  | nil=>rfl
  | cons a r ih=>
   cases hq:cF a
   ·rw[List.filter_cons_of_neg (by simp[hq]),List.filter_cons_of_pos (by simp[hq]),List.length_cons,List.length_cons];omega
   ·rw[List.filter_cons_of_pos hq,List.filter_cons_of_neg (by simp[hq]),List.length_cons,List.length_cons];omega
 omega
noncomputable def aA (y:List Nat):List Nat:=(y.filter cF).mergeSort fun a b=>decide (a<=b)
theorem dz (y:List Nat):(aA y).Perm (y.filter cF):=List.mergeSort_perm _ _
theorem sS (y:List Nat):(aA y).Pairwise (· <= ·):=
 (List.pairwise_mergeSort (le:=fun a b=>decide (a<=b)) (fun a b c h1 h2=>decide_eq_true (Nat.le_trans (of_decide_eq_true h1) (of_decide_eq_true h2))) (fun a b=>by
  rcases Nat.le_total a b with z | z
  ·rw[decide_eq_true z];rfl
  ·rw[decide_eq_true z,Bool.or_true]) (y.filter cF)).imp fun z=>of_decide_eq_true z
theorem jZ {y l:List Nat} (h:l.Perm (y.filter cF)) (p:l.Pairwise (· <= ·)):l=aA y:=x9 (h.trans (dz y).symm) p (sS y)
theorem mU {y:List Nat} (h: ∀c∈y,Lt c):(y.filter fun c=>decide (c∈bp))=y.filter cF:=List.filter_congr fun c hc=>(iT (h c hc)).symm
theorem wq {y:List Nat} (h:Yd y) {e:Nat} (he:e∈y):PyProof.Rows.lo1 e∈aA y:=by
 refine (dz y).mem_iff.mpr (List.mem_filter.mpr ?_)
 rcases h.lt e he with z | z
 ·rw[(bN e z).2.1];exact ⟨he,(bN e z).1⟩
 ·rw[(dn e z).2.1];exact ⟨h.cl e he,(bN _ (dn e z).2.2.2).1⟩
theorem eS {y:List Nat} (h:Yd y):2*(aA y).length=y.length:=by rw[(dz y).length_eq];exact Aw h
structure Pr where
 t:Addr
 c:Nat
 i:Nat
noncomputable def cL (ps:List Pr):List V:=ps.map fun p=>V.ref p.t
theorem bK (ps:List Pr):(cL ps).length=ps.length:=by unfold cL;rw[List.length_map]
theorem C_ (a b:List Pr):cL a++cL b=cL (a++b):=by unfold cL;rw[List.map_append]
theorem j0 (a:List Pr) (p:Pr):cL a++[V.ref p.t]=cL (a++[p]):=by unfold cL;rw[List.map_append];rfl
theorem u9 {ps:List Pr} {i:Nat} {x:V} (h:(cL ps)[i]? =some x): ∃p,ps[i]? =some p/\x=V.ref p.t:=by
 unfold cL at h
 rw[List.getElem?_map]at h
 cases e:ps[i]? with
 | none=>rw[e]at h;cases h
 | some p=>rw[e]at h;cases h;exact ⟨p,rfl,rfl⟩
structure fK (H:Hp) (p:Pr):Prop where
 tp:H p.t=some (.tup [.int p.c, .int p.i])
 cz:p.c<1000
 iz:p.i<1000
theorem fK.same {H H':Hp} {p:Pr} (h:fK H p) (s:ah H H'):fK H' p:=⟨s _ _ h.tp,h.cz,h.iz⟩
structure Od where
 o:Addr
 ps:List Pr
structure jb (H:Hp) (o:Od):Prop where
 tp:H o.o=some (.tup (cL o.ps))
 pr: ∀p∈o.ps,fK H p
 fw:o.ps.length<=100
theorem jb.same {H H':Hp} {o:Od} (h:jb H o) (s:ah H H'):jb H' o:=⟨s _ _ h.tp,fun p hp=>(h.pr p hp).same s,h.fw⟩
noncomputable def kU (os:List Od):List V:=os.map fun o=>V.ref o.o
theorem lG (os:List Od):(kU os).length=os.length:=by unfold kU;rw[List.length_map]
theorem mV (a:List Od) (p:Od):kU a++[V.ref p.o]=kU (a++[p]):=by unfold kU;rw[List.map_append];rfl
theorem GV {os:List Od} {i:Nat} {o:Od} (h:os[i]? =some o):(kU os)[i]? =some (V.ref o.o):=by unfold kU;rw[List.getElem?_map,h];rfl
structure jc (H:Hp) (dr:Addr) (ws:List (List Nat)) (os:List Od):Prop where
 ex: ∃wt ot,H dr=some (.tup [.ref wt, .ref ot])/\H wt=some (.tup (cD ws))/\H ot=some (.tup (kU os))
 od: ∀o∈os,jb H o
theorem jc.same {H H':Hp} {dr:Addr} {ws:List (List Nat)} {os:List Od} (h:jc H dr ws os) (s:ah H H'):jc H' dr ws os:=by
 obtain ⟨⟨wt,ot,h1,h2,h3⟩,g⟩:=h
 exact ⟨⟨wt,ot,s _ _ h1,s _ _ h2,s _ _ h3⟩,fun o ho=>(g o ho).same s⟩
structure Pt where
 t:Addr
 c:Nat
 i:Nat
 e:Nat
noncomputable def Pt.is (p:Pt):Nat×Nat×Nat:=(p.c,p.i,p.e)
structure Yp (H:Hp) (p:Pt):Prop where
 tp:H p.t=some (.tup [.int p.c, .int p.i, .str (S [p.e])])
 cz:p.c<1000
 iz:p.i<1000
 ez:p.e<128
noncomputable def Ax (K:PySem.W.Frag) (H:Hp) (x:V) (ys:List V):Prop:=(∃p,x= .ref p/\(aJ K H p ys\/aY K H p ys))\/ ∃l:List Nat,x= .str (S l)/\ys=bX l
noncomputable def pw (K:PySem.W.Frag):Sp:=fun vs H Q _=> ∃(b:Addr) (x:V) (ys:List V),vs=[.ref b,x]/\bM H b/\Ax K H x ys/\ys.length<=1000/\ ∀q We H',H q=none->q≠b->H' q=some (.lst We)->We.Perm ys->bM H' b->aE b H H'->Q (.ref q) H'
theorem u_ {K:PySem.W.Frag} {vs:List V} {H:Hp} {Q:VK} {E:XK} (h:pw K vs H Q E):vs.length=2:=by obtain ⟨c,_,_,rfl,_⟩:=h;rfl
theorem va {α β:Type} {f:α->β} {ys zs:List β} (h:ys.Perm zs): ∀l:List α,zs=l.map f-> ∃l':List α,ys=l'.map f/\l'.Perm l:=by
 induction h with
 | nil=>intro l e;cases l with
  | nil=>exact ⟨[],rfl,List.Perm.refl _⟩
  | cons a l=>cases e
 | cons x h ih=>
  intro l e
  cases l with
  | nil=>cases e
  | cons a l=>
   injection e with e1 e2
   obtain ⟨l',g1,g2⟩:=ih l e2
   exact ⟨a::l',by rw[g1,e1];rfl,g2.cons a⟩
 | swap x y t=>
  intro l e
  cases l with
  | nil=>cases e
  | cons a l=>
   cases l with
   | nil=>cases e
   | cons b l=>
    injection e with e1 e2
    injection e2 with e2 e3
    exact ⟨b::a::l,by rw[e1,e2,e3];rfl,List.Perm.swap a b l⟩
 | trans h1 h2 i1 i2=>
  intro l e
  obtain ⟨l1,g1,g2⟩:=i2 l e
  obtain ⟨l2,g3,g4⟩:=i1 l1 g1
  exact ⟨l2,g3,g4.trans g2⟩
noncomputable def Pr.pair (p:Pr):Nat×Nat:=(p.c,p.i)
noncomputable def vb (band l:Nat):Bool:=decide (l=band)||decide (l=aX band)
noncomputable def iG (band c:Nat) (w:List Nat) (n:Nat):List (Nat×Nat):=((List.range n).filter fun i=>vb band (w.getD i 0)).map fun i=>(c,i)
noncomputable def cH (band:Nat) (ws:List (List Nat)) (n:Nat):List (Nat×Nat):=(List.range n).flatMap fun c=>iG band c (ws.getD c []) (ws.getD c []).length
theorem vc {band c i l:Nat} {w:List Nat} (h:w[i]? =some l):iG band c w (i+1)=iG band c w i++if vb band l=true then [(c,i)] else []:=by
 have e:w.getD i 0=l:=by rw[List.getD_eq_getElem?_getD,h];rfl
 unfold iG
 rw[List.range_succ,List.filter_append,List.map_append]
 congr 1
 by_cases z:vb band l=true
 ·rw[if_pos z,List.filter_cons_of_pos (by rw[e];exact z)];rfl
 ·rw[if_neg z,List.filter_cons_of_neg (by rw[e];exact z)];rfl
theorem kW {band i:Nat} {ws:List (List Nat)} {w:List Nat} (h:ws[i]? =some w):cH band ws (i+1)=cH band ws i++iG band i w w.length:=by
 have e:ws.getD i []=w:=by rw[List.getD_eq_getElem?_getD,h];rfl
 unfold cH
 rw[List.range_succ,List.flatMap_append]
 congr 1
 rw[List.flatMap_cons,List.flatMap_nil,List.append_nil,e]
theorem ya (band c:Nat) (w:List Nat) (n:Nat):(iG band c w n).length<=n:=by
 unfold iG
 rw[List.length_map]
 exact Nat.le_trans (List.length_filter_le _ _) (by rw[List.length_range];exact Nat.le_refl _)
structure sV (y:List Nat) (ws:List (List Nat)):Prop where
 ke:ws.length<=4
 all: ∀w∈ws,(∀c∈w,c∈y)/\w.length<=12
noncomputable def GW (y:List Nat) (ws:List (List Nat)) (os:List Od):Prop:=os.length=(aA y).length/\ ∀(j:Nat) (o:Od) (b:Nat),os[j]? =some o->(aA y)[j]? =some b->(o.ps.map Pr.pair).Perm (cH b ws ws.length)
noncomputable def kX (_:PySem.W.Frag):Sp:=fun vs H Q _=> ∃(b:Addr) (y:List Nat) (wt:Addr) (ws:List (List Nat)),vs=[.ref b, .str (S y), .ref wt]/\bM H b/\Yd y/\y.length<=8/\wt≠b/\H wt=some (.tup (cD ws))/\sV y ws/\ ∀(dr:Addr) (os:List Od) (H':Hp),jc H' dr ws os->GW y ws os->bM H' b->aE b H H'->Q (.ref dr) H'
theorem qB {K:PySem.W.Frag} {vs:List V} {H:Hp} {Q:VK} {E:XK} (h:kX K vs H Q E):vs.length=3:=by obtain ⟨c,_,_,_,rfl,_⟩:=h;rfl
theorem aF.box {H H':Hp} {b:Addr} (h:bM H b) (s:aE b H H'):aF H H':=fun c xs e=>s c _ e fun z=>by
 obtain ⟨x,y,g⟩:=h
 rw[z,g]at e;cases e
theorem fK.ts {H H':Hp} {p:Pr} (h:fK H p) (s:aF H H'):fK H' p:=⟨s _ _ h.tp,h.cz,h.iz⟩
theorem jb.ts {H H':Hp} {o:Od} (h:jb H o) (s:aF H H'):jb H' o:=⟨s _ _ h.tp,fun p hp=>(h.pr p hp).ts s,h.fw⟩
theorem Ay {band l:Nat} (hb:band∈bp) (hl:Lt l):decide (PyProof.Rows.lo1 l=band)=vb band l:=by
 unfold vb
 rcases hl with h | h
 ·have e:=(bN l h).2.1
  have n:l≠aX band:=fun z=>pj _ (bN band hb).2.2 (z▸h)
  rw[e,decide_eq_false n,Bool.or_false]
 ·have e:=(dn l h).2.1
  have n:l≠band:=fun z=>pj l h (z▸hb)
  rw[e,decide_eq_false n,Bool.false_or]
  refine decide_eq_decide.mpr ⟨fun z=>by rw[<-z,bA (.inr h)],fun z=>by rw[z,bA (.inl hb)]⟩
noncomputable def pz (p:Nat×Nat):Int×Int:=(p.1,p.2)
theorem jt (band:Nat) {ws:List (List Nat)} (hw: ∀w∈ws,w.length<=12): ∀n,n<=ws.length->(cH band ws n).length<=12*n
 | 0,_=>Nat.le_refl _
 | n+1,h=>by
  have hn:n<ws.length:=by omega
  rw[kW (List.getElem?_eq_getElem hn),List.length_append]
  have h1:=jt band hw n (by omega)
  have h2:=ya band n ws[n] ws[n].length
  have h3:=hw _ (List.getElem_mem hn)
  omega
noncomputable def ua (p:Nat×Nat):PyData:= .tuple [.int p.1, .int p.2]
theorem mX {K:PySem.W.Frag} {H:Hp}: ∀{ps:List Pr},(∀p∈ps,fK H p)->f_ K H (cL ps) ((ps.map Pr.pair).map ua)
 | [],_=> .nil
 | p::ps,h=> .cons (.tup (aY.of (h p List.mem_cons_self).tp) (.cons (.int _) (.cons (.int _) .nil))) (mX fun q hq=>h q (List.mem_cons_of_mem _ hq))
theorem wu {H:Hp} {ps:List Pr} (h: ∀p∈ps,fK H p) {k:Nat}:n_ (k+1) (90*ps.length) ((ps.map Pr.pair).map ua):=by
 refine .all (a:=89) (fun x hx=>?_) (by rw[List.length_map,List.length_map];omega)
 obtain ⟨q,hq,rfl⟩:=List.mem_map.mp hx
 obtain ⟨p,hp,rfl⟩:=List.mem_map.mp hq
 have ok:=h p hp
 have b1:(p.c:Int).natAbs<10 ^ 12:=by have:=ok.cz;omega
 have b2:(p.i:Int).natAbs<10 ^ 12:=by have:=ok.iz;omega
 exact .tup (.cons (a:=40) (b:=41) (.int b1 (by decide)) (.cons (a:=40) (b:=0) (.int b2 (by decide)) .nil (by decide)) (by decide))
theorem sW: ∀ns:List (Nat×Nat),PyData.hasDictAll (ns.map ua)=false
 | []=>rfl
 | n::ns=>by show (PyData.hasDict (ua n)||PyData.hasDictAll (ns.map ua))=false;rw[sW ns];rfl
noncomputable def M0 (o:Od):PyData:= .tuple ((o.ps.map Pr.pair).map ua)
theorem sX {K:PySem.W.Frag} {H:Hp}: ∀{os:List Od},(∀o∈os,jb H o)->f_ K H (kU os) (os.map M0)
 | [],_=> .nil
 | o::os,h=> .cons (.tup (aY.of (h o List.mem_cons_self).tp) (mX (h o List.mem_cons_self).pr)) (sX fun q hq=>h q (List.mem_cons_of_mem _ hq))
noncomputable def P7 (y:List Nat) (ws:List (List Nat)) (os:List Od):Prop:=os.map (fun o=>o.ps.map Pr.pair)=(aA y).map fun b=>cH b ws ws.length
theorem KO {H:Hp} {ws:List (List Nat)} {os:List Od} (hw: ∀w∈ws,(∀c∈w,c<128)/\w.length<=12) (hf:ws.length<=4) (ho: ∀o∈os,jb H o) (hz:os.length<=4):yV 40 100000 (.tuple [.tuple (Et ws), .tuple (os.map M0)]):=by
 have s1:yV 39 60 (.tuple (Et ws)):= .tup (.all (a:=12) (fun x hx=>by
  obtain ⟨w,Wf,rfl⟩:=List.mem_map.mp hx
  exact .str (hw w Wf).1 (hw w Wf).2) (by unfold Et;rw[List.length_map];omega))
 have s2:yV 39 40000 (.tuple (os.map M0)):= .tup (.all (a:=9000) (fun x hx=>by
  obtain ⟨o,gG,rfl⟩:=List.mem_map.mp hx
  have k:=ho o gG
  have m:=wu (k:=36) k.pr
  exact .tup ⟨m.lv,m.sh,m.ly,m.dp,Nat.le_trans m.wt (by have:=k.fw;omega)⟩) (by rw[List.length_map];omega))
 exact .tup (.cons (a:=60) (b:=40001) s1 (.cons (a:=40000) (b:=0) s2 .nil (by decide)) (by decide))
theorem Az {y:List Nat} (h:Yd y) {b:Nat} (hb:b∈aA y):b∈bp:=by
 obtain ⟨h1,h2⟩:=List.mem_filter.mp ((dz y).mem_iff.mp hb)
 rw[iT (h.lt b h1)]at h2
 exact of_decide_eq_true h2
structure Ask where
 t:Addr
 u:List Nat
 wt:Addr
 ws:List (List Nat)
 ot:Addr
 os:List Od
structure Wg (H:Hp) (k:Ask):Prop where
 tp:H k.t=some (.tup [.str (S k.u), .ref k.wt, .ref k.ot])
 yd:Yd k.u
 yz:k.u.length<=8
 wo:sV k.u k.ws
 hw:H k.wt=some (.tup (cD k.ws))
 ho:H k.ot=some (.tup (kU k.os))
 od: ∀o∈k.os,jb H o
 ex:P7 k.u k.ws k.os
noncomputable def kS (l:List Nat):Key:=Sum.inr (S l)
theorem e_ {a b:List Nat} (h:kS a=kS b):a=b:=by rw[<-fE a,Sum.inr.inj h,fE]
structure ju (H:Hp) (o:Od):Prop where
 tp:H o.o=some (.lst (cL o.ps))
 pr: ∀p∈o.ps,fK H p
 fw:o.ps.length<=100
noncomputable def dI (bs:List Nat) (os:List Od):List (Key×V):=(bs.zip os).map fun x=>(kS [x.1],V.ref x.2.o)
structure bS (H:Hp) (d:Addr) (bs:List Nat) (os:List Od):Prop where
 dk:H d=some (.dK (dI bs os))
 ln:os.length=bs.length
 nd:(os.map Od.o).Nodup
 ok: ∀o∈os,ju H o
theorem mY {bs:List Nat} {os:List Od} (h:os.length=bs.length):(dI bs os).length=bs.length:=by unfold dI;rw[List.length_map,List.length_zip];omega
theorem pA: ∀{bs:List Nat} {os:List Od},os.length=bs.length->(dI bs os).map (fun kv=>kV kv.1)=bX bs
 | [],[],_=>rfl
 | b::bs,o::os,h=>by
  show kV (kS [b])::(dI bs os).map (fun kv=>kV kv.1)=V.str (S [b])::bX bs
  rw[pA (by simpa using h)]
  rfl
theorem eT: ∀{bs:List Nat} {os:List Od} {j:Nat} {b:Nat} {o:Od},bs.Nodup->bs[j]? =some b->os[j]? =some o->cC (dI bs os) (kS [b])=some (.ref o.o)
 | b'::bs,o'::os,0,b,o,_,hb,ho=>by
  cases hb;cases ho
  exact bR rfl
 | b'::bs,o'::os,j+1,b,o,nd,hb,ho=>by
  obtain ⟨n1,n2⟩:=List.nodup_cons.mp nd
  have hU:kS [b']≠kS [b]:=fun z=>n1 (by
   have:=List.mem_of_getElem? (show bs[j]? =some b by simpa using hb)
   rw[(List.cons.inj (e_ z)).1];exact this)
  show cC ((kS [b'],V.ref o'.o)::dI bs os) (kS [b])=_
  rw[bz hU]
  exact eT n2 (by simpa using hb) (by simpa using ho)
theorem pB: ∀{bs:List Nat} {os:List Od} {b:Nat},b∉bs->cC (dI bs os) (kS [b])=none
 | [],_,_,_=>rfl
 | _::_,[],_,_=>rfl
 | b'::bs,o'::os,b,h=>by
  show cC ((kS [b'],V.ref o'.o)::dI bs os) (kS [b])=none
  rw[bz fun z=>h (by rw[<-(List.cons.inj (e_ z)).1];exact List.mem_cons_self)]
  exact pB fun z=>h (List.mem_cons_of_mem _ z)
theorem AA: ∀{bs:List Nat} {os:List Od} {j:Nat} {b:Nat} {o':Od},bs.Nodup->os.length=bs.length->bs[j]? =some b->putK (dI bs os) (kS [b]) (.ref o'.o)=dI bs (os.set j o'):=by
 intro bs os j b o' nd hl hb
 have hj:j<os.length:=by rw[hl];exact (List.getElem?_eq_some_iff.mp hb).1
 have hs:(cC (dI bs os) (kS [b])).isSome=true:=by rw[eT nd hb (List.getElem?_eq_getElem hj)];rfl
 unfold putK
 rw[fF,if_pos hs]
 clear hs
 induction bs generalizing os j with
 | nil=>simp at hb
 | cons b0 bs ih=>
  cases os with
  | nil=>simp at hj
  | cons o0 os=>
   obtain ⟨n1,n2⟩:=List.nodup_cons.mp nd
   cases j with
   | zero=>
    have O9:b0=b:=by simpa using hb
    subst O9
    show (if kS [b0]=kS [b0] then (kS [b0],V.ref o'.o) else _)::(dI bs os).map _=(kS [b0],V.ref o'.o)::dI bs os
    rw[if_pos rfl]
    congr 1
    have: ∀kv∈dI bs os,(if kv.1=kS [b0] then (kv.1,V.ref o'.o) else kv)=kv:=fun kv Wh=>by
     unfold dI at Wh
     obtain ⟨x,hx,rfl⟩:=List.mem_map.mp Wh
     rw[if_neg]
     intro z
     have:=(List.of_mem_zip (show (x.1,x.2)∈bs.zip os from hx)).1
     rw[(List.cons.inj (e_ z)).1]at this
     exact n1 this
    rw[List.map_congr_left this,List.map_id']
   | succ j=>
    have Ex:bs[j]? =some b:=by simpa using hb
    have hU:kS [b0]≠kS [b]:=fun z=>n1 (by rw[(List.cons.inj (e_ z)).1];exact List.mem_of_getElem? Ex)
    show (if kS [b0]=kS [b] then _ else (kS [b0],V.ref o0.o))::(dI bs os).map _=(kS [b0],V.ref o0.o)::dI bs (os.set j o')
    rw[if_neg hU]
    congr 1
    exact ih n2 (by simpa using hl) Ex (by simpa using hj)
noncomputable def dU (c:Nat) (f:Nat->Option Nat) (p:Nat×Nat):Option (Nat×Nat):=if p.1=c then (f p.2).map fun j=>(c,j) else some p
noncomputable def bZ (c:Nat) (f:Nat->Option Nat) (ps:List (Nat×Nat)):List (Nat×Nat):=ps.filterMap (dU c f)
noncomputable def br (o:Od):List (Nat×Nat):=o.ps.map Pr.pair
noncomputable def kY (_:PySem.W.Frag):Sp:=fun vs H Q _=> ∃(d:Addr) (c:Nat) (pp:Addr) (bs:List Nat) (os:List Od) (xs:List V) (f:Nat->Option Nat),vs=[.ref d, .int c, .ref pp]/\bS H d bs os/\bs.Nodup/\bs.length<=100/\c<1000/\H pp=some (.lst xs)/\
 (∀o∈os, ∀p∈o.ps,p.c=c->xs[p.i]? =some (match f p.i with | none=>V.cy | some j=>V.int (j:Nat)))/\(∀o∈os, ∀p∈o.ps,p.c=c-> ∀j,f p.i=some j->j<1000)/\
 ∀(os':List Od) (H':Hp),bS H' d bs os'->os'.map br=os.map (fun o=>bZ c f (br o))->(∀o∈os',H o.o=none)->aE d H H'->Q .cy H'
theorem qC {K:PySem.W.Frag} {vs:List V} {H:Hp} {Q:VK} {E:XK} (h:kY K vs H Q E):vs.length=3:=by obtain ⟨_,_,_,_,_,_,_,rfl,_⟩:=h;rfl
theorem ju.KP {H H':Hp} {d:Addr} {o:Od} (h:ju H o) (s:aE d H H') (hd:o.o≠d) (t:aF H H'):ju H' o:=⟨s _ _ h.tp hd,fun p hp=>(h.pr p hp).ts t,h.fw⟩
theorem ju.same {H H':Hp} {o:Od} (h:ju H o) (s:ah H H'):ju H' o:=⟨s _ _ h.tp,fun p hp=>(h.pr p hp).same s,h.fw⟩
theorem bS.same {H H':Hp} {d:Addr} {bs:List Nat} {os:List Od} (h:bS H d bs os) (s:ah H H'):bS H' d bs os:=⟨s _ _ h.dk,h.ln,h.nd,fun o ho=>(h.ok o ho).same s⟩
theorem bS.ne {H:Hp} {d:Addr} {bs:List Nat} {os:List Od} (h:bS H d bs os) {o:Od} (ho:o∈os):o.o≠d:=fun z=>by
 have:=(h.ok o ho).tp
 rw[z,h.dk]at this
 cases this
theorem pE {l:List Addr} (h:l.Nodup): ∀{j:Nat} {a:Addr},a∉l->(l.set j a).Nodup:=by
 induction l with
 | nil=>intro j a _;exact h
 | cons x l ih=>
  obtain ⟨n1,n2⟩:=List.nodup_cons.mp h
  intro j a ha
  cases j with
  | zero=>exact List.nodup_cons.mpr ⟨fun z=>ha (List.mem_cons_of_mem _ z),n2⟩
  | succ j=>
   refine List.nodup_cons.mpr ⟨fun z=>?_,ih n2 fun z=>ha (List.mem_cons_of_mem _ z)⟩
   rcases List.mem_or_eq_of_mem_set z with g | g
   ·exact n1 g
   ·exact ha (by rw[<-g];exact List.mem_cons_self)
theorem bS.put {H:Hp} {d:Addr} {bs:List Nat} {os:List Od} {j:Nat} {b:Nat} {o':Od} (h:bS H d bs os) (nd:bs.Nodup) (hb:bs[j]? =some b) (ho:ju H o') (hd:o'.o≠d) (hn: ∀o∈os,o.o≠o'.o):
  bS (upd H d (.dK (putK (dI bs os) (kS [b]) (.ref o'.o)))) d bs (os.set j o'):=by
 have P8:=h.dk
 have up: ∀{x:Od},ju H x->x.o≠d->ju (upd H d (.dK (putK (dI bs os) (kS [b]) (.ref o'.o)))) x:=fun {x} hx hU=>
  ⟨by rw[aj hU];exact hx.tp,fun p hp=>⟨by rw[aj (fun z=>by have:=(hx.pr p hp).tp;rw[z,P8]at this;cases this)];exact (hx.pr p hp).tp,(hx.pr p hp).cz,(hx.pr p hp).iz⟩,hx.fw⟩
 refine ⟨by rw[ae,AA nd h.ln hb],by rw[List.length_set];exact h.ln,?_,fun x hx=>?_⟩
 ·rw[List.map_set]
  exact pE h.nd fun z=>by
   obtain ⟨o,GX,Yq⟩:=List.mem_map.mp z
   exact hn o GX Yq
 ·rcases List.mem_or_eq_of_mem_set hx with g | g
  ·exact up (h.ok x g) (h.ne g)
  ·rw[g];exact up ho hd
theorem set_drop {α:Type} (l:List α) (i:Nat) (a:α):(l.set i a).drop (i+1)=l.drop (i+1):=by
 induction l generalizing i with
 | nil=>rfl
 | cons x l ih=>cases i with
  | zero=>rfl
  | succ i=>exact ih i
theorem sY {α:Type} (l:List α) (i:Nat) (a:α) (h:i<l.length):(l.set i a).take (i+1)=l.take i++[a]:=by
 induction l generalizing i with
 | nil=>simp at h
 | cons x l ih=>cases i with
  | zero=>rfl
  | succ i=>show x::(l.set i a).take (i+1)=x::(l.take i++[a]);rw[ih i (by simpa using h)]
theorem yb (c:Nat) (f:Nat->Option Nat) (l:List (Nat×Nat)) (p:Nat×Nat):bZ c f (l++[p])=bZ c f l++(dU c f p).toList:=by
 unfold bZ
 rw[List.filterMap_append]
 cases h:dU c f p<;>simp[List.filterMap_cons,h]
noncomputable def AB (a b:Addr) (H H':Hp):Prop:= ∀x u,H x=some u->x≠a->x≠b->H' x=some u
noncomputable def swapAt (n:Nat) (l:List Pr):List Pr:=match l[n]?, l[n+1]? with | some p,some q=>(l.set n q).set (n+1) p | _,_=>l
noncomputable def outF (k i:Nat):Option Nat:=if i<k then some i else if i<k+2 then none else some (i - 2)
noncomputable def ji (k i:Nat):Option Nat:=if i<k then some i else some (i+2)
noncomputable def ff (n i:Nat):Option Nat:=if i=0 then some (n - 1) else some (i - 1)
noncomputable def fV (o:Option Nat):V:=match o with | none=>V.cy | some j=>V.int (j:Nat)
structure j3 (H:Hp) (d wl:Addr) (bs:List Nat) (os:List Od) (ws:List (List Nat)):Prop where
 od:bS H d bs os
 wd:H wl=some (.lst (cD ws))
 nd:bs.Nodup
 bl:bs.length<=100
 ne: ∀o∈os,o.o≠wl
 pz: ∀o∈os, ∀p∈o.ps, ∃w,ws[p.c]? =some w/\p.i<w.length
 wz:ws.length<=4
 wo: ∀w∈ws,(∀c∈w,Lt c)/\w.length<=12
noncomputable def mZ (_:PySem.W.Frag):Sp:=fun vs H Q _=> ∃(d:Addr) (bs:List Nat) (os:List Od) (b j n:Nat) (o:Od),vs=[.ref d, .str (S [b]), .int n]/\bS H d bs os/\bs.Nodup/\bs.length<=100/\bs[j]? =some b/\os[j]? =some o/\n+1<o.ps.length/\
 ∀H',bS H' d bs (os.set j ⟨o.o,swapAt n o.ps⟩)->aE o.o H H'->Q (.bl true) H'
theorem sZ {K:PySem.W.Frag} {vs:List V} {H:Hp} {Q:VK} {E:XK} (h:mZ K vs H Q E):vs.length=3:=by obtain ⟨_,_,_,_,_,_,_,rfl,_⟩:=h;rfl
noncomputable def Left (H:Hp) (Q:VK) (d wl:Addr) (bs:List Nat) (os:List Od) (ws:List (List Nat)) (c:Nat) (w':List Nat) (f:Nat->Option Nat):Prop:=
 ∀(os':List Od) (H':Hp),bS H' d bs os'->os'.map br=os.map (fun o=>bZ c f (br o))->H' wl=some (.lst (cD (ws.set c w')))->(∀o∈os',H o.o=none)->AB d wl H H'->Q (.bl true) H'
noncomputable def pF (_:PySem.W.Frag):Sp:=fun vs H Q _=> ∃(d wl:Addr) (bs:List Nat) (os:List Od) (ws:List (List Nat)) (c k:Nat) (w:List Nat) (x:Nat),vs=[.ref wl, .ref d, .int c, .int k]/\j3 H d wl bs os ws/\ws[c]? =some w/\w[k]? =some x/\w[k+1]? =some (aX x)/\
 Left H Q d wl bs os ws c (w.take k++w.drop (k+2)) (outF k)
theorem vd {K:PySem.W.Frag} {vs:List V} {H:Hp} {Q:VK} {E:XK} (h:pF K vs H Q E):vs.length=4:=by obtain ⟨_,_,_,_,_,_,_,_,_,rfl,_⟩:=h;rfl
noncomputable def m4 (_:PySem.W.Frag):Sp:=fun vs H Q _=> ∃(d wl:Addr) (bs:List Nat) (os:List Od) (ws:List (List Nat)) (c:Nat) (w:List Nat),vs=[.ref wl, .ref d, .int c]/\j3 H d wl bs os ws/\ws[c]? =some w/\
 Left H Q d wl bs os ws c (w.drop 1++w.take 1) (ff w.length)
theorem s_ {K:PySem.W.Frag} {vs:List V} {H:Hp} {Q:VK} {E:XK} (h:m4 K vs H Q E):vs.length=3:=by obtain ⟨_,_,_,_,_,_,_,rfl,_⟩:=h;rfl
theorem wx (ps:List Pr) (n:Nat) (p:Pr):(cL ps).set n (V.ref p.t)=cL (ps.set n p):=by unfold cL;rw[List.map_set]
theorem j3.pl {H:Hp} {d wl:Addr} {bs:List Nat} {os:List Od} {ws:List (List Nat)} (h:j3 H d wl bs os ws) {c:Nat} {w:List Nat} (hw:ws[c]? =some w) {xs:List V} {f:Nat->Option Nat} (hx: ∀i,i<w.length->xs[i]? =some (fV (f i))):
  ∀o∈os, ∀p∈o.ps,p.c=c->xs[p.i]? =some (match f p.i with | none=>V.cy | some j=>V.int (j:Nat)):=fun o ho p hp e=>by
 obtain ⟨w',h1,h2⟩:=h.pz o ho p hp
 rw[e,hw]at h1
 cases h1
 exact hx _ h2
theorem iU {n k:Nat} (h:k<n):zB n (k:Int)=some k:=by
 unfold zB
 rw[if_pos (by omega)]
 simp[h]
theorem tf (bs:List Nat) (os:List Od):dI bs os=(bs.zip (os.map Od.o)).map fun x=>(kS [x.1],V.ref x.2):=by
 unfold dI
 rw[List.zip_map_right,List.map_map]
 rfl
theorem set_same {α:Type}: ∀{l:List α} {j:Nat} {a:α},l[j]? =some a->l.set j a=l
 | [],_,_,_=>rfl
 | x::l,0,a,h=>by cases h;rfl
 | x::l,j+1,a,h=>by show x::l.set j a=x::l;rw[set_same (by simpa using h)]
theorem bS.mut {H:Hp} {d:Addr} {bs:List Nat} {os:List Od} {j:Nat} {o:Od} {ve:List Pr} (h:bS H d bs os) (ho:os[j]? =some o) (hp: ∀p∈ve,fK H p) (hl:ve.length<=100):
  bS (upd H o.o (.lst (cL ve))) d bs (os.set j ⟨o.o,ve⟩):=by
 have hV:=List.mem_of_getElem? ho
 have pG:=h.ok o hV
 have em:(os.set j ⟨o.o,ve⟩).map Od.o=os.map Od.o:=by
  rw[List.map_set]
  exact set_same (by rw[List.getElem?_map,ho];rfl)
 have tU:aF H (upd H o.o (.lst (cL ve))):=aF.hR pG.tp
 refine ⟨?_,by rw[List.length_set];exact h.ln,by rw[em];exact h.nd,fun x hx=>?_⟩
 ·rw[aj (Ne.symm (h.ne hV)),h.dk,tf,tf,em]
 ·obtain ⟨i,hi,e⟩:=List.mem_iff_getElem.mp hx
  by_cases z:j=i
  ·subst z
   rw[List.getElem_set_self]at e
   rw[<-e]
   exact ⟨ae,fun p Dc=>(hp p Dc).ts tU,hl⟩
  ·rw[List.getElem_set_ne z]at e
   rw[List.length_set]at hi
   have CD:x∈os:=by rw[<-e];exact List.getElem_mem hi
   have hU:x.o≠o.o:=fun y=>z (by
    have hj:=(List.getElem?_eq_some_iff.mp ho)
    have h1:(os.map Od.o)[i]'(by rw[List.length_map];exact hi)=(os.map Od.o)[j]'(by rw[List.length_map];exact hj.1):=by
     rw[List.getElem_map,List.getElem_map,e,hj.2];exact y
    have IH:=List.pairwise_iff_getElem.mp h.nd
    rcases Nat.lt_trichotomy i j with g | g | g
    ·exact absurd h1 (IH i j _ _ g)
    ·exact g.symm
    ·exact absurd h1.symm (IH j i _ _ g))
   have P9:=h.ok x CD
   exact ⟨by rw[aj hU];exact P9.tp,fun p Dc=>(P9.pr p Dc).ts tU,P9.fw⟩
theorem swap_perm (n:Nat) (l:List Pr):(swapAt n l).Perm l:=by
 unfold swapAt
 cases h0:l[n]? with
 | none=>exact List.Perm.refl _
 | some p=>cases h1:l[n+1]? with
  | none=>exact List.Perm.refl _
  | some q=>
   show ((l.set n q).set (n+1) p).Perm l
   induction l generalizing n with
   | nil=>simp at h0
   | cons x l ih=>
    cases n with
    | zero=>
     cases l with
     | nil=>simp at h1
     | cons y l=>
      cases h0
      have e:y=q:=by simpa using h1
      subst e
      exact List.Perm.swap _ _ l
    | succ n=>exact (ih n (by simpa using h0) (by simpa using h1)).cons x
theorem bS.GY {H:Hp} {d wl:Addr} {bs:List Nat} {os:List Od} {ys zs:List V} (h:bS H d bs os) (hU: ∀o∈os,o.o≠wl) (hw:H wl=some (.lst ys)):bS (upd H wl (.lst zs)) d bs os:=by
 have tU:aF H (upd H wl (.lst zs)):=aF.hR hw
 exact ⟨by rw[aj (fun z=>by rw[<-z,h.dk]at hw;cases hw)];exact h.dk,h.ln,h.nd,fun o ho=>⟨by rw[aj (hU o ho)];exact (h.ok o ho).tp,fun p hp=>((h.ok o ho).pr p hp).ts tU,(h.ok o ho).fw⟩⟩
theorem qD (ws:List (List Nat)) (c:Nat) (w:List Nat):(cD ws).set c (.str (S w))=cD (ws.set c w):=by unfold cD;rw[List.map_set]
theorem wA (w:List Nat):cut w (some 1) none=w.drop 1:=by have:=cm w 1;rwa [show ((1:Nat):Int)=1 from rfl]at this
theorem tm (w:List Nat):cut w none (some 1)=w.take 1:=by have:=gM w 1;rwa [show ((1:Nat):Int)=1 from rfl]at this
theorem j4 {n i:Nat} {a:Int} (h:i<n):((List.range n).map fun (k:Nat)=>V.int (a+(k:Int)))[i]? =some (V.int (a+(i:Int))):=by
 rw[List.getElem?_map,List.getElem?_range h]
 rfl
theorem De {n i:Nat} (h:i<n):([V.int ((n:Int) - 1)]++(List.range ((n:Int) - 1).toNat).map fun (k:Nat)=>V.int (0+(k:Int)))[i]? =some (fV (ff n i)):=by
 unfold ff fV
 by_cases z:i=0
 ·subst z
  rw[if_pos rfl]
  show some (V.int ((n:Int) - 1))=some (V.int ((n - 1:Nat):Int))
  congr 2
  omega
 ·rw[if_neg z,List.getElem?_append_right (by simp;omega),List.length_singleton,j4 (by omega)]
  congr 2
  omega
theorem tq {H H3:Hp} {Q:VK} {d wl:Addr} {bs:List Nat} {os:List Od} {ws:List (List Nat)} {c:Nat} {w':List Nat} {f:Nat->Option Nat} (hH:j3 H d wl bs os ws) (q:Left H Q d wl bs os ws c w' f) (s:ah (upd H wl (.lst (cD (ws.set c w')))) H3):
  ∀(os':List Od) (H':Hp),bS H' d bs os'->os'.map br=os.map (fun o=>bZ c f (br o))->(∀o∈os',H3 o.o=none)->aE d H3 H'->Q (.bl true) H':=fun os' H' h1 h2 h3 h4=>by
 have Ey:wl≠d:=fun z=>by have:=hH.wd;rw[z,hH.od.dk]at this;cases this
 refine q os' H' h1 h2 (h4 _ _ (s _ _ ae) Ey) (fun o ho=>?_) fun a u ea za zb=>?_
 ·cases e:H o.o with
  | none=>rfl
  | some u=>
   exfalso
   have hn:=h3 o ho
   by_cases z:o.o=wl
   ·rw[z,s _ _ ae]at hn;cases hn
   ·rw[s _ _ (show upd H wl (.lst (cD (ws.set c w'))) o.o=some u by rw[aj z];exact e)]at hn;cases hn
 ·exact h4 _ _ (s _ _ (by rw[aj zb];exact ea)) za
theorem j3.pb {H:Hp} {d wl:Addr} {bs:List Nat} {os:List Od} {ws:List (List Nat)} (h:j3 H d wl bs os ws) {c:Nat} {w:List Nat} (hw:ws[c]? =some w) {f:Nat->Option Nat} (hf: ∀i j,i<w.length->f i=some j->j<1000):
  ∀o∈os, ∀p∈o.ps,p.c=c-> ∀j,f p.i=some j->j<1000:=fun o ho p hp e j hj=>by
 obtain ⟨w',h1,h2⟩:=h.pz o ho p hp
 rw[e,hw]at h1
 cases h1
 exact hf _ _ h2 hj
theorem j5 (w:List Nat) (k:Nat):cut w none (some (k:Int))=w.take k:=gM w k
theorem GZ {n k i:Nat} (hk:k+1<n) (h:i<n):(((List.range ((k:Int)).toNat).map fun (j:Nat)=>V.int (0+(j:Int)))++[V.cy,V.cy]++(List.range ((n:Int) - 2 - (k:Int)).toNat).map fun (j:Nat)=>V.int ((k:Int)+(j:Int)))[i]? =some (fV (outF k i)):=by
 have e1:((k:Int)).toNat=k:=by omega
 have e2:((n:Int) - 2 - (k:Int)).toNat=n - 2 - k:=by omega
 rw[e1,e2]
 unfold outF fV
 by_cases z:i<k
 ·rw[if_pos z,List.getElem?_append_left (by simp;omega),List.getElem?_append_left (by simpa using z),j4 z]
  congr 2
  omega
 ·rw[if_neg z]
  by_cases y:i<k+2
  ·rw[if_pos y,List.getElem?_append_left (by simp;omega),List.getElem?_append_right (by simp;omega),List.length_map,List.length_range]
   rcases (by omega:i - k=0\/i - k=1) with g | g<;>rw[g]<;>rfl
  ·have el:(((List.range k).map fun (j:Nat)=>V.int (0+(j:Int)))++[V.cy,V.cy]).length=k+2:=by simp
   rw[if_neg y,List.getElem?_append_right (by omega),el,j4 (by omega)]
   congr 2
   omega
theorem KQ {n k i:Nat} (hk:k<=n) (h:i<n):(((List.range ((k:Int)).toNat).map fun (j:Nat)=>V.int (0+(j:Int)))++(List.range ((n:Int)+2 - ((k:Int)+2)).toNat).map fun (j:Nat)=>V.int ((k:Int)+2+(j:Int)))[i]? =some (fV (ji k i)):=by
 have e1:((k:Int)).toNat=k:=by omega
 have e2:((n:Int)+2 - ((k:Int)+2)).toNat=n - k:=by omega
 rw[e1,e2]
 unfold ji fV
 by_cases z:i<k
 ·rw[if_pos z,List.getElem?_append_left (by simpa using z),j4 z]
  congr 2
  omega
 ·rw[if_neg z,List.getElem?_append_right (by simp;omega),List.length_map,List.length_range,j4 (by omega)]
  congr 2
  omega
theorem vf {H H3 H':Hp} {d wl:Addr} {bs:List Nat} {os os':List Od} {ws:List (List Nat)} {c:Nat} {w':List Nat} (hH:j3 H d wl bs os ws) (s:ah (upd H wl (.lst (cD (ws.set c w')))) H3) (h3: ∀o∈os',H3 o.o=none) (h4:aE d H3 H'):
  H' wl=some (.lst (cD (ws.set c w')))/\(∀o∈os',H o.o=none)/\AB d wl H H':=by
 have Ey:wl≠d:=fun z=>by have:=hH.wd;rw[z,hH.od.dk]at this;cases this
 refine ⟨h4 _ _ (s _ _ ae) Ey,fun o ho=>?_,fun a u ea za zb=>h4 _ _ (s _ _ (by rw[aj zb];exact ea)) za⟩
 cases e:H o.o with
 | none=>rfl
 | some u=>
  exfalso
  have hn:=h3 o ho
  by_cases z:o.o=wl
  ·rw[z,s _ _ ae]at hn;cases hn
  ·rw[s _ _ (show upd H wl (.lst (cD (ws.set c w'))) o.o=some u by rw[aj z];exact e)]at hn;cases hn
noncomputable def put2 (n:Nat) (p q:Nat×Nat) (l:List (Nat×Nat)):List (Nat×Nat):=l.take n++p::q::l.drop n
noncomputable def tu (_:PySem.W.Frag):Sp:=fun vs H Q _=> ∃(d wl:Addr) (bs:List Nat) (os:List Od) (ws:List (List Nat)) (c k n j:Nat) (w:List Nat) (x:Nat) (o:Od),vs=[.ref wl, .ref d, .int c, .int k, .str (S [x]), .int n]/\j3 H d wl bs os ws/\ws[c]? =some w/\k<=w.length/\Lt x/\bs[j]? =some (PyProof.Rows.lo1 x)/\os[j]? =some o/\n<=o.ps.length/\o.ps.length<=90/\
 ∀(os':List Od) (H':Hp),bS H' d bs os'->os'.map br=(os.map (fun o=>bZ c (ji k) (br o))).set j (put2 n (c,k) (c,k+1) (bZ c (ji k) (br o)))->H' wl=some (.lst (cD (ws.set c (w.take k++[x]++[aX x]++w.drop k))))->(∀o∈os',H o.o=none)->AB d wl H H'->Q (.bl true) H'
theorem yc {K:PySem.W.Frag} {vs:List V} {H:Hp} {Q:VK} {E:XK} (h:tu K vs H Q E):vs.length=6:=by obtain ⟨_,_,_,_,_,_,_,_,_,_,_,_,rfl,_⟩:=h;rfl
theorem kZ (c k:Nat): ∀l:List (Nat×Nat),(bZ c (ji k) l).length=l.length
 | []=>rfl
 | p::l=>by
  have ih:=kZ c k l
  unfold bZ at ih ⊢
  have e: ∃q,dU c (ji k) p=some q:=by
   unfold dU ji
   by_cases z:p.1=c
   ·rw[if_pos z];split<;>exact ⟨_,rfl⟩
   ·rw[if_neg z];exact ⟨_,rfl⟩
  obtain ⟨q,hq⟩:=e
  rw[List.filterMap_cons,hq]
  simp[ih]
theorem wB (ps:List Pr) (n:Nat) (p:Pr):(cL ps).take n++V.ref p.t::(cL ps).drop n=cL (ps.take n++p::ps.drop n):=by unfold cL;rw[List.map_append,List.map_cons,List.map_take,List.map_drop]
inductive dJ where
 | swap (b n:Nat) | out (c k:Nat) | turn (c:Nat) | ins (c k x n:Nat)
noncomputable def AD:List Nat:=[115,119,97,112]
noncomputable def G0:List Nat:=[111,117,116]
noncomputable def AE:List Nat:=[116,117,114,110]
noncomputable def P_:List Nat:=[105,110]
noncomputable def dq (H:Hp) (a:Addr):dJ->Prop
 | .swap b n=>H a=some (.tup [.str (S AD), .str (S [b]), .int n])
 | .out c k=>H a=some (.tup [.str (S G0), .int c, .int k])
 | .turn c=>H a=some (.tup [.str (S AE), .int c])
 | .ins c k x n=>H a=some (.tup [.str (S P_), .int c, .int k, .str (S [x]), .int n])
theorem dq.ts {H H':Hp} {a:Addr} {e:dJ} (h:dq H a e) (s:aF H H'):dq H' a e:=by cases e<;>exact s _ _ h
noncomputable def eU (n:Nat) (l:List (Nat×Nat)):List (Nat×Nat):=match l[n]?, l[n+1]? with | some p,some q=>(l.set n q).set (n+1) p | _,_=>l
theorem AF (n:Nat) (l:List Pr):(swapAt n l).map Pr.pair=eU n (l.map Pr.pair):=by
 unfold swapAt eU
 rw[List.getElem?_map,List.getElem?_map]
 cases l[n]?<;> cases l[n+1]?<;> simp[List.map_set]
noncomputable abbrev dN:=List (List (Nat×Nat))
noncomputable def dW (ws:List (List Nat)):dJ->List (List Nat)
 | .swap _ _=>ws
 | .out c k=>ws.set c ((ws.getD c []).take k++(ws.getD c []).drop (k+2))
 | .turn c=>ws.set c ((ws.getD c []).drop 1++(ws.getD c []).take 1)
 | .ins c k x _=>ws.set c ((ws.getD c []).take k++[x]++[aX x]++(ws.getD c []).drop k)
noncomputable def dO (bs:List Nat) (ws:List (List Nat)) (L:dN):dJ->dN
 | .swap b n=>L.set (bs.idxOf b) (eU n (L.getD (bs.idxOf b) []))
 | .out c k=>L.map (bZ c (outF k))
 | .turn c=>L.map (bZ c (ff (ws.getD c []).length))
 | .ins c k x n=>(L.map (bZ c (ji k))).set (bs.idxOf (PyProof.Rows.lo1 x)) (put2 n (c,k) (c,k+1) (bZ c (ji k) (L.getD (bs.idxOf (PyProof.Rows.lo1 x)) [])))
noncomputable def Df (y bs:List Nat) (ws:List (List Nat)) (L:dN):dJ->Prop
 | .swap b n=>b∈bs/\n+1<(L.getD (bs.idxOf b) []).length
 | .out c k=>c<ws.length/\ ∃x,(ws.getD c [])[k]? =some x/\(ws.getD c [])[k+1]? =some (aX x)
 | .turn c=>c<ws.length
 | .ins c k x n=>c<ws.length/\k<=(ws.getD c []).length/\(ws.getD c []).length<=10/\x∈y/\n<=(L.getD (bs.idxOf (PyProof.Rows.lo1 x)) []).length
noncomputable def m5 (_:PySem.W.Frag):Sp:=fun vs H Q _=> ∃(y:List Nat) (d wl a:Addr) (os:List Od) (ws:List (List Nat)) (e:dJ),vs=[.str (S y), .ref wl, .ref d, .ref a]/\Yd y/\y.length<=8/\j3 H d wl (aA y) os ws/\(∀o∈os,o.ps.length<=90)/\dq H a e/\Df y (aA y) ws (os.map br) e/\
 ∀(os':List Od) (H':Hp),bS H' d (aA y) os'->os'.map br=dO (aA y) ws (os.map br) e->H' wl=some (.lst (cD (dW ws e)))->(∀o∈os',H o.o=none\/o.o∈os.map Od.o)->(∀x u,H x=some u->x≠d->x≠wl->x∉os.map Od.o->H' x=some u)->Q (.bl true) H'
theorem tD {K:PySem.W.Frag} {vs:List V} {H:Hp} {Q:VK} {E:XK} (h:m5 K vs H Q E):vs.length=4:=by obtain ⟨_,_,_,_,_,_,_,rfl,_⟩:=h;rfl
theorem aN {α:Type} {l:List α} {i:Nat} {a x:α} (h:l[i]? =some a):l.getD i x=a:=by rw[List.getD_eq_getElem?_getD,h];rfl
theorem j3.same {H H':Hp} {d wl:Addr} {bs:List Nat} {os:List Od} {ws:List (List Nat)} (h:j3 H d wl bs os ws) (s:ah H H'):j3 H' d wl bs os ws:=⟨h.od.same s,s _ _ h.wd,h.nd,h.bl,h.ne,h.pz,h.wz,h.wo⟩
theorem pH {α:Type} {f:Nat->List α} (g:α->Nat): ∀{l:List Nat},l.Nodup->(∀e∈l,(f e).Nodup)->(∀e∈l, ∀p∈f e,g p=e)->(l.flatMap f).Nodup
 | [],_,_,_=>List.nodup_nil
 | a::l,hn,h1,h2=>by
  obtain ⟨n1,n2⟩:=List.nodup_cons.mp hn
  rw[List.flatMap_cons,List.nodup_append]
  refine ⟨h1 a List.mem_cons_self,pH g n2 (fun e he=>h1 e (List.mem_cons_of_mem _ he)) (fun e he=>h2 e (List.mem_cons_of_mem _ he)),fun x hx y hy z=>?_⟩
  subst z
  obtain ⟨e,he,Yr⟩:=List.mem_flatMap.mp hy
  have g1:=h2 a List.mem_cons_self x hx
  have g2:=h2 e (List.mem_cons_of_mem _ he) x Yr
  exact n1 (by rw[<-g1,g2];exact he)
theorem gP (band:Nat) (ws:List (List Nat)) (n:Nat):(cH band ws n).Nodup:=
 pH Prod.fst List.nodup_range (fun c _=>by
  unfold iG
  show (List.map _ _).Pairwise (· ≠ ·)
  rw[List.pairwise_map]
  exact (List.nodup_range.filter _).imp fun {i j} h z=>h (by cases z;rfl)) fun c _ p hp=>by
  unfold iG at hp
  obtain ⟨i,_,rfl⟩:=List.mem_map.mp hp
  rfl
theorem fg {band c i n:Nat} {ws:List (List Nat)}:(c,i)∈cH band ws n↔c<n/\i<(ws.getD c []).length/\vb band ((ws.getD c []).getD i 0)=true:=by
 constructor
 ·intro h
  obtain ⟨c',hc,h2⟩:=List.mem_flatMap.mp h
  unfold iG at h2
  obtain ⟨i',hi,e⟩:=List.mem_map.mp h2
  obtain ⟨Ys,Dg⟩:=List.mem_filter.mp hi
  cases e
  exact ⟨List.mem_range.mp hc,List.mem_range.mp Ys,Dg⟩
 ·rintro ⟨h1,h2,h3⟩
  exact List.mem_flatMap.mpr ⟨c,List.mem_range.mpr h1,List.mem_map.mpr ⟨i,List.mem_filter.mpr ⟨List.mem_range.mpr h2,h3⟩,rfl⟩⟩
theorem AG {ws:List (List Nat)} {c d:Nat} {w':List Nat} (h:c<ws.length):(ws.set c w').getD d []=if d=c then w' else ws.getD d []:=by
 rw[List.getD_eq_getElem?_getD,List.getElem?_set]
 by_cases z:c=d
 ·subst z;rw[if_pos rfl,if_pos rfl,if_pos h];rfl
 ·rw[if_neg z,if_neg fun y=>z y.symm,List.getD_eq_getElem?_getD]
theorem m7 {ws:List (List Nat)} {b c:Nat} {w' X:List Nat} {f:Nat->Option Nat} (hc:c<ws.length) (hX:X.Nodup)
  (inj: ∀i i' j,i<(ws.getD c []).length->i'<(ws.getD c []).length->f i=some j->f i'=some j->i=i')
  (hj: ∀j,(j<w'.length/\vb b (w'.getD j 0)=true)↔((∃i,i<(ws.getD c []).length/\vb b ((ws.getD c []).getD i 0)=true/\f i=some j)\/j∈X))
  (hx: ∀i j,i<(ws.getD c []).length->f i=some j->j∉X):
  (cH b (ws.set c w') (ws.set c w').length).Perm (X.map (fun j=>(c,j))++bZ c f (cH b ws ws.length)):=by
 have Yt:(bZ c f (cH b ws ws.length)).Nodup:=by
  unfold bZ
  show List.Pairwise (· ≠ ·) _
  rw[List.pairwise_filterMap]
  refine List.Pairwise.imp_of_mem ?_ (gP b ws ws.length)
  rintro ⟨a1,a2⟩ ⟨b1,b2⟩ ma mb hU q hq q' vg e
  subst e
  obtain ⟨ma1,Yu,_⟩:=fg.mp ma
  obtain ⟨mb1,Yv,_⟩:=fg.mp mb
  unfold dU at hq vg
  by_cases za:a1=c<;>by_cases zb:b1=c
  ·subst za
   subst zb
   rw[if_pos rfl]at hq vg
   cases e1:f a2 with
   | none=>rw[e1]at hq;cases hq
   | some j=>
    cases e2:f b2 with
    | none=>rw[e2]at vg;cases vg
    | some j'=>
     rw[e1]at hq
     rw[e2]at vg
     cases hq
     have:j'=j:=by injection vg with z;exact congrArg Prod.snd z
     subst this
     exact hU (by rw[inj a2 b2 j' Yu Yv e1 e2])
  ·rw[if_pos za]at hq
   rw[if_neg zb]at vg
   cases vg
   cases e1:f a2 with
   | none=>rw[e1]at hq;cases hq
   | some j=>rw[e1]at hq;injection hq with z;exact zb (congrArg Prod.fst z).symm
  ·rw[if_neg za]at hq
   rw[if_pos zb]at vg
   cases hq
   cases e1:f b2 with
   | none=>rw[e1]at vg;cases vg
   | some j=>rw[e1]at vg;injection vg with z;exact za (congrArg Prod.fst z).symm
  ·rw[if_neg za]at hq
   rw[if_neg zb]at vg
   cases hq
   cases vg
   exact hU rfl
 have KR: ∀d j,(d,j)∈bZ c f (cH b ws ws.length)↔(if d=c then ∃i,i<(ws.getD c []).length/\vb b ((ws.getD c []).getD i 0)=true/\f i=some j else (d,j)∈cH b ws ws.length):=fun d j=>by
  unfold bZ
  rw[List.mem_filterMap]
  by_cases z:d=c
  ·subst z
   rw[if_pos rfl]
   constructor
   ·rintro ⟨⟨d',i⟩,hm,he⟩
    unfold dU at he
    by_cases y:d'=d
    ·subst y
     rw[if_pos rfl]at he
     cases e1:f i with
     | none=>rw[e1]at he;cases he
     | some j'=>
      rw[e1]at he
      have:j'=j:=by injection he with z;exact congrArg Prod.snd z
      subst this
      obtain ⟨_,m2,m3⟩:=fg.mp hm
      exact ⟨i,m2,m3,e1⟩
    ·rw[if_neg y]at he
     exact absurd (congrArg Prod.fst (Option.some.inj he)) y
   ·rintro ⟨i,h1,h2,h3⟩
    exact ⟨(d,i),fg.mpr ⟨hc,h1,h2⟩,by unfold dU;rw[if_pos rfl,h3];rfl⟩
  ·rw[if_neg z]
   constructor
   ·rintro ⟨⟨d',i⟩,hm,he⟩
    unfold dU at he
    by_cases y:d'=c
    ·rw[if_pos y]at he
     cases e1:f i with
     | none=>rw[e1]at he;cases he
     | some j'=>rw[e1]at he;injection he with y';exact absurd (congrArg Prod.fst y').symm z
    ·rw[if_neg y]at he
     cases he
     exact hm
   ·intro hm
    exact ⟨(d,j),hm,if_neg z⟩
 refine (List.perm_ext_iff_of_nodup (gP _ _ _) (List.nodup_append.mpr ⟨?_,Yt,?_⟩)).mpr fun p=>?_
 ·show (List.map _ _).Pairwise (· ≠ ·)
  rw[List.pairwise_map]
  exact hX.imp fun {i j} h z=>h (by cases z;rfl)
 ·rintro p hp q hq rfl
  obtain ⟨j,Yw,rfl⟩:=List.mem_map.mp hp
  rw[KR,if_pos rfl]at hq
  obtain ⟨i,h1,_,h3⟩:=hq
  exact hx i j h1 h3 Yw
 ·obtain ⟨d,j⟩:=p
  rw[fg,List.length_set,AG hc,List.mem_append,KR]
  by_cases z:d=c
  ·subst z
   rw[if_pos rfl,if_pos rfl]
   constructor
   ·rintro ⟨_,h1,h2⟩
    rcases (hj j).mp ⟨h1,h2⟩ with g | g
    ·exact .inr g
    ·exact .inl (List.mem_map.mpr ⟨j,g,rfl⟩)
   ·rintro (g | g)
    ·obtain ⟨j',g1,g2⟩:=List.mem_map.mp g
     have:j'=j:=congrArg Prod.snd g2
     subst this
     exact ⟨hc,(hj j').mpr (.inr g1)⟩
    ·exact ⟨hc,(hj j).mpr (.inl g)⟩
  ·rw[if_neg z,if_neg z,fg]
   constructor
   ·exact fun h=> .inr h
   ·rintro (g | g)
    ·obtain ⟨j',_,g2⟩:=List.mem_map.mp g
     exact absurd (congrArg Prod.fst g2).symm z
    ·exact g
noncomputable def Wi (y:List Nat) (ws:List (List Nat)) (L:dN):Prop:=L.length=(aA y).length/\ ∀(j:Nat) (l:List (Nat×Nat)) (b:Nat),L[j]? =some l->(aA y)[j]? =some b->l.Perm (cH b ws ws.length)
structure Good (y:List Nat) (ws:List (List Nat)) (L:dN):Prop where
 wk:sV y ws
 lk:Wi y ws L
theorem AH (w:List Nat) (k j:Nat) (hk:k+1<w.length):(w.take k++w.drop (k+2)).getD j 0=if j<k then w.getD j 0 else w.getD (j+2) 0:=by
 rw[List.getD_eq_getElem?_getD]
 by_cases z:j<k
 ·rw[if_pos z,List.getElem?_append_left (by rw[List.length_take];omega),List.getElem?_take,if_pos z,List.getD_eq_getElem?_getD]
 ·rw[if_neg z,List.getElem?_append_right (by rw[List.length_take];omega),List.length_take,List.getElem?_drop,List.getD_eq_getElem?_getD,show k+2+(j - min k w.length)=j+2 by omega]
theorem kA (w:List Nat) (j:Nat) (hj:j<w.length):(w.drop 1++w.take 1).getD j 0=if j+1<w.length then w.getD (j+1) 0 else w.getD 0 0:=by
 rw[List.getD_eq_getElem?_getD]
 by_cases z:j+1<w.length
 ·rw[if_pos z,List.getElem?_append_left (by rw[List.length_drop];omega),List.getElem?_drop,List.getD_eq_getElem?_getD,show 1+j=j+1 by omega]
 ·rw[if_neg z,List.getElem?_append_right (by rw[List.length_drop];omega),List.length_drop,List.getElem?_take,if_pos (by omega),List.getD_eq_getElem?_getD,show j - (w.length - 1)=0 by omega]
theorem AI (w:List Nat) (k x j:Nat) (hk:k<=w.length):(w.take k++[x]++[aX x]++w.drop k).getD j 0=if j<k then w.getD j 0 else if j=k then x else if j=k+1 then aX x else w.getD (j - 2) 0:=by
 have el:(w.take k).length=k:=by rw[List.length_take];omega
 rw[List.getD_eq_getElem?_getD]
 by_cases z:j<k
 ·rw[if_pos z,List.getElem?_append_left (by simp;omega),List.getElem?_append_left (by simp;omega),List.getElem?_append_left (by omega),List.getElem?_take,if_pos z,List.getD_eq_getElem?_getD]
 ·rw[if_neg z]
  by_cases z1:j=k
  ·rw[if_pos z1,List.getElem?_append_left (by simp;omega),List.getElem?_append_left (by simp;omega),List.getElem?_append_right (by omega),el,z1,Nat.sub_self];rfl
  ·rw[if_neg z1]
   by_cases z2:j=k+1
   ·have e2:(w.take k++[x]).length=k+1:=by rw[List.length_append,el];rfl
    rw[if_pos z2,List.getElem?_append_left (by simp;omega),List.getElem?_append_right (by omega),e2,z2,Nat.sub_self];rfl
   ·have e3:(w.take k++[x]++[aX x]).length=k+2:=by rw[List.length_append,List.length_append,el];rfl
    rw[if_neg z2,List.getElem?_append_right (by omega),e3,List.getElem?_drop,List.getD_eq_getElem?_getD,show k+(j - (k+2))=j - 2 by omega]
theorem wC {b x:Nat} (hb:Lt b) (hx:Lt x):vb b (aX x)=vb b x:=by
 unfold vb
 have e1:decide (aX x=b)=decide (x=aX b):=decide_eq_decide.mpr ⟨fun z=>by rw[<-z,bA hx],fun z=>by rw[z,bA hb]⟩
 have e2:decide (aX x=aX b)=decide (x=b):=decide_eq_decide.mpr ⟨fun z=>by rw[<-bA hx,z,bA hb],fun z=>by rw[z]⟩
 rw[e1,e2,Bool.or_comm]
theorem m8 (n:Nat) (l:List (Nat×Nat)):(eU n l).Perm l:=by
 unfold eU
 cases h0:l[n]? with
 | none=>exact List.Perm.refl _
 | some p=>cases h1:l[n+1]? with
  | none=>exact List.Perm.refl _
  | some q=>
   show ((l.set n q).set (n+1) p).Perm l
   induction l generalizing n with
   | nil=>simp at h0
   | cons x l ih=>
    cases n with
    | zero=>
     cases l with
     | nil=>simp at h1
     | cons y l=>
      cases h0
      have e:y=q:=by simpa using h1
      subst e
      exact List.Perm.swap _ _ l
    | succ n=>exact (ih n (by simpa using h0) (by simpa using h1)).cons x
theorem ye (n:Nat) (p q:Nat×Nat) (l:List (Nat×Nat)):(put2 n p q l).Perm (p::q::l):=by
 unfold put2
 have h1:=List.perm_middle (l₁:=l.take n) (a:=p) (l₂:=q::l.drop n)
 have h2:=List.perm_middle (l₁:=l.take n) (a:=q) (l₂:=l.drop n)
 rw[List.take_append_drop]at h2
 exact h1.trans (h2.cons p)
theorem qE {α:Type} {l:List α} {j:Nat} {a x:α} {i:Nat} (h:(l.set j a)[i]? =some x):(i=j/\x=a)\/(i≠j/\l[i]? =some x):=by
 rw[List.getElem?_set]at h
 by_cases z:j=i
 ·rw[if_pos z]at h
  split at h
  ·exact .inl ⟨z.symm,(Option.some.inj h).symm⟩
  ·cases h
 ·rw[if_neg z]at h
  exact .inr ⟨fun y=>z y.symm,h⟩
theorem m9 {y:List Nat} {ws:List (List Nat)} {c:Nat} {w':List Nat} (h:sV y ws) (hw:(∀x∈w',x∈y)/\w'.length<=12):sV y (ws.set c w'):=⟨by rw[List.length_set];exact h.ke,fun w hm=>(List.mem_or_eq_of_mem_set hm).elim (h.all w) fun e=>by rw[e];exact hw⟩
theorem getD_mem {ws:List (List Nat)} {c:Nat} (h:c<ws.length):ws.getD c []∈ws:=by rw[List.getD_eq_getElem?_getD,List.getElem?_eq_getElem h];exact List.getElem_mem h
theorem m_ {l:List Nat} (h:l.Nodup) {n p:Nat} (e:l[n]? =some p):l.idxOf p=n:=by
 obtain ⟨hn,e2⟩:=List.getElem?_eq_some_iff.mp e
 have hi:=List.idxOf_lt_length_of_mem (List.mem_of_getElem? e)
 have hp:=List.pairwise_iff_getElem.mp h
 have e3:l[l.idxOf p]=l[n]:=(List.getElem_idxOf hi).trans e2.symm
 rcases Nat.lt_trichotomy (l.idxOf p) n with z | z | z
 ·exact absurd e3 (hp _ _ hi hn z)
 ·exact z
 ·exact absurd e3.symm (hp _ _ hn hi z)
theorem Good.step {y:List Nat} {ws:List (List Nat)} {L:dN} {e:dJ} (hy:Yd y) (g:Good y ws L) (bq:Df y (aA y) ws L e):Good y (dW ws e) (dO (aA y) ws L e):=by
 obtain ⟨gw,gl,go⟩:=g
 have bl: ∀b∈aA y,b∈bp:=fun b hb=>by
  have:=List.mem_filter.mp ((dz y).mem_iff.mp hb)
  have h2:=this.2
  rw[iT (hy.lt b this.1)]at h2
  exact of_decide_eq_true h2
 cases e with
 | swap b n=>
  refine ⟨gw,by show (L.set _ _).length=_;rw[List.length_set];exact gl,fun j l b' hl Ex=>?_⟩
  rcases qE (show (L.set _ (eU n (L.getD ((aA y).idxOf b) [])))[j]? =some l from hl) with ⟨e1,e2⟩ | ⟨_,e2⟩
  ·subst e1
   have hj:(aA y).idxOf b<L.length:=by rw[gl];exact (List.getElem?_eq_some_iff.mp Ex).1
   have hg:L[(aA y).idxOf b]? =some L[(aA y).idxOf b]:=List.getElem?_eq_getElem hj
   rw[e2,aN hg]
   exact (m8 n _).trans (go _ _ _ hg Ex)
  ·exact go j l b' e2 Ex
 | out c k=>
  obtain ⟨hc,x,h0,h1⟩:=bq
  have hk:k+1<(ws.getD c []).length:=(List.getElem?_eq_some_iff.mp h1).1
  obtain ⟨wy,wz⟩:=gw.all _ (getD_mem hc)
  refine ⟨m9 gw ⟨fun z hz=>?_,by rw[List.length_append,List.length_take,List.length_drop];omega⟩,by show (L.map _).length=_;rw[List.length_map];exact gl,fun j l b hl hb=>?_⟩
  ·rcases List.mem_append.mp hz with q | q
   ·exact wy z (List.mem_of_mem_take q)
   ·exact wy z (List.mem_of_mem_drop q)
  ·obtain ⟨l0,qF,rfl⟩:=Option.map_eq_some_iff.mp (by rw[<-List.getElem?_map];exact hl)
   have hp:=go j l0 b qF hb
   refine (hp.filterMap (dU c (outF k))).trans ((m7 (X:=[]) hc List.nodup_nil ?_ ?_ ?_).symm)
   ·intro i i' j' _ _ e1 e2
    unfold outF at e1 e2
    split at e1
    ·have a1:=Option.some.inj e1
     split at e2
     ·have a2:=Option.some.inj e2;omega
     ·split at e2
      ·cases e2
      ·have a2:=Option.some.inj e2;omega
    ·split at e1
     ·cases e1
     ·have a1:=Option.some.inj e1
      split at e2
      ·have a2:=Option.some.inj e2;omega
      ·split at e2
       ·cases e2
       ·have a2:=Option.some.inj e2;omega
   ·intro j'
    rw[AH _ _ _ hk]
    have hlen:((ws.getD c []).take k++(ws.getD c []).drop (k+2)).length=(ws.getD c []).length - 2:=by rw[List.length_append,List.length_take,List.length_drop];omega
    rw[hlen]
    constructor
    ·rintro ⟨q1,q2⟩
     refine .inl ?_
     by_cases z:j'<k
     ·rw[if_pos z]at q2;exact ⟨j',by omega,q2,by unfold outF;rw[if_pos z]⟩
     ·rw[if_neg z]at q2;exact ⟨j'+2,by omega,q2,by unfold outF;rw[if_neg (by omega),if_neg (by omega)];rfl⟩
    ·rintro (⟨i,q1,q2,q3⟩ | q)
     ·unfold outF at q3
      split at q3
      ·rename_i z;cases q3;rw[if_pos z];exact ⟨by omega,q2⟩
      ·split at q3
       ·cases q3
       ·cases q3
        rw[if_neg (by omega),show i - 2+2=i by omega]
        exact ⟨by omega,q2⟩
     ·cases q
   ·intro i j' _ _ q;cases q
 | turn c=>
  have hc:c<ws.length:=bq
  obtain ⟨wy,wz⟩:=gw.all _ (getD_mem hc)
  refine ⟨m9 gw ⟨fun z hz=>?_,by rw[List.length_append,List.length_take,List.length_drop];omega⟩,by show (L.map _).length=_;rw[List.length_map];exact gl,fun j l b hl hb=>?_⟩
  ·rcases List.mem_append.mp hz with q | q
   ·exact wy z (List.mem_of_mem_drop q)
   ·exact wy z (List.mem_of_mem_take q)
  ·obtain ⟨l0,qF,rfl⟩:=Option.map_eq_some_iff.mp (by rw[<-List.getElem?_map];exact hl)
   have hp:=go j l0 b qF hb
   refine (hp.filterMap (dU c (ff (ws.getD c []).length))).trans ((m7 (X:=[]) hc List.nodup_nil ?_ ?_ ?_).symm)
   ·intro i i' j' h1 h2 e1 e2
    unfold ff at e1 e2
    split at e1<;>split at e2<;>(have a1:=Option.some.inj e1;have a2:=Option.some.inj e2;omega)
   ·intro j'
    have hlen:((ws.getD c []).drop 1++(ws.getD c []).take 1).length=(ws.getD c []).length:=by rw[List.length_append,List.length_take,List.length_drop];omega
    rw[hlen]
    constructor
    ·rintro ⟨q1,q2⟩
     rw[kA _ _ q1]at q2
     refine .inl ?_
     by_cases z:j'+1<(ws.getD c []).length
     ·rw[if_pos z]at q2;exact ⟨j'+1,z,q2,by unfold ff;rw[if_neg (by omega)];rfl⟩
     ·rw[if_neg z]at q2;exact ⟨0,by omega,q2,by unfold ff;rw[if_pos rfl];congr 1;omega⟩
    ·rintro (⟨i,q1,q2,q3⟩ | q)
     ·unfold ff at q3
      split at q3
      ·rename_i z
       cases q3
       refine ⟨by omega,?_⟩
       rw[kA _ _ (by omega),if_neg (by omega)]
       rw[z]at q2
       exact q2
      ·cases q3
       refine ⟨by omega,?_⟩
       rw[kA _ _ (by omega),if_pos (by omega),show i - 1+1=i by omega]
       exact q2
     ·cases q
   ·intro i j' _ _ q;cases q
 | ins c k x n=>
  obtain ⟨hc,hk,KS,y0,hn⟩:=bq
  obtain ⟨wy,wz⟩:=gw.all _ (getD_mem hc)
  have y6:=hy.lt x y0
  refine ⟨m9 gw ⟨fun z hz=>?_,by rw[List.length_append,List.length_append,List.length_append,List.length_take,List.length_drop,List.length_singleton,List.length_singleton];omega⟩,by show ((L.map _).set _ _).length=_;rw[List.length_set,List.length_map];exact gl,fun j l b hl hb=>?_⟩
  ·rcases List.mem_append.mp hz with q | q
   ·rcases List.mem_append.mp q with q | q
    ·rcases List.mem_append.mp q with q | q
     ·exact wy z (List.mem_of_mem_take q)
     ·rw[List.mem_singleton.mp q];exact y0
    ·rw[List.mem_singleton.mp q];exact hy.cl x y0
   ·exact wy z (List.mem_of_mem_drop q)
  ·have Yx:=List.mem_of_getElem? hb
   have Qa:=bl b Yx
   have qG:j<L.length:=by rw[gl];exact (List.getElem?_eq_some_iff.mp hb).1
   have Qb:L[j]? =some L[j]:=List.getElem?_eq_getElem qG
   have hp:=go j _ b Qb hb
   have base:(cH b (ws.set c ((ws.getD c []).take k++[x]++[aX x]++(ws.getD c []).drop k)) (ws.set c ((ws.getD c []).take k++[x]++[aX x]++(ws.getD c []).drop k)).length).Perm ((if vb b x=true then [k,k+1] else []).map (fun j=>(c,j))++bZ c (ji k) (cH b ws ws.length)):=by
    refine m7 hc ?_ ?_ ?_ ?_
    ·split
     ·simp
     ·exact List.nodup_nil
    ·intro i i' j' _ _ e1 e2
     unfold ji at e1 e2
     split at e1<;>split at e2<;>(have a1:=Option.some.inj e1;have a2:=Option.some.inj e2;omega)
    ·intro j'
     have hlen:((ws.getD c []).take k++[x]++[aX x]++(ws.getD c []).drop k).length=(ws.getD c []).length+2:=by rw[List.length_append,List.length_append,List.length_append,List.length_take,List.length_drop,List.length_singleton,List.length_singleton];omega
     rw[hlen,AI _ _ _ _ hk]
     constructor
     ·rintro ⟨q1,q2⟩
      by_cases z:j'<k
      ·rw[if_pos z]at q2;exact .inl ⟨j',by omega,q2,by unfold ji;rw[if_pos z]⟩
      ·rw[if_neg z]at q2
       by_cases z1:j'=k
       ·rw[if_pos z1]at q2;exact .inr (by rw[if_pos q2,z1];exact List.mem_cons_self)
       ·rw[if_neg z1]at q2
        by_cases z2:j'=k+1
        ·rw[if_pos z2,wC (.inl Qa) y6]at q2;exact .inr (by rw[if_pos q2,z2];exact List.mem_cons_of_mem _ List.mem_cons_self)
        ·rw[if_neg z2]at q2;exact .inl ⟨j' - 2,by omega,q2,by unfold ji;rw[if_neg (by omega)];congr 1;omega⟩
     ·rintro (⟨i,q1,q2,q3⟩ | q)
      ·unfold ji at q3
       split at q3
       ·rename_i z;cases q3;rw[if_pos z];exact ⟨by omega,q2⟩
       ·cases q3
        rw[if_neg (by omega),if_neg (by omega),if_neg (by omega),show i+2 - 2=i by omega]
        exact ⟨by omega,q2⟩
      ·split at q
       ·rename_i z
        rcases List.mem_cons.mp q with e | q
        ·rw[e,if_neg (by omega),if_pos rfl];exact ⟨by omega,z⟩
        ·rw[List.mem_singleton.mp q,if_neg (by omega),if_neg (by omega),if_pos rfl,wC (.inl Qa) y6];exact ⟨by omega,z⟩
       ·cases q
    ·intro i j' _ e1 q
     split at q
     ·unfold ji at e1
      have hq:j'=k\/j'=k+1:=by simpa using q
      split at e1<;>(have a1:=Option.some.inj e1;omega)
     ·cases q
   have M3:vb b x=decide (PyProof.Rows.lo1 x=b):=(Ay Qa y6).symm
   rcases qE (show ((L.map (bZ c (ji k))).set ((aA y).idxOf (PyProof.Rows.lo1 x)) (put2 n (c,k) (c,k+1) (bZ c (ji k) (L.getD ((aA y).idxOf (PyProof.Rows.lo1 x)) []))))[j]? =some l from hl) with ⟨e1,e2⟩ | ⟨e1,e2⟩
   ·subst e1
    have Ek:=wq hy y0
    have yP:b=PyProof.Rows.lo1 x:=by
     have hj:=List.idxOf_lt_length_of_mem Ek
     rw[List.getElem?_eq_getElem hj,List.getElem_idxOf hj]at hb
     exact (Option.some.inj hb).symm
    rw[M3,decide_eq_true yP.symm,if_pos rfl]at base
    rw[e2,aN Qb]
    exact (ye _ _ _ _).trans ((((hp.filterMap (dU c (ji k))).cons _).cons _).trans base.symm)
   ·have hU: ¬PyProof.Rows.lo1 x=b:=fun z=>e1 (by
     have hj:=List.getElem?_eq_some_iff.mp hb
     have Dh:(aA y).Nodup:=(dz y).nodup_iff.mpr (hy.nd.filter _)
     rw[z]
     exact (m_ Dh hb).symm)
    rw[M3,decide_eq_false hU,if_neg (by decide)]at base
    obtain ⟨l0,qF,rfl⟩:=Option.map_eq_some_iff.mp (by rw[<-List.getElem?_map];exact e2)
    rw[Qb]at qF
    cases qF
    exact (hp.filterMap (dU c (ji k))).trans base.symm
structure Dd where
 a:Addr
 e:dJ
noncomputable def dM (ds:List Dd):List V:=ds.map fun x=>V.ref x.a
theorem bW (ds:List Dd):(dM ds).length=ds.length:=by unfold dM;rw[List.length_map]
theorem G1 {ds:List Dd} {i:Nat} {x:V} (h:(dM ds)[i]? =some x): ∃p,ds[i]? =some p/\x=V.ref p.a:=by
 unfold dM at h
 rw[List.getElem?_map]at h
 cases e:ds[i]? with
 | none=>rw[e]at h;cases h
 | some p=>rw[e]at h;cases h;exact ⟨p,rfl,rfl⟩
noncomputable def Path (y:List Nat):List (List Nat)->dN->List dJ->Prop
 | _,_,[]=>True
 | ws,L,e::es=>Df y (aA y) ws L e/\Path y (dW ws e) (dO (aA y) ws L e) es
noncomputable def fL (y:List Nat):List (List Nat)->dN->List dJ->List (List Nat)×dN
 | ws,L,[]=>(ws,L)
 | ws,L,e::es=>fL y (dW ws e) (dO (aA y) ws L e) es
theorem wD {y:List Nat} (hy:Yd y):(aA y).Nodup:=(dz y).nodup_iff.mpr (hy.nd.filter _)
theorem Good.len {y:List Nat} {ws:List (List Nat)} {os:List Od} (g:Good y ws (os.map br)): ∀o∈os,o.ps.length<=48:=fun o ho=>by
 obtain ⟨j,hj⟩:=List.mem_iff_getElem?.mp ho
 have hl:=g.lk.1
 rw[List.length_map]at hl
 have Qc:j<(aA y).length:=by rw[<-hl];exact (List.getElem?_eq_some_iff.mp hj).1
 have hp:=g.lk.2 j (br o) _ (by rw[List.getElem?_map,hj];rfl) (List.getElem?_eq_getElem Qc)
 have h1:=hp.length_eq
 unfold br at h1
 rw[List.length_map]at h1
 have h2:=jt (aA y)[j] (fun w hw=>(g.wk.all w hw).2) ws.length (Nat.le_refl _)
 have:=g.wk.ke
 omega
theorem Good.hold {y:List Nat} {ws:List (List Nat)} {os:List Od} {H:Hp} {d wl:Addr} (hy:Yd y) (hz:y.length<=8) (g:Good y ws (os.map br)) (h:bS H d (aA y) os) (hw:H wl=some (.lst (cD ws))) (ne: ∀o∈os,o.o≠wl):j3 H d wl (aA y) os ws:=by
 have Di:=eS hy
 refine ⟨h,hw,wD hy,by omega,ne,fun o ho p hp=>?_,g.wk.ke,fun w hw=>⟨fun c hc=>hy.lt c ((g.wk.all w hw).1 c hc),(g.wk.all w hw).2⟩⟩
 obtain ⟨j,hj⟩:=List.mem_iff_getElem?.mp ho
 have Qc:j<(aA y).length:=by rw[<-h.ln];exact (List.getElem?_eq_some_iff.mp hj).1
 have jj:=g.lk.2 j (br o) _ (by rw[List.getElem?_map,hj];rfl) (List.getElem?_eq_getElem Qc)
 have hm:(p.c,p.i)∈br o:=List.mem_map.mpr ⟨p,hp,rfl⟩
 obtain ⟨m1,m2,_⟩:=fg.mp (jj.mem_iff.mp hm)
 refine ⟨ws[p.c],List.getElem?_eq_getElem m1,?_⟩
 rw[aN (List.getElem?_eq_getElem m1)]at m2
 exact m2
noncomputable def wF (_:PySem.W.Frag):Sp:=fun vs H Q _=> ∃(y:List Nat) (dr:Addr) (ws:List (List Nat)) (os:List Od) (ep:Addr) (ds:List Dd),vs=[.str (S y), .ref dr, .ref ep]/\Yd y/\y.length<=8/\Good y ws (os.map br)/\jc H dr ws os/\H ep=some (.lst (dM ds))/\(∀x∈ds,dq H x.a x.e)/\ds.length<=50000/\Path y ws (os.map br) (ds.map Dd.e)/\
 ∀(Ez:Addr) (os':List Od) (H':Hp),jc H' Ez (fL y ws (os.map br) (ds.map Dd.e)).1 os'->os'.map br=(fL y ws (os.map br) (ds.map Dd.e)).2->Good y (fL y ws (os.map br) (ds.map Dd.e)).1 (os'.map br)->ah H H'->Q (.ref Ez) H'
theorem AJ {K:PySem.W.Frag} {vs:List V} {H:Hp} {Q:VK} {E:XK} (h:wF K vs H Q E):vs.length=3:=by obtain ⟨_,_,_,_,_,_,rfl,_⟩:=h;rfl
theorem yf {bs:List Nat} {cur:List Od} {b:Nat} {o:Od} (h:cur.length=bs.length):dI bs cur++[(kS [b],V.ref o.o)]=dI (bs++[b]) (cur++[o]):=by
 unfold dI
 rw[List.zip_append h.symm,List.map_append]
 rfl
theorem GW.Wj {y:List Nat} {ws:List (List Nat)} {os:List Od} (h:GW y ws os):Wi y ws (os.map br):=⟨by rw[List.length_map];exact h.1,fun j l b hl hb=>by
 rw[List.getElem?_map]at hl
 cases e:os[j]? with
 | none=>rw[e]at hl;cases hl
 | some o=>rw[e]at hl;cases hl;exact h.2 j o b e hb⟩
noncomputable def pk (ps:List Pr) (idx:List Nat):List Pr:=idx.map fun i=>ps.getD i ⟨0,0,0⟩
theorem Good.ke {y:List Nat} {ws:List (List Nat)} {L:dN} (h:Good y ws L):ws.length<=4:=h.wk.ke
theorem Good.iH {y:List Nat} {ws:List (List Nat)} {L:dN} (h:Good y ws L): ∀w∈ws,(∀c∈w,c∈y)/\w.length<=12:=h.wk.all
theorem Good.ln {y:List Nat} {ws:List (List Nat)} {L:dN} (h:Good y ws L):L.length=(aA y).length:=h.lk.1
theorem Qd {H5:Hp} {X:Hp->Prop} {G:Prop} (f:(∀H6,ah H5 H6->X H6)->G) (x: ∀H6,ah H5 H6->X H6):G:=f x
noncomputable def dl:dJ->Int
 | .swap _ _=>0
 | .out _ _=> -2
 | .turn _=>0
 | .ins _ _ _ _=>2
theorem Dj {ws:List (List Nat)} {i:Nat} {x:V} (h:(cD ws)[i]? =some x): ∃w,ws[i]? =some w/\x= .str (S w):=by
 unfold cD at h
 rw[List.getElem?_map]at h
 cases e:ws[i]? with
 | none=>rw[e]at h;cases h
 | some w=>rw[e]at h;cases h;exact ⟨w,rfl,rfl⟩
theorem G2 {ws:List (List Nat)} (h: ∀w∈ws,w.length<=12):(ws.map List.length).sum<=12*ws.length:=by
 induction ws with
 | nil=>simp
 | cons a l ih=>rw[List.map_cons,List.sum_cons,List.length_cons];have:=ih fun w hw=>h w (List.mem_cons_of_mem _ hw);have:=h a List.mem_cons_self;omega
inductive WP (y:List Nat) (c:Nat):List Nat->List dJ->List Nat->Prop
 | nil {w:List Nat}:WP y c w [] w
 | out {w v:List Nat} {k x:Nat} {es:List dJ}:w[k]? =some x->w[k+1]? =some (aX x)->WP y c (w.take k++w.drop (k+2)) es v->WP y c w (.out c k::es) v
 | turn {w v:List Nat} {es:List dJ}:WP y c (w.drop 1++w.take 1) es v->WP y c w (.turn c::es) v
 | ins {w v:List Nat} {k x:Nat} {es:List dJ}:k<=w.length->w.length<=10->x∈y->WP y c (w.take k++[x]++[aX x]++w.drop k) es v->WP y c w (.ins c k x 0::es) v
section
variable {y:List Nat} {c:Nat}
theorem WP.app {a b d:List Nat} {es fs:List dJ} (h:WP y c a es b) (g:WP y c b fs d):WP y c a (es++fs) d:=by
 induction h with
 | nil=>exact g
 | out h1 h2 _ ih=>exact .out h1 h2 (ih g)
 | turn _ ih=>exact .turn (ih g)
 | ins h1 h2 h3 _ ih=>exact .ins h1 h2 h3 (ih g)
theorem j6 {α:Type} (l:List α) (i:Nat) (a b:α):(l.set i a).set i b=l.set i b:=by
 induction l generalizing i with
 | nil=>rfl
 | cons x l ih=>cases i with
  | zero=>rfl
  | succ i=>show x::(l.set i a).set i b=x::l.set i b;rw[ih]
theorem WP.lift (hy:Yd y) {w v:List Nat} {es:List dJ} (h:WP y c w es v): ∀{ws:List (List Nat)} {L:dN},Good y ws L->ws[c]? =some w->Path y ws L es/\(fL y ws L es).1=ws.set c v/\Good y (ws.set c v) (fL y ws L es).2:=by
 induction h with
 | nil=>
  intro ws L g hc
  have e:=set_same hc
  exact ⟨trivial,e.symm,by rw[e];exact g⟩
 | @out w v k x es h1 h2 _ ih=>
  intro ws L g hc
  have kB:=(List.getElem?_eq_some_iff.mp hc).1
  have eg:=aN (x:=[]) hc
  have ok:Df y (aA y) ws L (.out c k):=⟨kB,x,by rw[eg];exact h1,by rw[eg];exact h2⟩
  have eW:dW ws (.out c k)=ws.set c (w.take k++w.drop (k+2)):=by show ws.set c _=_;rw[eg]
  obtain ⟨i1,i2,i3⟩:=ih (g.step hy ok) (by rw[eW];exact List.getElem?_set_self kB)
  have e3:(dW ws _).set c v=ws.set c v:=(congrArg (fun l=>l.set c v) eW).trans (j6 ws c _ v)
  refine ⟨⟨ok,i1⟩,i2.trans e3,?_⟩
  rw[<-e3]
  exact i3
 | @turn w v es _ ih=>
  intro ws L g hc
  have kB:=(List.getElem?_eq_some_iff.mp hc).1
  have eg:=aN (x:=[]) hc
  have ok:Df y (aA y) ws L (.turn c):=kB
  have eW:dW ws (.turn c)=ws.set c (w.drop 1++w.take 1):=by show ws.set c _=_;rw[eg]
  obtain ⟨i1,i2,i3⟩:=ih (g.step hy ok) (by rw[eW];exact List.getElem?_set_self kB)
  have e3:(dW ws _).set c v=ws.set c v:=(congrArg (fun l=>l.set c v) eW).trans (j6 ws c _ v)
  refine ⟨⟨ok,i1⟩,i2.trans e3,?_⟩
  rw[<-e3]
  exact i3
 | @ins w v k x es h1 h2 h3 _ ih=>
  intro ws L g hc
  have kB:=(List.getElem?_eq_some_iff.mp hc).1
  have eg:=aN (x:=[]) hc
  have ok:Df y (aA y) ws L (.ins c k x 0):=⟨kB,by rw[eg];exact h1,by rw[eg];exact h2,h3,Nat.zero_le _⟩
  have eW:dW ws (.ins c k x 0)=ws.set c (w.take k++[x]++[aX x]++w.drop k):=by show ws.set c _=_;rw[eg]
  obtain ⟨i1,i2,i3⟩:=ih (g.step hy ok) (by rw[eW];exact List.getElem?_set_self kB)
  have e3:(dW ws _).set c v=ws.set c v:=(congrArg (fun l=>l.set c v) eW).trans (j6 ws c _ v)
  refine ⟨⟨ok,i1⟩,i2.trans e3,?_⟩
  rw[<-e3]
  exact i3
theorem nc: ∀{es fs:List dJ} {ws:List (List Nat)} {L:dN},Path y ws L es->Path y (fL y ws L es).1 (fL y ws L es).2 fs->Path y ws L (es++fs)
 | [],_,_,_,_,h=>h
 | _::_,_,_,_,⟨h1,h2⟩,h=>⟨h1,nc h2 h⟩
theorem lH: ∀{es fs:List dJ} {ws:List (List Nat)} {L:dN},fL y ws L (es++fs)=fL y (fL y ws L es).1 (fL y ws L es).2 fs
 | [],_,_,_=>rfl
 | _::es,_,_,_=>lH (es:=es)
end
inductive hZ:List Nat->List (Nat×Nat)->List Nat->Prop
 | nil {w:List Nat}:hZ w [] w
 | cons {w v:List Nat} {k x:Nat} {ps:List (Nat×Nat)}:w[k]? =some x->w[k+1]? =some (aX x)->hZ (w.take k++w.drop (k+2)) ps v->hZ w ((k,x)::ps) v
theorem hZ.snoc {w u:List Nat} {k x:Nat} {ps:List (Nat×Nat)} (h:hZ w ps u) (h1:u[k]? =some x) (h2:u[k+1]? =some (aX x)):hZ w (ps++[(k,x)]) (u.take k++u.drop (k+2)):=by
 induction h with
 | nil=>exact .cons h1 h2 .nil
 | cons a b _ ih=>exact .cons a b (ih h1 h2)
theorem qH {w:List Nat} {k x:Nat} (h:w[k+1]? =some x):(w.take k++w.drop (k+2)).length+2=w.length:=by
 have:=(List.getElem?_eq_some_iff.mp h).1
 rw[List.length_append,List.length_take,List.length_drop]
 omega
theorem lI {w:List Nat} {k x:Nat} (h:x∈w.take k++w.drop (k+2)):x∈w:=(List.mem_append.mp h).elim List.mem_of_mem_take List.mem_of_mem_drop
theorem hZ.len {w v:List Nat} {ps:List (Nat×Nat)} (h:hZ w ps v):v.length+2*ps.length=w.length:=by
 induction h with
 | nil=>rfl
 | cons _ b _ ih=>
  have:=qH b
  rw[List.length_cons]
  omega
theorem hZ.mem {w v:List Nat} {ps:List (Nat×Nat)} (h:hZ w ps v): ∀x∈v,x∈w:=by
 induction h with
 | nil=>exact fun _ h=>h
 | cons _ _ _ ih=>exact fun x hx=>lI (ih x hx)
theorem hZ.red {w v:List Nat} {ps:List (Nat×Nat)} (h:hZ w ps v):(∀c∈w,Lt c)->red v=red w:=by
 induction h with
 | nil=>exact fun _=>rfl
 | @cons w v k x ps a b _ ih=>
  intro hw
  have hx:=hw x (List.mem_of_getElem? a)
  rw[ih fun c hc=>hw c (lI hc)]
  exact (Ap ⟨x,aX x,a,b,(bA hx).symm⟩ hw).1
theorem hZ.down {y:List Nat} {c:Nat} {w v:List Nat} {ps:List (Nat×Nat)} (h:hZ w ps v):WP y c w (ps.map fun p=> .out c p.1) v:=by
 induction h with
 | nil=>exact .nil
 | cons a b _ ih=>exact .out a b ih
theorem AK {w:List Nat} {k x:Nat} (a:w[k]? =some x) (b:w[k+1]? =some (aX x)):(w.take k++w.drop (k+2)).take k++[x]++[aX x]++(w.take k++w.drop (k+2)).drop k=w:=by
 have hk:=(List.getElem?_eq_some_iff.mp b).1
 have hl:(w.take k).length=k:=by rw[List.length_take];omega
 rw[List.take_append_of_le_length (by omega),List.take_of_length_le (by omega),List.drop_append_of_le_length (by omega),List.drop_of_length_le (by omega),List.nil_append]
 have e:w=w.take k++(x::aX x::w.drop (k+2)):=by
  have h1:w.drop k=x::w.drop (k+1):=by
   rw[List.drop_eq_getElem_cons (by omega)]
   congr 1
   exact Option.some.inj ((List.getElem?_eq_getElem _).symm.trans a)
  have h2:w.drop (k+1)=aX x::w.drop (k+2):=by
   rw[List.drop_eq_getElem_cons hk]
   congr 1
   exact Option.some.inj ((List.getElem?_eq_getElem _).symm.trans b)
  rw[<-h2, <-h1,List.take_append_drop]
 conv=>rhs;rw[e]
 simp
theorem hZ.up {y:List Nat} {c:Nat} {w v:List Nat} {ps:List (Nat×Nat)} (h:hZ w ps v):(∀x∈w,x∈y)->w.length<=12->WP y c v (ps.reverse.map fun p=> .ins c p.1 p.2 0) w:=by
 induction h with
 | nil=>exact fun _ _=> .nil
 | @cons w v k x ps a b _ ih=>
  intro hw hz
  have hl:=qH b
  have h1:=ih (fun x hx=>hw x (lI hx)) (by omega)
  rw[List.reverse_cons,List.map_append]
  have hk:=(List.getElem?_eq_some_iff.mp b).1
  refine h1.app (.ins ?_ (by omega) (hw x (List.mem_of_getElem? a)) ?_)
  ·rw[List.length_append,List.length_take,List.length_drop];show k<=_;omega
  ·show WP y c ((w.take k++w.drop (k+2)).take k++[x]++[aX x]++(w.take k++w.drop (k+2)).drop k) [] w
   rw[AK a b]
   exact .nil
theorem WP.ends {y:List Nat} {c a z:Nat} {m:List Nat} (hz:a=aX z):WP y c (a::(m++[z])) [.turn c, .out c m.length] m:=by
 have e1:(a::(m++[z])).drop 1++(a::(m++[z])).take 1=m++[z,a]:=by simp
 refine .turn ?_
 rw[e1]
 refine .out (x:=z) (by simp) (by rw[List.getElem?_append_right (by omega)];simp[hz]) ?_
 have e2:(m++[z,a]).take m.length++(m++[z,a]).drop (m.length+2)=m:=by simp
 rw[e2]
 exact .nil
theorem WP.Qe {y:List Nat} {c x:Nat} {u:List Nat} (hx:Lt x) (hm:aX x∈y) (hz:u.length<=10):WP y c u [.ins c 0 (aX x) 0, .turn c] (x::u++[aX x]):=by
 refine .ins (Nat.zero_le _) hz hm (.turn ?_)
 have e:(u.take 0++[aX x]++[aX (aX x)]++u.drop 0).drop 1++(u.take 0++[aX x]++[aX (aX x)]++u.drop 0).take 1=x::u++[aX x]:=by rw[bA hx];simp
 rw[e]
 exact .nil
noncomputable def ng (c:Nat):List Nat->List dJ
 | []=>[]
 | x::l=> .ins c 0 (aX x) 0:: .turn c::ng c l
theorem kC (c:Nat): ∀(l:List Nat) (x:Nat),ng c (l++[x])=ng c l++[.ins c 0 (aX x) 0, .turn c]
 | [],_=>rfl
 | a::l,x=>by show _::_::ng c (l++[x])=_::_::(ng c l++_);rw[kC c l x]
theorem WP.EA {y:List Nat} {c:Nat}: ∀(p u:List Nat),(∀x∈p,Lt x/\aX x∈y)->u.length+2*p.length<=12->WP y c u (ng c p.reverse) (p++u++su p)
 | [],u,_,_=>by
  show WP y c u [] ([]++u++su [])
  have:([]:List Nat)++u++su []=u:=by unfold su;simp
  rw[this]
  exact .nil
 | x::p,u,h,hz=>by
  have hl:(p++u++su p).length=u.length+2*p.length:=by unfold su;simp;omega
  have ih:=WP.EA (y:=y) (c:=c) p u (fun z MY=>h z (List.mem_cons_of_mem _ MY)) (by rw[List.length_cons]at hz;omega)
  obtain ⟨h1,h2⟩:=h x List.mem_cons_self
  rw[List.reverse_cons,kC]
  have:=ih.app (WP.Qe (y:=y) (c:=c) h1 h2 (by rw[hl];rw[List.length_cons]at hz;omega))
  have e:x::(p++u++su p)++[aX x]=x::p++u++su (x::p):=by rw[sO];simp
  rw[<-e]
  exact this
noncomputable def qI (c:Nat) (n:Nat):List dJ:=List.replicate n (.turn c)
theorem AL {a:List Nat} {n:Nat} (h:n<a.length):(fe a n).drop 1++(fe a n).take 1=fe a (n+1):=by
 unfold fe
 have e:a.take (n+1)=a.take n++[a[n]]:=by rw[List.take_succ,List.getElem?_eq_getElem h];rfl
 have e2:a.drop n=a[n]::a.drop (n+1):=List.drop_eq_getElem_cons h
 rw[e2,e]
 show (a.drop (n+1)++a.take n)++[a[n]]=_
 rw[List.append_assoc]
theorem WP.turns {y:List Nat} {c:Nat} {a:List Nat}: ∀n,n<=a.length->WP y c a (qI c n) (fe a n)
 | 0,_=>by rw[mS];exact .nil
 | n+1,h=>by
  have e:qI c (n+1)=qI c n++[.turn c]:=by unfold qI;rw[List.replicate_succ']
  rw[e]
  refine (WP.turns n (by omega)).app (.turn ?_)
  rw[AL (by omega)]
  exact .nil
theorem vh {a b:List Nat} (h:aU a=aU b): ∃t,t<=(core (red a)).length/\fe (core (red a)) t=core (red b):=by
 rw[eR,eR]at h
 obtain ⟨i,hi,e1⟩:=gO (core (red a))
 obtain ⟨j,hj,e2⟩:=gO (core (red b))
 have hl:(core (red a)).length=(core (red b)).length:=by
  have h1:=congrArg List.length e1
  have h2:=congrArg List.length e2
  rw[jY]at h1 h2
  rw[<-h1, <-h2,h]
 have e3:fe (core (red a)) i=fe (core (red b)) j:=by rw[<-e1, <-e2,h]
 have back:fe (fe (core (red b)) j) ((core (red b)).length - j)=core (red b):=by
  have:=qy ((core (red b)).drop j) ((core (red b)).take j)
  rw[List.length_drop,List.take_append_drop]at this
  exact this
 obtain ⟨t,ht,e4⟩:=qA (c:=core (red a)) (k:=i) (j:=(core (red b)).length - j) hi (by omega)
 exact ⟨t,ht,by rw[<-e4,e3,back]⟩
theorem yg {u:List Nat} (h:(core u).length<u.length): ∃a m z,u=a::(m++[z])/\a=aX z/\core m=core u:=by
 by_cases h2:2<=u.length
 ·obtain ⟨a,m,z,rfl⟩:=sJ h2
  by_cases e:a=aX z
  ·exact ⟨a,m,z,rfl,e,(iS e).symm⟩
  ·rw[d_ e]at h;omega
 ·rw[eh (by omega)]at h;omega
inductive SP:List (Nat×Nat)->List Nat->List (Nat×Nat)->Prop
 | nil {l:List (Nat×Nat)}:SP l [] l
 | cons {l l':List (Nat×Nat)} {k:Nat} {ks:List Nat}:k+1<l.length->SP (eU k l) ks l'->SP l (k::ks) l'
theorem SP.app {a b d:List (Nat×Nat)} {ks ls:List Nat} (h:SP a ks b) (g:SP b ls d):SP a (ks++ls) d:=by
 induction h with
 | nil=>exact g
 | cons h1 _ ih=>exact .cons h1 (ih g)
theorem AM (a d:List (Nat×Nat)) (p q:Nat×Nat):eU a.length (a++p::q::d)=a++q::p::d:=by
 unfold eU
 have e1:(a++p::q::d)[a.length]? =some p:=by simp
 have e2:(a++p::q::d)[a.length+1]? =some q:=by rw[List.getElem?_append_right (by omega)];simp
 rw[e1,e2]
 show ((a++p::q::d).set a.length q).set (a.length+1) p=_
 rw[List.set_append_right _ _ (Nat.le_refl _),Nat.sub_self,List.set_cons_zero,List.set_append_right _ _ (by omega)]
 simp
noncomputable def g_ (place j:Nat):List Nat:=(List.range j).map fun t=>place - 1 - t
theorem vi (place j:Nat) (h:j+1<=place):g_ place (j+1)=(place - 1)::g_ (place - 1) j:=by
 unfold g_
 rw[List.range_succ_eq_map,List.map_cons,List.map_map]
 congr 1
 refine List.map_congr_left fun t ht=>?_
 show place - 1 - (t+1)=place - 1 - 1 - t
 omega
theorem SP.down (A:List (Nat×Nat)) (x:Nat×Nat): ∀(j:Nat) (M B:List (Nat×Nat)),M.length=j->SP (A++M++x::B) (g_ (A.length+j) j) (A++x::M++B)
 | 0,M,B,h=>by
  have:M=[]:=List.length_eq_zero_iff.mp h
  subst this
  have e:A++[]++x::B=A++x::[]++B:=by simp
  rw[e]
  exact .nil
 | j+1,M,B,h=>by
  have hM:M≠[]:=fun z=>by rw[z]at h;simp at h
  have eM:M=M.dropLast++[M.getLast hM]:=(List.dropLast_concat_getLast hM).symm
  have hl:M.dropLast.length=j:=by rw[List.length_dropLast];omega
  generalize M.dropLast=M' at eM hl
  generalize M.getLast hM=z at eM
  subst eM
  rw[vi _ _ (by omega)]
  have hk:A.length+(j+1) - 1=(A++M').length:=by rw[List.length_append,hl];omega
  rw[hk]
  refine .cons (by simp;omega) ?_
  have e1:A++(M'++[z])++x::B=(A++M')++z::x::B:=by simp
  rw[e1,AM]
  have ih:=SP.down A x j M' (z::B) hl
  have e2:(A++M').length=A.length+j:=by rw[List.length_append,hl]
  rw[e2]
  have e3:A++x::(M'++[z])++B=A++x::M'++z::B:=by simp
  rw[e3]
  exact ih
theorem SP.lift {y:List Nat} (hy:Yd y) {l l':List (Nat×Nat)} {ks:List Nat} {j b:Nat} (h:SP l ks l'): ∀{ws:List (List Nat)} {L:dN},(aA y)[j]? =some b->L[j]? =some l->Path y ws L (ks.map fun k=> .swap b k)/\fL y ws L (ks.map fun k=> .swap b k)=(ws,L.set j l'):=by
 induction h with
 | nil=>
  intro ws L hb hl
  exact ⟨trivial,by rw[set_same hl];rfl⟩
 | @cons l l' k ks h1 _ ih=>
  intro ws L hb hl
  have hi:=m_ (wD hy) hb
  have qG:=(List.getElem?_eq_some_iff.mp hl).1
  have eg:L.getD ((aA y).idxOf b) []=l:=by rw[hi];exact aN hl
  have ok:Df y (aA y) ws L (.swap b k):=⟨List.mem_of_getElem? hb,by rw[eg];exact h1⟩
  have eO:dO (aA y) ws L (.swap b k)=L.set j (eU k l):=by
   show L.set ((aA y).idxOf b) (eU k (L.getD ((aA y).idxOf b) []))=_
   rw[eg,hi]
  obtain ⟨i1,i2⟩:=ih (ws:=ws) (L:=dO (aA y) ws L (.swap b k)) hb (by rw[eO];exact List.getElem?_set_self qG)
  refine ⟨⟨ok,i1⟩,i2.trans ?_⟩
  rw[eO,j6]
theorem SP.perm {l l':List (Nat×Nat)} {ks:List Nat} (h:SP l ks l'):l'.Perm l:=by
 induction h with
 | nil=>exact List.Perm.refl _
 | cons _ _ ih=>exact ih.trans (m8 _ _)
structure Pq where
 t:Addr
 k:Nat
 x:Nat
noncomputable def Pq.pr (p:Pq):Nat×Nat:=(p.k,p.x)
noncomputable def pI (ps:List Pq):List V:=ps.map fun p=>V.ref p.t
theorem lJ (ps:List Pq):(pI ps).length=ps.length:=by unfold pI;rw[List.length_map]
theorem AN (ps:List Pq) (p:Pq):pI ps++[V.ref p.t]=pI (ps++[p]):=by unfold pI;rw[List.map_append];rfl
theorem AO {ps:List Pq} {i:Nat} {x:V} (h:(pI ps)[i]? =some x): ∃p,ps[i]? =some p/\x=V.ref p.t:=by
 unfold pI at h
 rw[List.getElem?_map]at h
 cases e:ps[i]? with
 | none=>rw[e]at h;cases h
 | some p=>rw[e]at h;cases h;exact ⟨p,rfl,rfl⟩
noncomputable def G3 (H:Hp) (p:Pq):Prop:=H p.t=some (.tup [.int p.k, .str (S [p.x])])
noncomputable def j7 (_:PySem.W.Frag):Sp:=fun vs H Q _=> ∃w:List Nat,vs=[.str (S w)]/\(∀c∈w,Lt c)/\w.length<=12/\
 ∀(t:Addr) (ps:List Pq) (H':Hp),H t=none->H' t=some (.lst (pI ps))->(∀p∈ps,G3 H' p)->hZ w (ps.map Pq.pr) (red w)->ah H H'->Q (.ref t) H'
theorem oh {K:PySem.W.Frag} {vs:List V} {H:Hp} {Q:VK} {E:XK} (h:j7 K vs H Q E):vs.length=1:=by obtain ⟨_,rfl,_⟩:=h;rfl
noncomputable def nh (H:Hp) (Q:VK) (P:List dJ->Prop) (n:Nat):Prop:= ∀(t:Addr) (ds:List Dd) (H':Hp),H t=none->H' t=some (.lst (dM ds))->(∀x∈ds,dq H' x.a x.e)->P (ds.map Dd.e)->ds.length<=n->ah H H'->Q (.ref t) H'
noncomputable def k_ (_:PySem.W.Frag):Sp:=fun vs H Q _=> ∃(y:List Nat) (c:Nat) (w:List Nat),vs=[.int c, .str (S w)]/\(∀c∈w,Lt c)/\w.length<=12/\nh H Q (fun es=>WP y c w es (core (red w))) 100
theorem qJ {K:PySem.W.Frag} {vs:List V} {H:Hp} {Q:VK} {E:XK} (h:k_ K vs H Q E):vs.length=2:=by obtain ⟨_,_,_,rfl,_⟩:=h;rfl
noncomputable def pJ (_:PySem.W.Frag):Sp:=fun vs H Q _=> ∃(y:List Nat) (c:Nat) (w:List Nat),vs=[.int c, .str (S w)]/\Yd y/\(∀c∈w,c∈y)/\w.length<=12/\nh H Q (fun es=>WP y c (core (red w)) es w) 100
theorem vj {K:PySem.W.Frag} {vs:List V} {H:Hp} {Q:VK} {E:XK} (h:pJ K vs H Q E):vs.length=2:=by obtain ⟨_,_,_,rfl,_⟩:=h;rfl
noncomputable def gn (_:PySem.W.Frag):Sp:=fun vs H Q _=> ∃(a b:List Nat),vs=[.str (S a), .str (S b)]/\a.length<=1000/\(∃t,t<=a.length/\fe a t=b)/\ ∀t,t<=a.length->fe a t=b->Q (.int (t:Nat)) H
theorem j8 {K:PySem.W.Frag} {vs:List V} {H:Hp} {Q:VK} {E:XK} (h:gn K vs H Q E):vs.length=2:=by obtain ⟨_,_,rfl,_⟩:=h;rfl
noncomputable def j9 (_:PySem.W.Frag):Sp:=fun vs H Q _=> ∃(y:List Nat) (c:Nat) (w v:List Nat),vs=[.int c, .str (S w), .str (S v)]/\Yd y/\(∀c∈w,c∈y)/\w.length<=12/\(∀c∈v,c∈y)/\v.length<=12/\aU w=aU v/\nh H Q (fun es=>WP y c w es v) 1000
theorem oj {K:PySem.W.Frag} {vs:List V} {H:Hp} {Q:VK} {E:XK} (h:j9 K vs H Q E):vs.length=3:=by obtain ⟨_,_,_,_,rfl,_⟩:=h;rfl
noncomputable def jk (_:PySem.W.Frag):Sp:=fun vs H Q _=> ∃(b:Nat) (o p:Od),vs=[.str (S [b]), .ref o.o, .ref p.o]/\jb H o/\jb H p/\(br o).Perm (br p)/\(br p).Nodup/\nh H Q (fun es=> ∃ks,es=ks.map (fun k=> .swap b k)/\SP (br o) ks (br p)) 10000
theorem ni {K:PySem.W.Frag} {vs:List V} {H:Hp} {Q:VK} {E:XK} (h:jk K vs H Q E):vs.length=3:=by obtain ⟨_,_,_,rfl,_⟩:=h;rfl
theorem tE: ∀{ws vs':List (List Nat)},ws.length=vs'.length->((ws.zip vs').map (fun p=>decide (aU p.1=aU p.2))).all id=decide (ws.map aU=vs'.map aU)
 | [],[],_=>rfl
 | [],_::_,h=>by cases h
 | _::_,[],h=>by cases h
 | w::ws,v::vs',h=>by
  have ih:=tE (ws:=ws) (vs':=vs') (Nat.succ.inj h)
  rw[List.zip_cons_cons,List.map_cons,List.all_cons,ih]
  by_cases e:aU w=aU v<;>by_cases g:ws.map aU=vs'.map aU<;>simp[e,g]
noncomputable def jl (_:PySem.W.Frag):Sp:=fun vs H Q _=> ∃(t u:Addr) (ws vs':List (List Nat)),vs=[.ref t, .ref u]/\H t=some (.tup (cD ws))/\H u=some (.tup (cD vs'))/\ws.length<=4/\vs'.length<=4/\(∀w∈ws,(∀c∈w,Lt c)/\w.length<=12)/\(∀w∈vs',(∀c∈w,Lt c)/\w.length<=12)/\
 ∀H',ah H H'->Q (.bl (decide (ws.map aU=vs'.map aU))) H'
theorem nj {K:PySem.W.Frag} {vs:List V} {H:Hp} {Q:VK} {E:XK} (h:jl K vs H Q E):vs.length=2:=by obtain ⟨_,_,_,_,rfl,_⟩:=h;rfl
noncomputable def wG (_:PySem.W.Frag):Sp:=fun vs H Q _=> ∃(y:List Nat) (d e:Addr) (ws vs':List (List Nat)) (os ps:List Od),vs=[.str (S y), .ref d, .ref e]/\Yd y/\y.length<=8/\Good y ws (os.map br)/\Good y vs' (ps.map br)/\jc H d ws os/\jc H e vs' ps/\
 (ws.map aU≠vs'.map aU-> ∀H',ah H H'->Q .cy H')/\(ws.map aU=vs'.map aU->nh H Q (fun es=>Path y ws (os.map br) es/\fL y ws (os.map br) es=(vs',ps.map br)) 50000)
theorem AQ {K:PySem.W.Frag} {vs:List V} {H:Hp} {Q:VK} {E:XK} (h:wG K vs H Q E):vs.length=3:=by obtain ⟨_,_,_,_,_,_,_,rfl,_⟩:=h;rfl
theorem fM (ds:List Dd) (x:Dd):dM ds++[V.ref x.a]=dM (ds++[x]):=by unfold dM;rw[List.map_append];rfl
theorem lK (a b:List Dd):dM a++dM b=dM (a++b):=by unfold dM;rw[List.map_append]
structure gp (H0 H:Hp) (t:Addr) (ds:List Dd):Prop where
 ls:H t=some (.lst (dM ds))
 de: ∀x∈ds,dq H x.a x.e
 sm:ah H0 H
theorem gp.push {H0 H H1:Hp} {t a:Addr} {ds:List Dd} {e:dJ} (h:gp H0 H t ds) (n:H0 t=none) (s:ah H H1) (ha:dq H1 a e):gp H0 (upd H1 t (.lst (dM (ds++[⟨a,e⟩])))) t (ds++[⟨a,e⟩]):=by
 have ht:=s _ _ h.ls
 have tU:=aF.hR (o:=HO.lst (dM (ds++[⟨a,e⟩]))) ht
 refine ⟨ae,fun x hx=>?_,fun x o ex=>by rw[aj (aq ex n)];exact s _ _ (h.sm _ _ ex)⟩
 rcases List.mem_append.mp hx with g | g
 ·exact ((h.de x g).ts (aF.of s)).ts tU
 ·rw[List.mem_singleton.mp g];exact ha.ts tU
theorem gp.same {H0 H H1:Hp} {t:Addr} {ds:List Dd} (h:gp H0 H t ds) (s:ah H H1):gp H0 H1 t ds:=⟨s _ _ h.ls,fun x hx=>(h.de x hx).ts (aF.of s),h.sm.trans s⟩
theorem tF: ∀(l st:List Nat) {x:Nat},x∈l.foldl cx st->x∈st\/x∈l
 | [],_,_,h=> .inl h
 | a::l,st,x,h=>by
  rcases tF l (cx st a) h with g | g
  ·rcases o9 g with g | g
   ·exact .inl g
   ·exact .inr (by rw[g];exact List.mem_cons_self)
  ·exact .inr (List.mem_cons_of_mem _ g)
theorem Dk {w:List Nat} {x:Nat} (h:x∈red w):x∈w:=(tF w [] h).resolve_left List.not_mem_nil
theorem nk (c:Nat): ∀l:List Nat,(ng c l).length=2*l.length
 | []=>rfl
 | a::l=>by show (ng c l).length+1+1=2*(l.length+1);rw[nk c l];omega
theorem tG (a:Addr) (c:Nat): ∀n:Nat,(List.replicate n [V.ref a]).flatten=dM (List.replicate n ⟨a, .turn c⟩)
 | 0=>rfl
 | n+1=>by rw[List.replicate_succ,List.flatten_cons,tG a c n,List.replicate_succ];rfl
theorem AR (p q:Nat×Nat):PyData.eqv (ua p) (ua q)=decide (p=q):=by
 obtain ⟨a,b⟩:=p
 obtain ⟨c,d⟩:=q
 show (decide ((a:Int)=(c:Int))&&(decide ((b:Int)=(d:Int))&&true))=_
 by_cases h1:a=c
 ·by_cases h2:b=d
  ·subst h1;subst h2;simp
  ·rw[decide_eq_false (show ¬(b:Int)=(d:Int) by omega),decide_eq_false (show ¬(a,b)=(c,d) from fun z=>h2 (Prod.mk.inj z).2)];simp
 ·rw[decide_eq_false (show ¬(a:Int)=(c:Int) by omega),decide_eq_false (show ¬(a,b)=(c,d) from fun z=>h1 (Prod.mk.inj z).1)];simp
theorem yh {l:List (Nat×Nat)} {p:Nat×Nat}:p∈l-> ∃j:Nat,l[j]? =some p/\ ∀(m:Nat) (e:Nat×Nat),m<j->l[m]? =some e->e≠p:=by
 intro h
 refine ⟨l.idxOf p,?_,fun m e hm he z=>?_⟩
 ·have:=List.idxOf_lt_length_of_mem h
  rw[List.getElem?_eq_getElem this,List.getElem_idxOf this]
 ·have:=List.not_of_lt_findIdx (p:=fun x=>x==p) hm
  have CY:=(List.getElem?_eq_some_iff.mp he).1
  rw[z]at he
  have e2:=(List.getElem?_eq_some_iff.mp he).2
  rw[e2]at this
  simp at this
theorem KU {α:Type} {l:List α} {i j:Nat} {x:α} (Iq:i<=j) (hj:l[j]? =some x):l=l.take i++(l.drop i).take (j - i)++x::l.drop (j+1)/\(l.eraseIdx j).take i++x::(l.eraseIdx j).drop i=l.take i++x::(l.drop i).take (j - i)++l.drop (j+1):=by
 have qG:=(List.getElem?_eq_some_iff.mp hj).1
 have e1:l.drop j=x::l.drop (j+1):=by
  rw[List.drop_eq_getElem_cons qG]
  congr 1
  exact (List.getElem?_eq_some_iff.mp hj).2
 have e2:l.drop i=(l.drop i).take (j - i)++l.drop j:=by
  have:=(List.take_append_drop (j - i) (l.drop i)).symm
  rwa [List.drop_drop,show i+(j - i)=j by omega]at this
 have e3:l=l.take i++(l.drop i).take (j - i)++x::l.drop (j+1):=by
  conv=>lhs;rw[<-List.take_append_drop i l,e2,e1]
  rw[List.append_assoc]
 refine ⟨e3,?_⟩
 have hlen:(l.take i++(l.drop i).take (j - i)).length=j:=by rw[List.length_append,List.length_take,List.length_take,List.length_drop];omega
 have e4:l.eraseIdx j=l.take i++(l.drop i).take (j - i)++l.drop (j+1):=by
  conv=>lhs;rw[e3]
  rw[List.eraseIdx_append_of_length_le (by omega),hlen,Nat.sub_self]
  rfl
 rw[e4]
 have KW:(l.take i).length=i:=by rw[List.length_take];omega
 rw[List.append_assoc,List.take_append_of_le_length (by omega),List.take_of_length_le (by omega),List.drop_append_of_le_length (by omega),List.drop_of_length_le (by omega)]
 simp
theorem vk (place j:Nat):g_ place (j+1)=g_ place j++[place - 1 - j]:=by unfold g_;rw[List.range_succ,List.map_append];rfl
theorem pK (place j:Nat):(g_ place j).length=j:=by unfold g_;rw[List.length_map,List.length_range]
theorem jv {α β:Type} (f:α->β): ∀(l:List α) (i:Nat),(l.map f).eraseIdx i=(l.eraseIdx i).map f
 | [],_=>rfl
 | _::_,0=>rfl
 | x::l,i+1=>by show f x::(l.map f).eraseIdx i=f x::(l.eraseIdx i).map f;rw[jv f l i]
noncomputable def fh (cur:List Pr) (i j:Nat) (p:Pr):List Pr:=(cur.eraseIdx j).take i++p::(cur.eraseIdx j).drop i
theorem tH (cur:List Pr) (i j:Nat) (p:Pr):((cL cur).eraseIdx j).take i++V.ref p.t::((cL cur).eraseIdx j).drop i=cL (fh cur i j p):=by
 unfold cL fh
 rw[jv,List.map_append,List.map_cons,List.map_take,List.map_drop]
theorem qK (cur:List Pr) (i j:Nat) (p:Pr):(fh cur i j p).map Pr.pair=((cur.map Pr.pair).eraseIdx j).take i++p.pair::((cur.map Pr.pair).eraseIdx j).drop i:=by
 unfold fh
 rw[jv,List.map_append,List.map_cons,List.map_take,List.map_drop]
theorem tI {cur:List Pr} {i j:Nat} {p q:Pr} (hp:p∈cur) (h:q∈fh cur i j p):q∈cur:=by
 unfold fh at h
 rcases List.mem_append.mp h with g | g
 ·exact List.mem_of_mem_eraseIdx (List.mem_of_mem_take g)
 ·rcases List.mem_cons.mp g with g | g
  ·rw[g];exact hp
  ·exact List.mem_of_mem_eraseIdx (List.mem_of_mem_drop g)
theorem wH {α:Type} {a b:List α} {j:Nat} {x:α} (ha:j<=a.length) (hb:b[j]? =some x):(a.take j++b.drop j)[j]? =some x:=by
 have hl:(a.take j).length=j:=by rw[List.length_take];omega
 rw[List.getElem?_append_right (by omega),hl,Nat.sub_self,List.getElem?_drop,Nat.add_zero]
 exact hb
theorem wI {α:Type} {a b:List α} {j:Nat} {x:α} (hb:j<b.length) (ha:a[j]? =some x):(a.take j++b.drop j).set j x=a.take (j+1)++b.drop (j+1):=by
 have hj:=(List.getElem?_eq_some_iff.mp ha).1
 have hl:(a.take j).length=j:=by rw[List.length_take];omega
 rw[List.set_append_right _ _ (by omega),hl,Nat.sub_self,List.drop_eq_getElem_cons hb,List.set_cons_zero,List.take_succ,ha]
 simp
theorem gp.ext {H0 H H1:Hp} {t b:Addr} {ds es:List Dd} (h:gp H0 H t ds) (n:H0 t=none) (s:ah H H1) (he: ∀x∈es,dq H1 x.a x.e):gp H0 (upd H1 t (.lst (dM (ds++es)))) t (ds++es):=by
 have ht:=s _ _ h.ls
 have tU:=aF.hR (o:=HO.lst (dM (ds++es))) ht
 refine ⟨ae,fun x hx=>?_,fun x o ex=>by rw[aj (aq ex n)];exact s _ _ (h.sm _ _ ex)⟩
 rcases List.mem_append.mp hx with g | g
 ·exact ((h.de x g).ts (aF.of s)).ts tU
 ·exact (he x g).ts tU
theorem wJ {os:List Od} {i:Nat} {o:Od} (h:os[i]? =some o):(kU os)[i]? =some (V.ref o.o):=by unfold kU;rw[List.getElem?_map,h];rfl
theorem AS {ws:List (List Nat)} {i:Nat} {w:List Nat} (h:ws[i]? =some w):(cD ws)[i]? =some (V.str (S w)):=by unfold cD;rw[List.getElem?_map,h];rfl
inductive Al (R:Nat->Nat×Nat->Prop):List Nat->List (Nat×Nat)->Prop
 | nil:Al R [] []
 | cons {n:Nat} {p:Nat×Nat} {o:List Nat} {l:List (Nat×Nat)}:R n p->Al R o l->Al R (n::o) (p::l)
section
variable {R S:Nat->Nat×Nat->Prop}
theorem Al.len: ∀{o:List Nat} {l:List (Nat×Nat)},Al R o l->o.length=l.length
 | _,_, .nil=>rfl
 | _,_, .cons _ h=>by rw[List.length_cons,List.length_cons,h.len]
theorem Al.app: ∀{a:List Nat} {b:List (Nat×Nat)} {c:List Nat} {d:List (Nat×Nat)},Al R a b->Al R c d->Al R (a++c) (b++d)
 | _,_,_,_, .nil,h=>h
 | _,_,_,_, .cons x y,h=> .cons x (y.app h)
theorem Al.take: ∀{o:List Nat} {l:List (Nat×Nat)} (k:Nat),Al R o l->Al R (o.take k) (l.take k)
 | _,_,0,_=> .nil
 | _,_,_+1, .nil=> .nil
 | _,_,k+1, .cons a b=> .cons a (b.take k)
theorem Al.drop: ∀{o:List Nat} {l:List (Nat×Nat)} (k:Nat),Al R o l->Al R (o.drop k) (l.drop k)
 | _,_,0,h=>h
 | _,_,_+1, .nil=> .nil
 | _,_,k+1, .cons _ b=>b.drop k
theorem Al.BF {c:Nat} {f:Nat->Option Nat} {P:Nat->Bool}: ∀{o:List Nat} {l:List (Nat×Nat)},(∀n p,n∈o->R n p->(P n=true-> ∃p',dU c f p=some p'/\S n p')/\(P n=false->dU c f p=none))->Al R o l->Al S (o.filter P) (bZ c f l)
 | _,_,_, .nil=> .nil
 | n::o,p::l,h, .cons a b=>by
  have ih:=b.BF fun n p hn=>h n p (List.mem_cons_of_mem _ hn)
  obtain ⟨h1,h2⟩:=h n p List.mem_cons_self a
  unfold bZ at*
  cases e:P n with
  | true=>
   obtain ⟨p',e1,e2⟩:=h1 e
   rw[List.filter_cons_of_pos e,List.filterMap_cons_some e1]
   exact .cons e2 ih
  | false=>
   rw[List.filter_cons_of_neg (by rw[e];decide),List.filterMap_cons_none (h2 e)]
   exact ih
theorem Al.Wl {c:Nat} {f:Nat->Option Nat} {o:List Nat} {l:List (Nat×Nat)} (h: ∀n p,n∈o->R n p-> ∃p',dU c f p=some p'/\S n p') (a:Al R o l):Al S o (bZ c f l):=by
 have:=a.BF (S:=S) (c:=c) (f:=f) (P:=fun _=>true) fun n p hn hr=>⟨fun _=>h n p hn hr,fun z=>by cases z⟩
 rwa [List.filter_eq_self.mpr (fun _ _=>rfl)]at this
theorem Al.G4: ∀{o:List Nat} {l:List (Nat×Nat)} {k:Nat},Al R o l->k+1<o.length-> ∃a u v d a' p q d',o=a++u::v::d/\l=a'++p::q::d'/\a.length=k/\a'.length=k/\Al R a a'/\R u p/\R v q/\Al R d d'
 | _,_,0, .cons x (.cons y z),_=>⟨[],_,_,_,[],_,_,_,rfl,rfl,rfl,rfl, .nil,x,y,z⟩
 | _,_,k+1, .cons x y,h=>by
  obtain ⟨a,u,v,d,a',p,q,d',e1,e2,e3,e4,e5,e6⟩:=y.G4 (k:=k) (by simpa using h)
  exact ⟨_::a,u,v,d,_::a',p,q,d',by rw[e1];rfl,by rw[e2];rfl,by simp[e3],by simp[e4], .cons x e5,e6⟩
 | _,_,0, .cons x .nil,h=>absurd h (by simp)
 | _,_,_, .nil,h=>absurd h (by simp)
noncomputable def iI (k:Nat) (o:List Nat):List Nat:=(o.eraseIdx (k+1)).take k++o.getD (k+1) 0::(o.eraseIdx (k+1)).drop k
theorem tJ (a d:List Nat) (u v:Nat):iI a.length (a++u::v::d)=a++v::u::d:=by
 have e1:(a++u::v::d).eraseIdx (a.length+1)=a++u::d:=by
  rw[List.eraseIdx_append_of_length_le (by omega)]
  simp
 have e2:(a++u::v::d).getD (a.length+1) 0=v:=by
  rw[List.getD_eq_getElem?_getD,List.getElem?_append_right (by omega)]
  simp
 unfold iI
 rw[e1,e2]
 simp
theorem AU (a d:List (Nat×Nat)) (p q:Nat×Nat):eU a.length (a++p::q::d)=a++q::p::d:=by
 unfold eU
 have e1:(a++p::q::d)[a.length]? =some p:=by simp
 have e2:(a++p::q::d)[a.length+1]? =some q:=by rw[List.getElem?_append_right (by omega)];simp
 rw[e1,e2]
 show ((a++p::q::d).set a.length q).set (a.length+1) p=_
 rw[List.set_append_right _ _ (Nat.le_refl _),Nat.sub_self,List.set_cons_zero,List.set_append_right _ _ (by omega)]
 simp
theorem Al.swap {o:List Nat} {l:List (Nat×Nat)} {k:Nat} (h:Al R o l) (hk:k+1<o.length):Al R (iI k o) (eU k l):=by
 obtain ⟨a,u,v,d,a',p,q,d',rfl,rfl,e3,e4,e5,e6,e7,e8⟩:=h.G4 hk
 subst e3
 rw[tJ, <-e4,AU]
 exact e5.app (.cons e7 (.cons e6 e8))
theorem Al.put2 {o:List Nat} {l:List (Nat×Nat)} {k m m':Nat} {p q:Nat×Nat} (h:Al R o l) (hp:R m p) (hq:R m' q):Al R (o.take k++m::m'::o.drop k) (put2 k p q l):=(h.take k).app (.cons hp (.cons hq (h.drop k)))
end
noncomputable abbrev WN:=List (List (Nat×Nat))
noncomputable def h7 (W:WN) (n:Nat) (p:Nat×Nat):Prop:= ∃w x,W[p.1]? =some w/\w[p.2]? =some (x,n)
noncomputable def Own (W:WN):Prop:= ∀n p q,h7 W n p->h7 W n q->p=q
theorem dP {W:WN} {c:Nat} {w':List (Nat×Nat)} {n:Nat} {p:Nat×Nat} (hc:c<W.length):h7 (W.set c w') n p↔if p.1=c then ∃x,w'[p.2]? =some (x,n) else h7 W n p:=by
 unfold h7
 by_cases e:p.1=c
 ·rw[if_pos e,e,List.getElem?_set_self hc]
  exact ⟨fun ⟨w,x,h1,h2⟩=>⟨x,by cases h1;exact h2⟩,fun ⟨x,h⟩=>⟨w',x,rfl,h⟩⟩
 ·rw[if_neg e,List.getElem?_set_ne (Ne.symm e)]
theorem AV {W:WN} {c:Nat} {w:List (Nat×Nat)} {n:Nat} {p:Nat×Nat} (hw:W[c]? =some w) (h:h7 W n p): ∃p',dU c (ff w.length) p=some p'/\h7 (W.set c (w.drop 1++w.take 1)) n p':=by
 have hc:=(List.getElem?_eq_some_iff.mp hw).1
 obtain ⟨v,x,h1,h2⟩:=h
 unfold dU
 by_cases e:p.1=c
 ·rw[e,hw]at h1
  cases h1
  have hi:=(List.getElem?_eq_some_iff.mp h2).1
  rw[if_pos e]
  unfold ff
  by_cases z:p.2=0
  ·rw[if_pos z]
   refine ⟨(c,w.length - 1),rfl,(dP hc).mpr ?_⟩
   rw[if_pos rfl]
   refine ⟨x,?_⟩
   show (w.drop 1++w.take 1)[w.length - 1]? =_
   rw[List.getElem?_append_right (by rw[List.length_drop];exact Nat.le_refl _),List.length_drop,Nat.sub_self,List.getElem?_take,if_pos (by decide), <-z]
   exact h2
  ·rw[if_neg z]
   refine ⟨(c,p.2 - 1),rfl,(dP hc).mpr ?_⟩
   rw[if_pos rfl]
   refine ⟨x,?_⟩
   show (w.drop 1++w.take 1)[p.2 - 1]? =_
   rw[List.getElem?_append_left (by rw[List.length_drop];omega),List.getElem?_drop,show 1+(p.2 - 1)=p.2 by omega]
   exact h2
 ·rw[if_neg e]
  refine ⟨p,rfl,(dP hc).mpr ?_⟩
  rw[if_neg e]
  exact ⟨v,x,h1,h2⟩
theorem G5 {W:WN} {c k:Nat} {w:List (Nat×Nat)} {n:Nat} {p a b:Nat×Nat} (hw:W[c]? =some w) (hk:k<=w.length) (h:h7 W n p): ∃p',dU c (ji k) p=some p'/\h7 (W.set c (w.take k++a::b::w.drop k)) n p':=by
 have hc:=(List.getElem?_eq_some_iff.mp hw).1
 obtain ⟨v,x,h1,h2⟩:=h
 have ht:(w.take k).length=k:=by rw[List.length_take];omega
 unfold dU
 by_cases e:p.1=c
 ·rw[e,hw]at h1
  cases h1
  have hi:=(List.getElem?_eq_some_iff.mp h2).1
  rw[if_pos e]
  unfold ji
  by_cases z:p.2<k
  ·rw[if_pos z]
   refine ⟨(c,p.2),rfl,(dP hc).mpr ?_⟩
   rw[if_pos rfl]
   refine ⟨x,?_⟩
   show (w.take k++a::b::w.drop k)[p.2]? =_
   rw[List.getElem?_append_left (by omega),List.getElem?_take,if_pos z]
   exact h2
  ·rw[if_neg z]
   refine ⟨(c,p.2+2),rfl,(dP hc).mpr ?_⟩
   rw[if_pos rfl]
   refine ⟨x,?_⟩
   show (w.take k++a::b::w.drop k)[p.2+2]? =_
   rw[List.getElem?_append_right (by omega),ht,show p.2+2 - k=(p.2 - k)+1+1 by omega,List.getElem?_cons_succ,List.getElem?_cons_succ,List.getElem?_drop,show k+(p.2 - k)=p.2 by omega]
   exact h2
 ·rw[if_neg e]
  refine ⟨p,rfl,(dP hc).mpr ?_⟩
  rw[if_neg e]
  exact ⟨v,x,h1,h2⟩
theorem Dl {W:WN} {c k:Nat} {w:List (Nat×Nat)} {n:Nat} {p a b:Nat×Nat} (own:Own W) (hw:W[c]? =some w) (ha:w[k]? =some a) (hb:w[k+1]? =some b) (h:h7 W n p):
  ((decide (n≠a.2)&&decide (n≠b.2))=true-> ∃p',dU c (outF k) p=some p'/\h7 (W.set c (w.take k++w.drop (k+2))) n p')/\((decide (n≠a.2)&&decide (n≠b.2))=false->dU c (outF k) p=none):=by
 have hc:=(List.getElem?_eq_some_iff.mp hw).1
 have Dm:=(List.getElem?_eq_some_iff.mp hb).1
 have ht:(w.take k).length=k:=by rw[List.length_take];omega
 have pa:h7 W a.2 (c,k):=⟨w,a.1,hw,ha⟩
 have pb:h7 W b.2 (c,k+1):=⟨w,b.1,hw,hb⟩
 constructor
 ·intro hn
  rw[Bool.and_eq_true,decide_eq_true_eq,decide_eq_true_eq]at hn
  obtain ⟨v,x,h1,h2⟩:=h
  unfold dU
  by_cases e:p.1=c
  ·rw[e,hw]at h1
   cases h1
   rw[if_pos e]
   unfold outF
   have n1:p.2≠k:=fun z=>hn.1 (by rw[z,ha]at h2;exact (congrArg Prod.snd (Option.some.inj h2)).symm)
   have n2:p.2≠k+1:=fun z=>hn.2 (by rw[z,hb]at h2;exact (congrArg Prod.snd (Option.some.inj h2)).symm)
   by_cases z:p.2<k
   ·rw[if_pos z]
    refine ⟨(c,p.2),rfl,(dP hc).mpr ?_⟩
    rw[if_pos rfl]
    refine ⟨x,?_⟩
    show (w.take k++w.drop (k+2))[p.2]? =_
    rw[List.getElem?_append_left (by omega),List.getElem?_take,if_pos z]
    exact h2
   ·rw[if_neg z,if_neg (by omega)]
    refine ⟨(c,p.2 - 2),rfl,(dP hc).mpr ?_⟩
    rw[if_pos rfl]
    refine ⟨x,?_⟩
    show (w.take k++w.drop (k+2))[p.2 - 2]? =_
    rw[List.getElem?_append_right (by omega),ht,List.getElem?_drop,show k+2+(p.2 - 2 - k)=p.2 by omega]
    exact h2
  ·rw[if_neg e]
   refine ⟨p,rfl,(dP hc).mpr ?_⟩
   rw[if_neg e]
   exact ⟨v,x,h1,h2⟩
 ·intro hn
  have:n=a.2\/n=b.2:=by
   by_cases z:n=a.2
   ·exact .inl z
   ·right
    rw[decide_eq_true (show n≠a.2 from z),Bool.true_and,decide_eq_false_iff_not]at hn
    exact Decidable.not_not.mp hn
  rcases this with z | z
  ·rw[z]at h
   rw[own _ _ _ h pa]
   unfold dU outF
   rw[if_pos rfl,if_neg (Nat.lt_irrefl _),if_pos (by show k<k+2;omega)]
   rfl
  ·rw[z]at h
   rw[own _ _ _ h pb]
   unfold dU outF
   rw[if_pos rfl,if_neg (by show ¬k+1<k;omega),if_pos (by show k+1<k+2;omega)]
   rfl
noncomputable def nums (W:WN):List Nat:=W.flatMap fun w=>w.map Prod.snd
theorem nu: ∀{W:WN} {n:Nat} {p:Nat×Nat},h7 W n p->n∈nums W:=fun {W n p} ⟨w,x,h1,h2⟩=>List.mem_flatMap.mpr ⟨w,List.mem_of_getElem? h1,List.mem_map.mpr ⟨(x,n),List.mem_of_getElem? h2,rfl⟩⟩
theorem qL: ∀{W:WN},(nums W).Nodup->Own W
 | [],_=>fun n p q ⟨w,x,h,_⟩ _=>by simp at h
 | w::W,hn=>fun n p q hp hq=>by
  have e:nums (w::W)=w.map Prod.snd++nums W:=rfl
  rw[e,List.nodup_append]at hn
  obtain ⟨n1,n2,n3⟩:=hn
  have ih:=qL n2
  obtain ⟨pc,pi⟩:=p
  obtain ⟨qc,qi⟩:=q
  obtain ⟨u,x,h1,h2⟩:=hp
  obtain ⟨v,x',g1,g2⟩:=hq
  have M4: ∀{i:Nat} {x:Nat},w[i]? =some (x,n)->(w.map Prod.snd)[i]? =some n:=fun {i x} h=>by rw[List.getElem?_map,h];rfl
  cases pc with
  | zero=>
   cases h1
   cases qc with
   | zero=>
    cases g1
    have a1:=M4 h2
    have a2:=M4 g2
    obtain ⟨b1,b2⟩:=List.getElem?_eq_some_iff.mp a1
    obtain ⟨c1,c2⟩:=List.getElem?_eq_some_iff.mp a2
    have:pi=qi:=(List.getElem_inj n1).mp (b2.trans c2.symm)
    rw[this]
   | succ qc=>exact absurd rfl (n3 n (List.mem_of_getElem? (M4 h2)) n (nu (p:=(qc,qi)) ⟨v,x',g1,g2⟩))
  | succ pc=>
   cases qc with
   | zero=>
    cases g1
    exact absurd rfl (n3 n (List.mem_of_getElem? (M4 g2)) n (nu (p:=(pc,pi)) ⟨u,x,h1,h2⟩))
   | succ qc=>
    have:=ih n (pc,pi) (qc,qi) ⟨u,x,h1,h2⟩ ⟨v,x',g1,g2⟩
    rw[Prod.mk.injEq]at this
    rw[this.1,this.2]
theorem ny {W:WN} {c:Nat} {w w':List (Nat×Nat)} (hw:W[c]? =some w): ∃a b,nums W=a++w.map Prod.snd++b/\nums (W.set c w')=a++w'.map Prod.snd++b:=by
 obtain ⟨hc,e⟩:=List.getElem?_eq_some_iff.mp hw
 refine ⟨nums (W.take c),nums (W.drop (c+1)),?_,?_⟩
 ·have:W=W.take c++w::W.drop (c+1):=by rw[<-e, <-List.drop_eq_getElem_cons hc,List.take_append_drop]
  have e2:nums W=nums (W.take c++w::W.drop (c+1)):=congrArg nums this
  rw[e2]
  unfold nums
  rw[List.flatMap_append,List.flatMap_cons,List.append_assoc]
 ·rw[List.set_eq_take_append_cons_drop,if_pos hc]
  unfold nums
  rw[List.flatMap_append,List.flatMap_cons,List.append_assoc]
structure Wd (W:WN) (O:List (List Nat)) (L:List (List (Nat×Nat))) (m:Nat):Prop where
 nd:(nums W).Nodup
 sm: ∀n∈nums W,n<m
 ln:O.length=L.length
 al: ∀(j:Nat) (o:List Nat) (l:List (Nat×Nat)),O[j]? =some o->L[j]? =some l->Al (h7 W) o l
 on: ∀o∈O,o.Nodup
noncomputable def lets (W:WN):List (List Nat):=W.map fun w=>w.map Prod.fst
theorem Wd.own {W:WN} {O:List (List Nat)} {L:List (List (Nat×Nat))} {m:Nat} (h:Wd W O L m):Own W:=qL h.nd
theorem Al.mem {R:Nat->Nat×Nat->Prop}: ∀{o:List Nat} {l:List (Nat×Nat)} {n:Nat},Al R o l->n∈o-> ∃p,R n p
 | _,_,_, .cons a b,h=>by
  rcases List.mem_cons.mp h with z | z
  ·rw[z];exact ⟨_,a⟩
  ·exact b.mem z
theorem Wd.swap {W:WN} {O:List (List Nat)} {L:List (List (Nat×Nat))} {m j k:Nat} {o:List Nat} (h:Wd W O L m) (ho:O[j]? =some o) (hk:k+1<o.length):Wd W (O.set j (iI k o)) (L.set j (eU k (L.getD j []))) m:=by
 have hj:=(List.getElem?_eq_some_iff.mp ho).1
 have qG:j<L.length:=by rw[<-h.ln];exact hj
 have hl:L[j]? =some L[j]:=List.getElem?_eq_getElem qG
 have a:=h.al j o _ ho hl
 refine ⟨h.nd,h.sm,by rw[List.length_set,List.length_set];exact h.ln,fun i o' l' e1 e2=>?_,fun o' gG=>?_⟩
 ·by_cases e:j=i
  ·subst e
   rw[List.getElem?_set_self hj]at e1
   rw[List.getElem?_set_self qG,List.getD_eq_getElem?_getD,hl]at e2
   cases e1;cases e2
   exact a.swap hk
  ·rw[List.getElem?_set_ne e]at e1 e2
   exact h.al i o' l' e1 e2
 ·rcases List.mem_or_eq_of_mem_set gG with z | z
  ·exact h.on o' z
  ·rw[z]
   obtain ⟨a',u,v,d,_,_,_,_,e1,_,e3,_⟩:=a.G4 hk
   have hn:=h.on o (List.mem_of_getElem? ho)
   subst e3
   rw[e1]at hn ⊢
   rw[tJ]
   exact ((List.Perm.swap u v d).append_left a').nodup_iff.mpr hn
theorem Wd.turn {W:WN} {O:List (List Nat)} {L:List (List (Nat×Nat))} {m c:Nat} {w:List (Nat×Nat)} (h:Wd W O L m) (hw:W[c]? =some w):Wd (W.set c (w.drop 1++w.take 1)) O (L.map (bZ c (ff w.length))) m:=by
 obtain ⟨a,b,e1,e2⟩:=ny (w':=w.drop 1++w.take 1) hw
 have pm:(nums (W.set c (w.drop 1++w.take 1))).Perm (nums W):=by
  rw[e1,e2]
  refine (List.Perm.append_left a ?_).append_right b
  rw[List.map_append]
  refine List.perm_append_comm.trans ?_
  rw[<-List.map_append,List.take_append_drop]
 refine ⟨pm.nodup_iff.mpr h.nd,fun n hn=>h.sm n (pm.mem_iff.mp hn),by rw[List.length_map];exact h.ln,fun j o l h1 h2=>?_,h.on⟩
 rw[List.getElem?_map]at h2
 cases e:L[j]? with
 | none=>rw[e]at h2;cases h2
 | some l0=>
  rw[e]at h2
  cases h2
  exact (h.al j o l0 h1 e).Wl fun n p _ hr=>AV hw hr
theorem Wd.out {W:WN} {O:List (List Nat)} {L:List (List (Nat×Nat))} {m c k:Nat} {w:List (Nat×Nat)} {a b:Nat×Nat} (h:Wd W O L m) (hw:W[c]? =some w) (ha:w[k]? =some a) (hb:w[k+1]? =some b):
  Wd (W.set c (w.take k++w.drop (k+2))) (O.map fun o=>o.filter fun n=>decide (n≠a.2)&&decide (n≠b.2)) (L.map (bZ c (outF k))) m:=by
 obtain ⟨u,v,e1,e2⟩:=ny (w':=w.take k++w.drop (k+2)) hw
 have sb:(nums (W.set c (w.take k++w.drop (k+2)))).Sublist (nums W):=by
  rw[e1,e2]
  refine (List.Sublist.append_left ?_ u).append_right v
  refine List.Sublist.map _ ?_
  have:(w.take k++w.drop (k+2)).Sublist (w.take k++w.drop k):=List.Sublist.append_left (by rw[<-List.drop_drop];exact List.drop_sublist _ _) _
  rwa [List.take_append_drop]at this
 refine ⟨h.nd.sublist sb,fun n hn=>h.sm n (sb.subset hn),by rw[List.length_map,List.length_map];exact h.ln,fun j o l h1 h2=>?_,fun o ho=>?_⟩
 ·rw[List.getElem?_map]at h1 h2
  cases e:L[j]? with
  | none=>rw[e]at h2;cases h2
  | some l0=>
   cases e':O[j]? with
   | none=>rw[e']at h1;cases h1
   | some o0=>
    rw[e]at h2
    rw[e']at h1
    cases h1;cases h2
    exact (h.al j o0 l0 e' e).BF fun n p _ hr=>Dl h.own hw ha hb hr
 ·obtain ⟨o0,h0,rfl⟩:=List.mem_map.mp ho
  exact (h.on o0 h0).filter _
theorem Wd.ins {W:WN} {O:List (List Nat)} {L:List (List (Nat×Nat))} {m c k j n x x':Nat} {w:List (Nat×Nat)} {o:List Nat} (h:Wd W O L m) (hw:W[c]? =some w) (hk:k<=w.length) (ho:O[j]? =some o):
  Wd (W.set c (w.take k++(x,m)::(x',m+1)::w.drop k)) (O.set j (o.take n++m::(m+1)::o.drop n)) ((L.map (bZ c (ji k))).set j (put2 n (c,k) (c,k+1) (bZ c (ji k) (L.getD j [])))) (m+2):=by
 obtain ⟨u,v,e1,e2⟩:=ny (w':=w.take k++(x,m)::(x',m+1)::w.drop k) hw
 have hc:=(List.getElem?_eq_some_iff.mp hw).1
 have hj:=(List.getElem?_eq_some_iff.mp ho).1
 have qG:j<L.length:=by rw[<-h.ln];exact hj
 have hl:L[j]? =some L[j]:=List.getElem?_eq_getElem qG
 have ht:(w.take k).length=k:=by rw[List.length_take];omega
 have mid: ∀(α:Type) (p q:List α) (s t:α),(p++s::t::q).Perm (s::t::(p++q)):=fun α p q s t=>List.perm_middle.trans ((List.perm_middle (a:=t)).cons s)
 have pm:(nums (W.set c (w.take k++(x,m)::(x',m+1)::w.drop k))).Perm (m::(m+1)::nums W):=by
  rw[e1,e2,List.map_append,List.map_cons,List.map_cons]
  refine (((mid _ _ _ _ _).append_left u).append_right v).trans ?_
  rw[<-List.map_append,List.take_append_drop]
  show (u++m::(m+1)::w.map Prod.snd++v).Perm _
  rw[List.append_assoc]
  refine (mid _ _ _ _ _).trans ?_
  rw[List.append_assoc]
  exact List.Perm.refl _
 have fresh: ∀n∈nums W,n≠m/\n≠m+1:=fun n hn=>by have:=h.sm n hn;omega
 have nm: ∀o∈O, ∀n∈o,n∈nums W:=fun o' gG n hn=>by
  obtain ⟨i,hi⟩:=List.mem_iff_getElem?.mp gG
  have Km:i<L.length:=by rw[<-h.ln];exact (List.getElem?_eq_some_iff.mp hi).1
  obtain ⟨p,hp⟩:=(h.al i o' _ hi (List.getElem?_eq_getElem Km)).mem hn
  exact nu hp
 have a0: ∀(i:Nat) (o':List Nat) (l':List (Nat×Nat)),O[i]? =some o'->L[i]? =some l'->Al (h7 (W.set c (w.take k++(x,m)::(x',m+1)::w.drop k))) o' (bZ c (ji k) l'):=fun i o' l' g1 g2=>(h.al i o' l' g1 g2).Wl fun n p _ hr=>G5 hw hk hr
 refine ⟨?_,fun n hn=>?_,by rw[List.length_set,List.length_set,List.length_map];exact h.ln,fun i o' l' g1 g2=>?_,fun o' gG=>?_⟩
 ·rw[pm.nodup_iff,List.nodup_cons,List.nodup_cons]
  refine ⟨fun z=>?_,fun z=>(fresh _ z).2 rfl,h.nd⟩
  rcases List.mem_cons.mp z with z | z
  ·omega
  ·exact (fresh _ z).1 rfl
 ·rcases List.mem_cons.mp (pm.mem_iff.mp hn) with z | z
  ·omega
  ·rcases List.mem_cons.mp z with z | z
   ·omega
   ·have:=h.sm n z;omega
 ·by_cases e:j=i
  ·subst e
   rw[List.getElem?_set_self hj]at g1
   rw[List.getElem?_set_self (by rw[List.length_map];exact qG),List.getD_eq_getElem?_getD,hl]at g2
   cases g1;cases g2
   refine (a0 j o _ ho hl).put2 ((dP hc).mpr ?_) ((dP hc).mpr ?_)
   ·rw[if_pos rfl]
    refine ⟨x,?_⟩
    show (w.take k++(x,m)::(x',m+1)::w.drop k)[k]? =_
    rw[List.getElem?_append_right (by omega),ht,Nat.sub_self];rfl
   ·rw[if_pos rfl]
    refine ⟨x',?_⟩
    show (w.take k++(x,m)::(x',m+1)::w.drop k)[k+1]? =_
    rw[List.getElem?_append_right (by omega),ht,show k+1 - k=1 by omega];rfl
  ·rw[List.getElem?_set_ne e]at g1 g2
   rw[List.getElem?_map]at g2
   cases e':L[i]? with
   | none=>rw[e']at g2;cases g2
   | some l0=>rw[e']at g2;cases g2;exact a0 i o' l0 g1 e'
 ·rcases List.mem_or_eq_of_mem_set gG with z | z
  ·exact h.on o' z
  ·rw[z]
   have hV:=List.mem_of_getElem? ho
   rw[(mid _ _ _ _ _).nodup_iff,List.take_append_drop,List.nodup_cons,List.nodup_cons]
   refine ⟨fun z=>?_,fun z=>(fresh _ (nm o hV _ z)).2 rfl,h.on o hV⟩
   rcases List.mem_cons.mp z with z | z
   ·omega
   ·exact (fresh _ (nm o hV _ z)).1 rfl
noncomputable def aW (W:WN) (m:Nat):dJ->WN
 | .swap _ _=>W
 | .out c k=>W.set c ((W.getD c []).take k++(W.getD c []).drop (k+2))
 | .turn c=>W.set c ((W.getD c []).drop 1++(W.getD c []).take 1)
 | .ins c k x _=>W.set c ((W.getD c []).take k++(x,m)::(aX x,m+1)::(W.getD c []).drop k)
noncomputable def aO (bs:List Nat) (W:WN) (O:List (List Nat)) (m:Nat):dJ->List (List Nat)
 | .swap b n=>O.set (bs.idxOf b) (iI n (O.getD (bs.idxOf b) []))
 | .out c k=>O.map fun o=>o.filter fun n=>decide (n≠((W.getD c []).getD k (0,0)).2)&&decide (n≠((W.getD c []).getD (k+1) (0,0)).2)
 | .turn _=>O
 | .ins _ _ x n=>O.set (bs.idxOf (PyProof.Rows.lo1 x)) ((O.getD (bs.idxOf (PyProof.Rows.lo1 x)) []).take n++m::(m+1)::(O.getD (bs.idxOf (PyProof.Rows.lo1 x)) []).drop n)
noncomputable def aM (m:Nat):dJ->Nat
 | .ins _ _ _ _=>m+2
 | _=>m
theorem cP (W:WN):(lets W).length=W.length:=by unfold lets;rw[List.length_map]
theorem cT {W:WN} {c:Nat} (hc:c<W.length):(lets W).getD c []=(W.getD c []).map Prod.fst:=by
 rw[aN (List.getElem?_eq_getElem hc),aN (show (lets W)[c]? =some ((W[c]).map Prod.fst) by unfold lets;rw[List.getElem?_map,List.getElem?_eq_getElem hc];rfl)]
theorem nz (W:WN) (c:Nat) (w:List (Nat×Nat)):lets (W.set c w)=(lets W).set c (w.map Prod.fst):=by unfold lets;rw[List.map_set]
theorem Wd.step {y:List Nat} {W:WN} {O:List (List Nat)} {L:dN} {m:Nat} {e:dJ} (hy:Yd y) (h:Wd W O L m) (hL:L.length=(aA y).length) (ok:Df y (aA y) (lets W) L e):
  Wd (aW W m e) (aO (aA y) W O m e) (dO (aA y) (lets W) L e) (aM m e)/\lets (aW W m e)=dW (lets W) e:=by
 cases e with
 | swap b n=>
  obtain ⟨hb,hn⟩:=ok
  have hj:(aA y).idxOf b<O.length:=by rw[h.ln,hL];exact List.idxOf_lt_length_of_mem hb
  have qG:(aA y).idxOf b<L.length:=by rw[<-h.ln];exact hj
  have ho:=List.getElem?_eq_getElem hj
  have hlen:=(h.al _ _ _ ho (List.getElem?_eq_getElem qG)).len
  rw[aN (List.getElem?_eq_getElem qG)]at hn
  refine ⟨?_,rfl⟩
  show Wd W (O.set _ (iI n (O.getD _ []))) (L.set _ (eU n (L.getD _ []))) m
  rw[aN ho]
  exact h.swap ho (by omega)
 | out c k=>
  obtain ⟨hc,x,h1,h2⟩:=ok
  rw[cP]at hc
  rw[cT hc]at h1 h2
  have hw:=List.getElem?_eq_getElem hc
  have eg:W.getD c []=W[c]:=aN hw
  rw[eg]at h1 h2
  have hk:k<W[c].length:=by have:=(List.getElem?_eq_some_iff.mp h1).1;rwa [List.length_map]at this
  have Dm:k+1<W[c].length:=by have:=(List.getElem?_eq_some_iff.mp h2).1;rwa [List.length_map]at this
  have ha:=List.getElem?_eq_getElem hk
  have hb:=List.getElem?_eq_getElem Dm
  constructor
  ·show Wd (W.set c ((W.getD c []).take k++(W.getD c []).drop (k+2))) (O.map fun o=>o.filter fun n=>decide (n≠((W.getD c []).getD k (0,0)).2)&&decide (n≠((W.getD c []).getD (k+1) (0,0)).2)) (L.map (bZ c (outF k))) m
   rw[eg,aN ha,aN hb]
   exact h.out hw ha hb
  ·show lets (W.set c _)=(lets W).set c (((lets W).getD c []).take k++((lets W).getD c []).drop (k+2))
   rw[nz,cT hc,List.map_append,List.map_take,List.map_drop]
 | turn c=>
  have hc:c<W.length:=by rw[<-cP];exact ok
  have hw:=List.getElem?_eq_getElem hc
  have eg:W.getD c []=W[c]:=aN hw
  constructor
  ·show Wd (W.set c ((W.getD c []).drop 1++(W.getD c []).take 1)) O (L.map (bZ c (ff ((lets W).getD c []).length))) m
   rw[cT hc,List.length_map,eg]
   exact h.turn hw
  ·show lets (W.set c _)=(lets W).set c (((lets W).getD c []).drop 1++((lets W).getD c []).take 1)
   rw[nz,cT hc,List.map_append,List.map_take,List.map_drop]
 | ins c k x n=>
  obtain ⟨hc,h1,h2,hx,hn⟩:=ok
  rw[cP]at hc
  rw[cT hc,List.length_map]at h1
  have hw:=List.getElem?_eq_getElem hc
  have eg:W.getD c []=W[c]:=aN hw
  have hj:(aA y).idxOf (PyProof.Rows.lo1 x)<O.length:=by rw[h.ln,hL];exact List.idxOf_lt_length_of_mem (wq hy hx)
  have ho:=List.getElem?_eq_getElem hj
  constructor
  ·show Wd (W.set c ((W.getD c []).take k++(x,m)::(aX x,m+1)::(W.getD c []).drop k)) (O.set _ ((O.getD _ []).take n++m::(m+1)::(O.getD _ []).drop n)) ((L.map (bZ c (ji k))).set _ (put2 n (c,k) (c,k+1) (bZ c (ji k) (L.getD _ [])))) (m+2)
   rw[eg]at h1 ⊢
   rw[aN ho]
   exact h.ins hw h1 ho
  ·show lets (W.set c _)=(lets W).set c (((lets W).getD c []).take k++[x]++[aX x]++((lets W).getD c []).drop k)
   rw[nz,cT hc,List.map_append,List.map_cons,List.map_cons,List.map_take,List.map_drop]
   simp
structure Lc where
 a:Addr
 x:Nat
 n:Nat
structure Wc where
 a:Addr
 ls:List Lc
structure Oc where
 a:Addr
 ns:List Nat
noncomputable def Lc.pr (l:Lc):Nat×Nat:=(l.x,l.n)
noncomputable def Wc.w (c:Wc):List (Nat×Nat):=c.ls.map Lc.pr
noncomputable def di (ls:List Lc):List V:=ls.map fun l=>V.ref l.a
noncomputable def jw (Ws:List Wc):List V:=Ws.map fun c=>V.ref c.a
noncomputable def h_ (Os:List Oc):List V:=Os.map fun o=>V.ref o.a
noncomputable def dQ:List Nat:=[119,111,114,100,115]
noncomputable def dj:List Nat:=[111,114,100,101,114,115]
noncomputable def gq:List Nat:=[109,97,110,121]
noncomputable def tK (wl ol:Addr) (m:Nat):List (Key×V):=[(kS dQ, .ref wl),(kS dj, .ref ol),(kS gq, .int m)]
structure dX (H:Hp) (d wl ol:Addr) (Ws:List Wc) (Os:List Oc) (m:Nat):Prop where
 dk:H d=some (.dK (tK wl ol m))
 wd:H wl=some (.lst (jw Ws))
 od:H ol=some (.lst (h_ Os))
 wc: ∀c∈Ws,H c.a=some (.lst (di c.ls))
 lc: ∀c∈Ws, ∀l∈c.ls,H l.a=some (.lst [.str (S [l.x]), .int l.n])
 oc: ∀o∈Os,H o.a=some (.lst (fQ o.ns))
 nd:(wl::ol::(Ws.map Wc.a++Os.map Oc.a)).Nodup
 nl: ∀c∈Ws, ∀l∈c.ls,l.a∉wl::ol::(Ws.map Wc.a++Os.map Oc.a)
noncomputable def oW (Ws:List Wc):WN:=Ws.map Wc.w
noncomputable def oO (Os:List Oc):List (List Nat):=Os.map Oc.ns
noncomputable def om (d wl ol:Addr) (Ws:List Wc) (Os:List Oc):List Addr:=d::wl::ol::(Ws.map Wc.a++Os.map Oc.a)
noncomputable def nA (_:PySem.W.Frag):Sp:=fun vs H Q _=> ∃(y:List Nat) (dr:Addr) (ws:List (List Nat)) (os:List Od),vs=[.ref dr]/\Yd y/\y.length<=8/\Good y ws (os.map br)/\jc H dr ws os/\
 ∀(d wl ol:Addr) (Ws:List Wc) (Os:List Oc) (m:Nat) (H':Hp),dX H' d wl ol Ws Os m->(∀a∈om d wl ol Ws Os,H a=none)->lets (oW Ws)=ws->Wd (oW Ws) (oO Os) (os.map br) m->m<=48->ah H H'->Q (.ref d) H'
theorem tL {K:PySem.W.Frag} {vs:List V} {H:Hp} {Q:VK} {E:XK} (h:nA K vs H Q E):vs.length=1:=by obtain ⟨_,_,_,_,rfl,_⟩:=h;rfl
noncomputable def tM (_:PySem.W.Frag):Sp:=fun vs H Q _=> ∃(y:List Nat) (d wl ol:Addr) (Ws:List Wc) (Os:List Oc) (L:dN) (m:Nat),vs=[.ref d]/\Yd y/\y.length<=8/\dX H d wl ol Ws Os m/\Wd (oW Ws) (oO Os) L m/\Good y (lets (oW Ws)) L/\m<=1000000/\
 ∀(dr:Addr) (os:List Od) (H':Hp),jc H' dr (lets (oW Ws)) os->os.map br=L->ah H H'->Q (.ref dr) H'
theorem yk {K:PySem.W.Frag} {vs:List V} {H:Hp} {Q:VK} {E:XK} (h:tM K vs H Q E):vs.length=1:=by obtain ⟨_,_,_,_,_,_,_,_,rfl,_⟩:=h;rfl
noncomputable def tN (_:PySem.W.Frag):Sp:=fun vs H Q _=> ∃(y:List Nat) (d wl ol a:Addr) (Ws:List Wc) (Os:List Oc) (L:dN) (m:Nat) (e:dJ),vs=[.str (S y), .ref d, .ref a]/\Yd y/\y.length<=8/\dX H d wl ol Ws Os m/\Wd (oW Ws) (oO Os) L m/\Good y (lets (oW Ws)) L/\m<=1000000/\dq H a e/\Df y (aA y) (lets (oW Ws)) L e/\
 ∀(II:List Wc) (IJ:List Oc) (H':Hp),dX H' d wl ol II IJ (aM m e)->oW II=aW (oW Ws) m e->oO IJ=aO (aA y) (oW Ws) (oO Os) m e->(∀x∈om d wl ol II IJ,H x=none\/x∈om d wl ol Ws Os)->(∀x u,H x=some u->x∉om d wl ol Ws Os->H' x=some u)->Q (.bl true) H'
theorem yl {K:PySem.W.Frag} {vs:List V} {H:Hp} {Q:VK} {E:XK} (h:tN K vs H Q E):vs.length=3:=by obtain ⟨_,_,_,_,_,_,_,_,_,_,rfl,_⟩:=h;rfl
noncomputable def gQ (p:Nat×Nat):List Key:=[Sum.inl (p.1:Int),Sum.inl (p.2:Int)]
theorem AW {p q:Nat×Nat} (h:gQ p=gQ q):p=q:=by
 unfold gQ at h
 obtain ⟨a,b⟩:=p
 obtain ⟨c,d⟩:=q
 have h1:=Sum.inl.inj (List.cons.inj h).1
 have h2:=Sum.inl.inj (List.cons.inj (List.cons.inj h).2).1
 have e1:a=c:=Int.ofNat.inj h1
 have e2:b=d:=Int.ofNat.inj h2
 rw[e1,e2]
structure j_ (W:WN) (kvs:List (List Key×V)) (m:Nat):Prop where
 nm:nums W=List.range m
 kl:kvs.length=m
 hit: ∀n p,h7 W n p->cC kvs (gQ p)=some (.int (n:Nat))
 cy: ∀p,(∀n, ¬h7 W n p)->cC kvs (gQ p)=none
theorem fi {W:WN} {w:List (Nat×Nat)} {n:Nat} {p:Nat×Nat}:h7 (W++[w]) n p↔h7 W n p\/(p.1=W.length/\ ∃x,w[p.2]? =some (x,n)):=by
 unfold h7
 constructor
 ·rintro ⟨v,x,h1,h2⟩
  rcases Nat.lt_trichotomy p.1 W.length with g | g | g
  ·rw[List.getElem?_append_left g]at h1;exact .inl ⟨v,x,h1,h2⟩
  ·rw[List.getElem?_append_right (by omega),g,Nat.sub_self]at h1
   cases h1
   exact .inr ⟨g,x,h2⟩
  ·rw[List.getElem?_append_right (by omega)]at h1
   obtain ⟨k,hk⟩: ∃k,p.1 - W.length=k+1:=⟨p.1 - W.length - 1,by omega⟩
   rw[hk]at h1
   cases h1
 ·rintro (⟨v,x,h1,h2⟩ | ⟨g,x,h2⟩)
  ·exact ⟨v,x,by rw[List.getElem?_append_left (List.getElem?_eq_some_iff.mp h1).1];exact h1,h2⟩
  ·exact ⟨w,x,by rw[List.getElem?_append_right (by omega),g,Nat.sub_self];rfl,h2⟩
theorem nB (W:WN) (w:List (Nat×Nat)):nums (W++[w])=nums W++w.map Prod.snd:=by unfold nums;rw[List.flatMap_append];simp
theorem j_.new {W:WN} {kvs:List (List Key×V)} {m:Nat} (h:j_ W kvs m):j_ (W++[[]]) kvs m:=by
 have e: ∀n p,h7 (W++[[]]) n p↔h7 W n p:=fun n p=>fi.trans ⟨fun z=>z.elim id fun ⟨_,x,g⟩=>by simp at g, .inl⟩
 exact ⟨by rw[nB,h.nm];simp,h.kl,fun n p z=>h.hit n p ((e n p).mp z),fun p z=>h.cy p fun n y=>z n ((e n p).mpr y)⟩
theorem j_.push {W:WN} {w:List (Nat×Nat)} {kvs:List (List Key×V)} {m x:Nat} (h:j_ (W++[w]) kvs m):
  cC kvs (gQ (W.length,w.length))=none/\j_ (W++[w++[(x,m)]]) (putK kvs (gQ (W.length,w.length)) (.int (m:Nat))) (m+1):=by
 have Dn:cC kvs (gQ (W.length,w.length))=none:=h.cy _ fun n z=>by
  rcases fi.mp z with ⟨v,y,h1,_⟩ | ⟨_,y,h1⟩
  ·rw[List.getElem?_eq_none (Nat.le_refl _)]at h1;cases h1
  ·rw[List.getElem?_eq_none (Nat.le_refl _)]at h1;cases h1
 have e: ∀n p,h7 (W++[w++[(x,m)]]) n p↔h7 (W++[w]) n p\/(n=m/\p=(W.length,w.length)):=fun n p=>by
  obtain ⟨pc,pi⟩:=p
  rw[fi,fi]
  constructor
  ·rintro (g | ⟨g,y,h2⟩)
   ·exact .inl (.inl g)
   ·simp only at g h2
    rcases Nat.lt_trichotomy pi w.length with z | z | z
    ·rw[List.getElem?_append_left z]at h2;exact .inl (.inr ⟨g,y,h2⟩)
    ·rw[z,List.getElem?_append_right (Nat.le_refl _),Nat.sub_self]at h2
     cases h2
     exact .inr ⟨rfl,by rw[g,z]⟩
    ·rw[List.getElem?_eq_none (by simp;omega)]at h2;cases h2
  ·rintro ((g | ⟨g,y,h2⟩) | ⟨g1,g2⟩)
   ·exact .inl g
   ·exact .inr ⟨g,y,by rw[List.getElem?_append_left (List.getElem?_eq_some_iff.mp h2).1];exact h2⟩
   ·cases g2
    exact .inr ⟨rfl,x,by rw[g1,List.getElem?_append_right (Nat.le_refl _),Nat.sub_self];rfl⟩
 refine ⟨Dn,?_,?_,fun n p hp=>?_,fun p hp=>?_⟩
 ·rw[nB,List.map_append, <-List.append_assoc, <-nB,h.nm,List.range_succ];rfl
 ·rw[iC _ Dn,List.length_append,h.kl];rfl
 ·rw[jS]
  rcases (e n p).mp hp with g | ⟨g1,g2⟩
  ·by_cases z:gQ p=gQ (W.length,w.length)
   ·have:=h.hit n p g
    rw[z,Dn]at this;cases this
   ·rw[if_neg z];exact h.hit n p g
  ·rw[g1,g2,if_pos rfl]
 ·rw[jS,if_neg fun z=>hp m ((e m p).mpr (.inr ⟨rfl,AW z⟩))]
  exact h.cy p fun n z=>hp n ((e n p).mpr (.inl z))
structure iJ (H:Hp) (wl:Addr) (Ws:List Wc):Prop where
 wd:H wl=some (.lst (jw Ws))
 wc: ∀c∈Ws,H c.a=some (.lst (di c.ls))
 lc: ∀c∈Ws, ∀l∈c.ls,H l.a=some (.lst [.str (S [l.x]), .int l.n])
 nd:(wl::Ws.map Wc.a).Nodup
 nl: ∀c∈Ws, ∀l∈c.ls,l.a∉wl::Ws.map Wc.a
theorem iJ.same {H H':Hp} {wl:Addr} {Ws:List Wc} (h:iJ H wl Ws) (s:ah H H'):iJ H' wl Ws:=⟨s _ _ h.wd,fun c hc=>s _ _ (h.wc c hc),fun c hc l hl=>s _ _ (h.lc c hc l hl),h.nd,h.nl⟩
theorem iJ.dict {H:Hp} {wl d:Addr} {Ws:List Wc} {k k':List (List Key×V)} (h:iJ H wl Ws) (hd:H d=some (.dT k)):iJ (upd H d (.dT k')) wl Ws:=by
 have ne: ∀{a:Addr} {xs:List V},H a=some (.lst xs)->a≠d:=fun e z=>by rw[z,hd]at e;cases e
 exact ⟨by rw[aj (ne h.wd)];exact h.wd,fun c hc=>by rw[aj (ne (h.wc c hc))];exact h.wc c hc,fun c hc l hl=>by rw[aj (ne (h.lc c hc l hl))];exact h.lc c hc l hl,h.nd,h.nl⟩
theorem iJ.live {H:Hp} {wl a:Addr} {Ws:List Wc} (h:iJ H wl Ws) (ha:a∈wl::Ws.map Wc.a): ∃u,H a=some u:=by
 rcases List.mem_cons.mp ha with z | z
 ·exact ⟨_,by rw[z];exact h.wd⟩
 ·obtain ⟨c,hc,e⟩:=List.mem_map.mp z
  exact ⟨_,by rw[<-e];exact h.wc c hc⟩
theorem AX (Ws:List Wc) (c:Wc):jw Ws++[V.ref c.a]=jw (Ws++[c]):=by unfold jw;rw[List.map_append];rfl
theorem AY (ls:List Lc) (l:Lc):di ls++[V.ref l.a]=di (ls++[l]):=by unfold di;rw[List.map_append];rfl
theorem iJ.new {H:Hp} {wl t:Addr} {Ws:List Wc} (h:iJ H wl Ws) (n:H t=none):iJ (upd (upd H t (.lst [])) wl (.lst (jw (Ws++[⟨t,[]⟩])))) wl (Ws++[⟨t,[]⟩]):=by
 have h1:=h.same (ah.upd (o:=HO.lst []) n)
 have hf:t∉wl::Ws.map Wc.a:=fun z=>by obtain ⟨u,e⟩:=h.live z;rw[e]at n;cases n
 have AZ:wl≠t:=fun z=>hf (by rw[z];exact List.mem_cons_self)
 obtain ⟨n1,n2⟩:=List.nodup_cons.mp h.nd
 have nw: ∀c∈Ws,c.a≠wl:=fun c hc z=>n1 (by rw[<-z];exact List.mem_map.mpr ⟨c,hc,rfl⟩)
 refine ⟨ae,fun c hc=>?_,fun c hc l hl=>?_,?_,fun c hc l hl=>?_⟩
 ·rcases List.mem_append.mp hc with g | g
  ·rw[aj (nw c g)];exact h1.wc c g
  ·rw[List.mem_singleton.mp g,aj (Ne.symm AZ),ae];rfl
 ·rcases List.mem_append.mp hc with g | g
  ·rw[aj fun z=>h.nl c g l hl (by rw[z];exact List.mem_cons_self)];exact h1.lc c g l hl
  ·rw[List.mem_singleton.mp g]at hl;exact absurd hl List.not_mem_nil
 ·rw[List.map_append]
  show (wl::(Ws.map Wc.a++[t])).Nodup
  rw[<-List.cons_append,List.nodup_append]
  exact ⟨h.nd,by simp,fun a ha b hb z=>hf (by rw[List.mem_singleton.mp hb]at z;rw[<-z];exact ha)⟩
 ·rcases List.mem_append.mp hc with g | g
  ·rw[List.map_append, <-List.cons_append]
   intro z
   rcases List.mem_append.mp z with y | y
   ·exact h.nl c g l hl y
   ·have e:=List.mem_singleton.mp y
    have:=h.lc c g l hl
    rw[e]at this
    rw[show H t=_ from this]at n;cases n
  ·rw[List.mem_singleton.mp g]at hl;exact absurd hl List.not_mem_nil
theorem iJ.push {H:Hp} {wl t p:Addr} {Ws:List Wc} {ls:List Lc} {x n:Nat} (h:iJ H wl (Ws++[⟨t,ls⟩])) (np:H p=none):
  iJ (upd (upd H p (.lst [.str (S [x]), .int n])) t (.lst (di (ls++[⟨p,x,n⟩])))) wl (Ws++[⟨t,ls++[⟨p,x,n⟩]⟩]):=by
 have h1:=h.same (ah.upd (o:=HO.lst [.str (S [x]), .int n]) np)
 have gb:upd H p (HO.lst [.str (S [x]), .int n]) p=some (HO.lst [.str (S [x]), .int n]):=ae
 have hf:p∉wl::(Ws++[(⟨t,ls⟩:Wc)]).map Wc.a:=fun z=>by obtain ⟨u,e⟩:=h.live z;rw[e]at np;cases np
 have em:(Ws++[(⟨t,ls++[⟨p,x,n⟩]⟩:Wc)]).map Wc.a=(Ws++[(⟨t,ls⟩:Wc)]).map Wc.a:=by rw[List.map_append,List.map_append];rfl
 have mt:t∈(Ws++[(⟨t,ls⟩:Wc)]).map Wc.a:=List.mem_map.mpr ⟨⟨t,ls⟩,List.mem_append.mpr (.inr (List.mem_singleton.mpr rfl)),rfl⟩
 obtain ⟨n1,n2⟩:=List.nodup_cons.mp h.nd
 have AZ:wl≠t:=fun z=>n1 (by rw[z];exact mt)
 have Qf:p≠t:=fun z=>hf (by rw[z];exact List.mem_cons_of_mem _ mt)
 have nt: ∀c∈Ws,c.a≠t:=fun c hc z=>by
  rw[List.map_append,List.nodup_append]at n2
  exact n2.2.2 c.a (List.mem_map.mpr ⟨c,hc,rfl⟩) t (by simp) z
 have ml:(⟨t,ls⟩:Wc)∈Ws++[(⟨t,ls⟩:Wc)]:=List.mem_append.mpr (.inr (List.mem_singleton.mpr rfl))
 have lt: ∀c∈Ws++[(⟨t,ls⟩:Wc)], ∀l∈c.ls,l.a≠t:=fun c hc l hl z=>h.nl c hc l hl (by rw[z];exact List.mem_cons_of_mem _ mt)
 refine ⟨?_,fun c hc=>?_,fun c hc l hl=>?_,by rw[em];exact h.nd,fun c hc l hl=>?_⟩
 ·rw[aj AZ,h1.wd]
  unfold jw
  rw[List.map_append,List.map_append];rfl
 ·rcases List.mem_append.mp hc with g | g
  ·rw[aj (nt c g)];exact h1.wc c (List.mem_append_left _ g)
  ·rw[List.mem_singleton.mp g];exact ae
 ·rcases List.mem_append.mp hc with g | g
  ·rw[aj (lt c (List.mem_append_left _ g) l hl)];exact h1.lc c (List.mem_append_left _ g) l hl
  ·rw[List.mem_singleton.mp g]at hl
   rcases List.mem_append.mp hl with y | y
   ·rw[aj (lt _ ml l y)];exact h1.lc _ ml l y
   ·rw[List.mem_singleton.mp y,aj Qf];exact gb
 ·rw[em]
  rcases List.mem_append.mp hc with g | g
  ·exact h.nl c (List.mem_append_left _ g) l hl
  ·rw[List.mem_singleton.mp g]at hl
   rcases List.mem_append.mp hl with y | y
   ·exact h.nl _ ml l y
   ·rw[List.mem_singleton.mp y];exact hf
theorem gr {H H':Hp} {a:Addr} {o:HO} (s:ah H H') (n:H a=none):ah H (upd H' a o):=fun b u e=>by rw[aj (aq e n)];exact s b u e
theorem A0 (Ws:List Wc) (c:Wc):oW (Ws++[c])=oW Ws++[c.w]:=by unfold oW;rw[List.map_append];rfl
theorem qM (Ws:List Wc):(oW Ws).length=Ws.length:=by unfold oW;rw[List.length_map]
theorem A1 (W:WN) (w:List (Nat×Nat)):lets (W++[w])=lets W++[w.map Prod.fst]:=by unfold lets;rw[List.map_append];rfl
theorem Wc.G6 (t:Addr) (ls:List Lc) (l:Lc):(⟨t,ls++[l]⟩:Wc).w=(⟨t,ls⟩:Wc).w++[(l.x,l.n)]:=by unfold Wc.w;rw[List.map_append];rfl
theorem Wc.KY (t:Addr) (ls:List Lc):(⟨t,ls⟩:Wc).w.length=ls.length:=by unfold Wc.w;rw[List.length_map]
theorem Wc.KZ (t:Addr) (ls:List Lc):(⟨t,ls⟩:Wc).w.map Prod.fst=ls.map Lc.x:=by unfold Wc.w;rw[List.map_map];rfl
theorem fT (Ws:List Wc):(jw Ws).length=Ws.length:=by unfold jw;rw[List.length_map]
theorem eN (ls:List Lc):(di ls).length=ls.length:=by unfold di;rw[List.length_map]
theorem vm {W:WN} {ws:List (List Nat)} {c i:Nat} (h:lets W=ws) (hc:c<ws.length) (hi:i<(ws.getD c []).length): ∃n,h7 W n (c,i):=by
 subst h
 rw[cP]at hc
 rw[cT hc,List.length_map]at hi
 rw[aN (List.getElem?_eq_getElem hc)]at hi
 exact ⟨(W[c][i]).2,W[c],(W[c][i]).1,List.getElem?_eq_getElem hc,List.getElem?_eq_getElem hi⟩
theorem Good.has {y:List Nat} {ws:List (List Nat)} {L:dN} {W:WN} (g:Good y ws L) (h:lets W=ws) {j:Nat} {l:List (Nat×Nat)} (hl:L[j]? =some l):(∀p∈l, ∃n,h7 W n p)/\l.Nodup:=by
 have hj:j<(aA y).length:=by rw[<-g.lk.1];exact (List.getElem?_eq_some_iff.mp hl).1
 have hp:=g.lk.2 j l _ hl (List.getElem?_eq_getElem hj)
 refine ⟨fun p hm=>?_,hp.nodup_iff.mpr (gP _ _ _)⟩
 obtain ⟨c,i⟩:=p
 obtain ⟨h1,h2,_⟩:=fg.mp (hp.mem_iff.mp hm)
 exact vm h h1 h2
theorem Al.nodup {R:Nat->Nat×Nat->Prop} (own: ∀n p q,R n p->R n q->p=q): ∀{o:List Nat} {l:List (Nat×Nat)},Al R o l->l.Nodup->o.Nodup
 | _,_, .nil,_=>List.nodup_nil
 | n::o,p::l, .cons a b,h=>by
  obtain ⟨h1,h2⟩:=List.nodup_cons.mp h
  refine List.nodup_cons.mpr ⟨fun z=>h1 ?_,b.nodup own h2⟩
  have: ∀{o:List Nat} {l:List (Nat×Nat)},Al R o l->n∈o->p∈l:=fun {o l} al=>by
   induction al with
   | nil=>intro z;exact absurd z List.not_mem_nil
   | cons r _ ih=>
    intro z
    rcases List.mem_cons.mp z with e | e
    ·subst e;rw[own _ _ _ a r];exact List.mem_cons_self
    ·exact List.mem_cons_of_mem _ (ih e)
  exact this b z
theorem A2 (Os:List Oc) (o:Oc):h_ Os++[V.ref o.a]=h_ (Os++[o]):=by unfold h_;rw[List.map_append];rfl
theorem ym (ns:List Nat) (n:Nat):fQ ns++[V.int (n:Nat)]=fQ (ns++[n]):=by unfold fQ;rw[List.map_append];rfl
theorem Al.snoc {R:Nat->Nat×Nat->Prop} {o:List Nat} {l:List (Nat×Nat)} {n:Nat} {p:Nat×Nat} (h:Al R o l) (r:R n p):Al R (o++[n]) (l++[p]):=h.app (.cons r .nil)
theorem Dp {os:List Od} {i:Nat} {x:V} (h:(kU os)[i]? =some x): ∃o,os[i]? =some o/\x=V.ref o.o:=by
 unfold kU at h
 rw[List.getElem?_map]at h
 cases e:os[i]? with
 | none=>rw[e]at h;cases h
 | some o=>rw[e]at h;cases h;exact ⟨o,rfl,rfl⟩
structure A3 (H0 H:Hp) (W:WN) (L:dN) (Os:List Oc):Prop where
 oc: ∀o∈Os,H o.a=some (.lst (fQ o.ns))
 al: ∀(j:Nat) (o:Oc) (l:List (Nat×Nat)),Os[j]? =some o->L[j]? =some l->Al (h7 W) o.ns l
 nd:(Os.map Oc.a).Nodup
 fr: ∀o∈Os,H0 o.a=none
theorem A3.snoc {H0 H H':Hp} {W:WN} {L:dN} {Os:List Oc} {o:Oc} {l:List (Nat×Nat)} (h:A3 H0 H W L Os) (s:ah H H') (so:ah H0 H) (no:H o.a=none) (ho:H' o.a=some (.lst (fQ o.ns))) (hl:L[Os.length]? =some l) (al:Al (h7 W) o.ns l):A3 H0 H' W L (Os++[o]):=by
 refine ⟨fun x hx=>?_,fun j x l' h1 h2=>?_,?_,fun x hx=>?_⟩
 ·rcases List.mem_append.mp hx with g | g
  ·exact s _ _ (h.oc x g)
  ·rw[List.mem_singleton.mp g];exact ho
 ·rcases Nat.lt_trichotomy j Os.length with g | g | g
  ·rw[List.getElem?_append_left g]at h1;exact h.al j x l' h1 h2
  ·subst g
   rw[List.getElem?_append_right (Nat.le_refl _),Nat.sub_self]at h1
   cases h1
   rw[hl]at h2;cases h2
   exact al
  ·rw[List.getElem?_eq_none (by simp;omega)]at h1;cases h1
 ·rw[List.map_append,List.nodup_append]
  refine ⟨h.nd,by simp,fun a ha b hb z=>?_⟩
  obtain ⟨x,hx,e⟩:=List.mem_map.mp ha
  have e2:b=o.a:=by simpa using hb
  have:=h.oc x hx
  rw[e,z,e2,no]at this;cases this
 ·rcases List.mem_append.mp hx with g | g
  ·exact h.fr x g
  ·rw[List.mem_singleton.mp g];exact ah.free so no
theorem Dq {y:List Nat} {ws:List (List Nat)} {L:dN} {H0 H:Hp} {W:WN} {Os:List Oc} {kvs:List (List Key×V)} {m:Nat} (g:Good y ws L) (h:lets W=ws) (hn:j_ W kvs m) (ho:A3 H0 H W L Os) (hl:Os.length=L.length):Wd W (oO Os) L m:=by
 have nd:(nums W).Nodup:=by rw[hn.nm];exact List.nodup_range
 refine ⟨nd,fun n hm=>by rw[hn.nm]at hm;exact List.mem_range.mp hm,by unfold oO;rw[List.length_map];exact hl,fun j o l h1 h2=>?_,fun o hm=>?_⟩
 ·unfold oO at h1
  rw[List.getElem?_map]at h1
  cases e:Os[j]? with
  | none=>rw[e]at h1;cases h1
  | some x=>rw[e]at h1;cases h1;exact ho.al j x l e h2
 ·unfold oO at hm
  obtain ⟨x,hx,rfl⟩:=List.mem_map.mp hm
  obtain ⟨j,hj,e⟩:=List.mem_iff_getElem.mp hx
  have e1:Os[j]? =some x:=by rw[List.getElem?_eq_getElem hj,e]
  have nQ:L[j]? =some L[j]:=List.getElem?_eq_getElem (by omega)
  exact (ho.al j x _ e1 nQ).nodup (qL nd) (g.has h nQ).2
theorem yn (wl ol:Addr) (m:Nat):iD [] [(kS dQ,V.ref wl),(kS dj,V.ref ol),(kS gq,V.int (m:Nat))]=tK wl ol m:=by
 have n1:cC (κ:=Key) [(kS dQ,V.ref wl)] (kS dj)=none:=by rw[bz (fun z=>absurd (e_ z) (by decide))];rfl
 have n2:cC (κ:=Key) [(kS dQ,V.ref wl),(kS dj,V.ref ol)] (kS gq)=none:=by rw[bz (fun z=>absurd (e_ z) (by decide)),bz (fun z=>absurd (e_ z) (by decide))];rfl
 unfold iD
 rw[List.foldl_cons,List.foldl_cons,List.foldl_cons,List.foldl_nil]
 rw[show putK (κ:=Key) [] (kS dQ) (V.ref wl)=[(kS dQ,V.ref wl)] from iC _ rfl,iC _ n1]
 exact iC _ n2
theorem A4 {H:Hp} {wl ol:Addr} {as bs:List Addr} (h1:(wl::as).Nodup) (l1: ∀a∈wl::as, ∃u,H a=some u) (n:H ol=none) (h2:bs.Nodup) (l2: ∀b∈bs,H b=none) (h3:ol∉bs):(wl::ol::(as++bs)).Nodup:=by
 have M5: ∀a∈wl::as, ∀b,H b=none->a≠b:=fun a ha b hb z=>by obtain ⟨u,e⟩:=l1 a ha;rw[z,hb]at e;cases e
 obtain ⟨g1,g2⟩:=List.nodup_cons.mp h1
 refine List.nodup_cons.mpr ⟨fun z=>?_,List.nodup_cons.mpr ⟨fun z=>?_,List.nodup_append.mpr ⟨g2,h2,fun a ha b hb=>M5 a (List.mem_cons_of_mem _ ha) b (l2 b hb)⟩⟩⟩
 ·rcases List.mem_cons.mp z with e | z
  ·exact M5 wl List.mem_cons_self ol n e
  ·rcases List.mem_append.mp z with z | z
   ·exact g1 z
   ·exact M5 wl List.mem_cons_self wl (l2 _ z) rfl
 ·rcases List.mem_append.mp z with z | z
  ·exact M5 ol (List.mem_cons_of_mem _ z) ol n rfl
  ·exact h3 z
noncomputable def kI (n:Nat):Key:=Sum.inl (n:Int)
theorem G7 {a b:Nat} (h:kI a=kI b):a=b:=Int.ofNat.inj (Sum.inl.inj h)
noncomputable def nC (W:WN) (kvs:List (Key×V)) (H:Hp):Prop:= ∀n p,h7 W n p-> ∃t,cC kvs (kI n)=some (.ref t)/\H t=some (.tup [.int p.1, .int p.2])
theorem A5 {W:WN} {w:List (Nat×Nat)} {n:Nat}: ¬h7 (W++[w]) n (W.length,w.length):=fun z=>by
 rcases fi.mp z with ⟨v,y,h1,_⟩ | ⟨_,y,h1⟩
 ·rw[List.getElem?_eq_none (Nat.le_refl _)]at h1;cases h1
 ·rw[List.getElem?_eq_none (Nat.le_refl _)]at h1;cases h1
theorem tO {W:WN} {w:List (Nat×Nat)} {x m n:Nat} {p:Nat×Nat}:h7 (W++[w++[(x,m)]]) n p↔h7 (W++[w]) n p\/(n=m/\p=(W.length,w.length)):=by
 obtain ⟨pc,pi⟩:=p
 rw[fi,fi]
 constructor
 ·rintro (g | ⟨g,y,h2⟩)
  ·exact .inl (.inl g)
  ·simp only at g h2
   rcases Nat.lt_trichotomy pi w.length with z | z | z
   ·rw[List.getElem?_append_left z]at h2;exact .inl (.inr ⟨g,y,h2⟩)
   ·rw[z,List.getElem?_append_right (Nat.le_refl _),Nat.sub_self]at h2
    cases h2
    exact .inr ⟨rfl,by rw[g,z]⟩
   ·rw[List.getElem?_eq_none (by simp;omega)]at h2;cases h2
 ·rintro ((g | ⟨g,y,h2⟩) | ⟨g1,g2⟩)
  ·exact .inl g
  ·exact .inr ⟨g,y,by rw[List.getElem?_append_left (List.getElem?_eq_some_iff.mp h2).1];exact h2⟩
  ·cases g2
   exact .inr ⟨rfl,x,by rw[g1,List.getElem?_append_right (Nat.le_refl _),Nat.sub_self];rfl⟩
theorem nC.ts {W:WN} {kvs:List (Key×V)} {H H':Hp} (h:nC W kvs H) (s:aF H H'):nC W kvs H':=fun n p z=>by
 obtain ⟨t,h1,h2⟩:=h n p z
 exact ⟨t,h1,s _ _ h2⟩
theorem nC.put {W:WN} {w:List (Nat×Nat)} {x n:Nat} {kvs:List (Key×V)} {H:Hp} {t:Addr} (h:nC (W++[w]) kvs H) (own:Own (W++[w++[(x,n)]])) (ht:H t=some (.tup [.int (W.length:Nat), .int (w.length:Nat)])):
  nC (W++[w++[(x,n)]]) (putK kvs (kI n) (.ref t)) H:=fun n' p z=>by
 rw[jS]
 rcases tO.mp z with g | ⟨g1,g2⟩
 ·have hU:kI n'≠kI n:=fun e=>by
   have e:=G7 e
   subst e
   have:=own _ _ _ z (tO.mpr (.inr ⟨rfl,rfl⟩))
   rw[this]at g
   exact A5 g
  rw[if_neg hU]
  exact h n' p g
 ·subst g1;subst g2
  rw[if_pos rfl]
  exact ⟨t,rfl,ht⟩
theorem tP {W:WN} {w:List (Nat×Nat)} {j k n:Nat} {p:Nat×Nat} (hw:W[j]? =some w) (h:h7 (W.take j++[w.take k]) n p):h7 W n p:=by
 have hj:=(List.getElem?_eq_some_iff.mp hw).1
 have hl:(W.take j).length=j:=by rw[List.length_take];omega
 rcases fi.mp h with ⟨v,y,h1,h2⟩ | ⟨g,y,h2⟩
 ·have:=(List.getElem?_eq_some_iff.mp h1).1
  rw[List.getElem?_take,if_pos (by omega)]at h1
  exact ⟨v,y,h1,h2⟩
 ·rw[hl]at g
  have hk:p.2<k:=by have:=(List.getElem?_eq_some_iff.mp h2).1;rw[List.length_take]at this;omega
  rw[List.getElem?_take,if_pos hk]at h2
  exact ⟨w,y,by rw[g];exact hw,h2⟩
theorem A6 {W:WN} {w:List (Nat×Nat)} {j k:Nat} (own:Own W) (hw:W[j]? =some w):Own (W.take j++[w.take k]):=fun n p q hp hq=>own n p q (tP hw hp) (tP hw hq)
theorem nC.nil {W:WN} {kvs:List (Key×V)} {H:Hp} (h:nC W kvs H):nC (W++[[]]) kvs H:=fun n p z=>by
 rcases fi.mp z with g | ⟨_,y,g⟩
 ·exact h n p g
 ·simp at g
theorem A7 {Ws:List Wc} {i:Nat} {x:V} (h:(jw Ws)[i]? =some x): ∃c,Ws[i]? =some c/\x=V.ref c.a:=by
 unfold jw at h
 rw[List.getElem?_map]at h
 cases e:Ws[i]? with
 | none=>rw[e]at h;cases h
 | some o=>rw[e]at h;cases h;exact ⟨o,rfl,rfl⟩
theorem A8 {ls:List Lc} {i:Nat} {x:V} (h:(di ls)[i]? =some x): ∃l,ls[i]? =some l/\x=V.ref l.a:=by
 unfold di at h
 rw[List.getElem?_map]at h
 cases e:ls[i]? with
 | none=>rw[e]at h;cases h
 | some o=>rw[e]at h;cases h;exact ⟨o,rfl,rfl⟩
theorem A9 {Os:List Oc} {i:Nat} {x:V} (h:(h_ Os)[i]? =some x): ∃c,Os[i]? =some c/\x=V.ref c.a:=by
 unfold h_ at h
 rw[List.getElem?_map]at h
 cases e:Os[i]? with
 | none=>rw[e]at h;cases h
 | some o=>rw[e]at h;cases h;exact ⟨o,rfl,rfl⟩
theorem qO (Os:List Oc):(h_ Os).length=Os.length:=by unfold h_;rw[List.length_map]
theorem pL (wl ol:Addr) (m:Nat):cC (tK wl ol m) (kS dQ)=some (.ref wl):=bR rfl
theorem nE (wl ol:Addr) (m:Nat):cC (tK wl ol m) (kS dj)=some (.ref ol):=by
 unfold tK
 rw[bz (fun z=>absurd (e_ z) (by decide))]
 exact bR rfl
theorem tQ (wl ol:Addr) (m:Nat):cC (tK wl ol m) (kS gq)=some (.int (m:Nat)):=by
 unfold tK
 rw[bz (fun z=>absurd (e_ z) (by decide)),bz (fun z=>absurd (e_ z) (by decide))]
 exact bR rfl
theorem Wc.qP (c:Wc):c.w.length=c.ls.length:=by unfold Wc.w;rw[List.length_map]
theorem nF {H:Hp} {p:Addr} {ys:List (Key×V)} {o:HO} (h:H p=some (.dK ys)):aF H (upd H p o):=fun c xs e=>by
 rw[aj fun z=>by rw[z,h]at e;cases e];exact e
theorem yo (ws:List (List Nat)) (i:Nat) (w:List Nat) (h:ws[i]? =some w):cD (ws.take i)++[V.str (S w)]=cD (ws.take (i+1)):=by rw[mH,List.take_succ,h];rfl
theorem yp (l:List Nat) (k x:Nat) (h:l[k]? =some x):bX (l.take k)++[V.str (S [x])]=bX (l.take (k+1)):=by rw[eP,List.take_succ,h];rfl
theorem Good.G8 {y:List Nat} {ws:List (List Nat)} {L:dN} (g:Good y ws L) {j:Nat} {l:List (Nat×Nat)} (hl:L[j]? =some l):l.length<=48:=by
 have hj:j<(aA y).length:=by rw[<-g.lk.1];exact (List.getElem?_eq_some_iff.mp hl).1
 rw[(g.lk.2 j l _ hl (List.getElem?_eq_getElem hj)).length_eq]
 have h2:=jt (aA y)[j] (fun w hw=>(g.wk.all w hw).2) ws.length (Nat.le_refl _)
 have:=g.wk.ke
 omega
theorem Good.small {y:List Nat} {ws:List (List Nat)} {L:dN} (g:Good y ws L) {j:Nat} {l:List (Nat×Nat)} (hl:L[j]? =some l): ∀p∈l,p.1<1000/\p.2<1000:=fun p hp=>by
 have hj:j<(aA y).length:=by rw[<-g.lk.1];exact (List.getElem?_eq_some_iff.mp hl).1
 have o3:=(g.lk.2 j l _ hl (List.getElem?_eq_getElem hj)).mem_iff.mp hp
 obtain ⟨c,i⟩:=p
 obtain ⟨h1,h2,_⟩:=fg.mp o3
 have:=g.wk.ke
 have:=(g.wk.all _ (getD_mem h1)).2
 exact ⟨by show c<1000;omega,by show i<1000;omega⟩
theorem Al.at {R:Nat->Nat×Nat->Prop}: ∀{o:List Nat} {l:List (Nat×Nat)} {k n:Nat} {p:Nat×Nat},Al R o l->o[k]? =some n->l[k]? =some p->R n p
 | _,_,0,_,_, .cons a _,h1,h2=>by cases h1;cases h2;exact a
 | _,_,_+1,_,_, .cons _ b,h1,h2=>b.at (by simpa using h1) (by simpa using h2)
 | _,_,_,_,_, .nil,h1,_=>by simp at h1
theorem fb (ks:List Nat):(fQ ks).length=ks.length:=by unfold fQ;rw[List.length_map]
noncomputable def vn (wl ol:Addr) (Ws:List Wc) (Os:List Oc):List Addr:=wl::ol::(Ws.map Wc.a++Os.map Oc.a)
noncomputable def Fr (A:List Addr) (H H':Hp):Prop:= ∀x u,H x=some u->x∉A->H' x=some u
theorem Fr.of {A:List Addr} {H H':Hp} (s:ah H H'):Fr A H H':=fun x u e _=>s x u e
theorem Fr.after {A:List Addr} {H H1 H2:Hp} (h:Fr A H H1) (s:ah H1 H2):Fr A H H2:=fun x u e z=>s _ _ (h x u e z)
theorem Fr.upd {A:List Addr} {H H1:Hp} {a:Addr} {o:HO} (h:Fr A H H1) (ha:a∈A):Fr A H (upd H1 a o):=fun x u e z=>by rw[aj fun y=>z (by rw[y];exact ha)];exact h x u e z
section
variable {H H':Hp} {d wl ol:Addr} {Ws:List Wc} {Os:List Oc} {m:Nat}
theorem dX.same (h:dX H d wl ol Ws Os m) (s:ah H H'):dX H' d wl ol Ws Os m:=⟨s _ _ h.dk,s _ _ h.wd,s _ _ h.od,fun c hc=>s _ _ (h.wc c hc),fun c hc l hl=>s _ _ (h.lc c hc l hl),fun o ho=>s _ _ (h.oc o ho),h.nd,h.nl⟩
theorem dX.live (h:dX H d wl ol Ws Os m) {a:Addr} (ha:a∈vn wl ol Ws Os): ∃xs,H a=some (.lst xs):=by
 unfold vn at ha
 rcases List.mem_cons.mp ha with z | z
 ·exact ⟨_,by rw[z];exact h.wd⟩
 rcases List.mem_cons.mp z with z | z
 ·exact ⟨_,by rw[z];exact h.od⟩
 rcases List.mem_append.mp z with z | z
 ·obtain ⟨c,hc,e⟩:=List.mem_map.mp z
  exact ⟨_,by rw[<-e];exact h.wc c hc⟩
 ·obtain ⟨c,hc,e⟩:=List.mem_map.mp z
  exact ⟨_,by rw[<-e];exact h.oc c hc⟩
theorem dX.fresh (h:dX H d wl ol Ws Os m) {a:Addr} (ha:H a=none):a∉vn wl ol Ws Os:=fun z=>by obtain ⟨xs,e⟩:=h.live z;rw[ha]at e;cases e
theorem tR {α:Type} {f:α->Addr}: ∀{l:List α} {i j:Nat} {a b:α},(l.map f).Nodup->l[i]? =some a->l[j]? =some b->f a=f b->i=j:=by
 intro l i j a b nd h1 h2 e
 have e1:(l.map f)[i]? =some (f a):=by rw[List.getElem?_map,h1];rfl
 have e2:(l.map f)[j]? =some (f b):=by rw[List.getElem?_map,h2];rfl
 obtain ⟨b1,b2⟩:=List.getElem?_eq_some_iff.mp e1
 obtain ⟨c1,c2⟩:=List.getElem?_eq_some_iff.mp e2
 exact (List.getElem_inj nd).mp (b2.trans (e.trans c2.symm))
theorem dR {α:Type} {l:List α} {j:Nat} {x a b:α} (h:x∈l.set j a) (hj:l[j]? =some b):x=a\/ ∃i,i≠j/\l[i]? =some x:=by
 obtain ⟨i,hi⟩:=List.mem_iff_getElem?.mp h
 rcases qE hi with ⟨_,e⟩ | ⟨e1,e2⟩
 ·exact .inl e
 ·exact .inr ⟨i,e1,e2⟩
theorem dX.CN (h:dX H d wl ol Ws Os m) {j:Nat} {o:Oc} {ns:List Nat} (ho:Os[j]? =some o):dX (upd H o.a (.lst (fQ ns))) d wl ol Ws (Os.set j ⟨o.a,ns⟩) m:=by
 have hV:=List.mem_of_getElem? ho
 have em:(Os.set j ⟨o.a,ns⟩).map Oc.a=Os.map Oc.a:=by rw[List.map_set];exact set_same (by rw[List.getElem?_map,ho];rfl)
 have Dh:=h.nd
 obtain ⟨n1,n2⟩:=List.nodup_cons.mp h.nd
 obtain ⟨n3,n4⟩:=List.nodup_cons.mp n2
 obtain ⟨n5,n6,n7⟩:=List.nodup_append.mp n4
 have mo:o.a∈Os.map Oc.a:=List.mem_map.mpr ⟨o,hV,rfl⟩
 have ne1:wl≠o.a:=fun z=>n1 (by rw[z];exact List.mem_cons_of_mem _ (List.mem_append_right _ mo))
 have ne2:ol≠o.a:=fun z=>n3 (by rw[z];exact List.mem_append_right _ mo)
 have ne3: ∀c∈Ws,c.a≠o.a:=fun c hc=>n7 c.a (List.mem_map.mpr ⟨c,hc,rfl⟩) o.a mo
 have K0:d≠o.a:=fun z=>by have:=h.oc o hV;rw[<-z,h.dk]at this;cases this
 refine ⟨by rw[aj K0];exact h.dk,by rw[aj ne1];exact h.wd,?_,fun c hc=>by rw[aj (ne3 c hc)];exact h.wc c hc,fun c hc l hl=>?_,fun x hx=>?_,by rw[em];exact h.nd,fun c hc l hl=>by rw[em];exact h.nl c hc l hl⟩
 ·rw[aj ne2,h.od]
  unfold h_
  rw[show (Os.set j ⟨o.a,ns⟩).map (fun o=>V.ref o.a)=Os.map fun o=>V.ref o.a from by rw[List.map_set];exact set_same (by rw[List.getElem?_map,ho];rfl)]
 ·rw[aj fun z=>h.nl c hc l hl (by rw[z];exact List.mem_cons_of_mem _ (List.mem_cons_of_mem _ (List.mem_append_right _ mo)))];exact h.lc c hc l hl
 ·rcases dR hx ho with e | ⟨i,e1,e2⟩
  ·rw[e];exact ae
  ·rw[aj fun z=>e1 (tR n6 e2 ho z)];exact h.oc x (List.mem_of_getElem? e2)
theorem dX.K1 (h:dX H d wl ol Ws Os m) {j:Nat} {c:Wc} {ls:List Lc} (hc:Ws[j]? =some c) (hl: ∀l∈ls,H l.a=some (.lst [.str (S [l.x]), .int l.n])/\l.a∉vn wl ol Ws Os):dX (upd H c.a (.lst (di ls))) d wl ol (Ws.set j ⟨c.a,ls⟩) Os m:=by
 have kD:=List.mem_of_getElem? hc
 have em:(Ws.set j ⟨c.a,ls⟩).map Wc.a=Ws.map Wc.a:=by rw[List.map_set];exact set_same (by rw[List.getElem?_map,hc];rfl)
 obtain ⟨n1,n2⟩:=List.nodup_cons.mp h.nd
 obtain ⟨n3,n4⟩:=List.nodup_cons.mp n2
 obtain ⟨n5,n6,n7⟩:=List.nodup_append.mp n4
 have mc:c.a∈Ws.map Wc.a:=List.mem_map.mpr ⟨c,kD,rfl⟩
 have mb:c.a∈vn wl ol Ws Os:=List.mem_cons_of_mem _ (List.mem_cons_of_mem _ (List.mem_append_left _ mc))
 have ne1:wl≠c.a:=fun z=>n1 (by rw[z];exact List.mem_cons_of_mem _ (List.mem_append_left _ mc))
 have ne2:ol≠c.a:=fun z=>n3 (by rw[z];exact List.mem_append_left _ mc)
 have ne3: ∀o∈Os,o.a≠c.a:=fun o ho z=>n7 c.a mc o.a (List.mem_map.mpr ⟨o,ho,rfl⟩) z.symm
 have K0:d≠c.a:=fun z=>by have:=h.wc c kD;rw[<-z,h.dk]at this;cases this
 refine ⟨by rw[aj K0];exact h.dk,?_,by rw[aj ne2];exact h.od,fun x hx=>?_,fun x hx l jA=>?_,fun o ho=>by rw[aj (ne3 o ho)];exact h.oc o ho,by rw[em];exact h.nd,fun x hx l jA=>?_⟩
 ·rw[aj ne1,h.wd]
  unfold jw
  rw[show (Ws.set j ⟨c.a,ls⟩).map (fun c=>V.ref c.a)=Ws.map fun c=>V.ref c.a from by rw[List.map_set];exact set_same (by rw[List.getElem?_map,hc];rfl)]
 ·rcases dR hx hc with e | ⟨i,e1,e2⟩
  ·rw[e];exact ae
  ·rw[aj fun z=>e1 (tR n5 e2 hc z)];exact h.wc x (List.mem_of_getElem? e2)
 ·rcases dR hx hc with e | ⟨i,e1,e2⟩
  ·rw[e]at jA
   obtain ⟨g1,g2⟩:=hl l jA
   rw[aj fun z=>g2 (by rw[z];exact mb)];exact g1
  ·have K2:=List.mem_of_getElem? e2
   rw[aj fun z=>h.nl x K2 l jA (by rw[z];exact mb)];exact h.lc x K2 l jA
 ·rw[em]
  rcases dR hx hc with e | ⟨i,e1,e2⟩
  ·rw[e]at jA;exact (hl l jA).2
  ·exact h.nl x (List.mem_of_getElem? e2) l jA
theorem dX.Qg (h:dX H d wl ol Ws Os m) {j:Nat} {c:Wc} {ls:List Lc} {p:Addr} (hc:Ws[j]? =some c) (hp:H p=none) (hl: ∀l∈ls,H l.a=some (.lst [.str (S [l.x]), .int l.n])/\l.a∉vn wl ol Ws Os):
  dX (upd (upd H p (.lst (di ls))) wl (.lst (jw (Ws.set j ⟨p,ls⟩)))) d wl ol (Ws.set j ⟨p,ls⟩) Os m:=by
 have G9:=h.fresh hp
 have h1:=h.same (ah.upd (o:=HO.lst (di ls)) hp)
 have sp:=ah.upd (o:=HO.lst (di ls)) hp
 have gb:upd H p (HO.lst (di ls)) p=some (HO.lst (di ls)):=ae
 have kD:=List.mem_of_getElem? hc
 obtain ⟨n1,n2⟩:=List.nodup_cons.mp h.nd
 obtain ⟨n3,n4⟩:=List.nodup_cons.mp n2
 obtain ⟨n5,n6,n7⟩:=List.nodup_append.mp n4
 have mW: ∀x∈Ws,x.a∈vn wl ol Ws Os:=fun x hx=>List.mem_cons_of_mem _ (List.mem_cons_of_mem _ (List.mem_append_left _ (List.mem_map.mpr ⟨x,hx,rfl⟩)))
 have mO: ∀x∈Os,x.a∈vn wl ol Ws Os:=fun x hx=>List.mem_cons_of_mem _ (List.mem_cons_of_mem _ (List.mem_append_right _ (List.mem_map.mpr ⟨x,hx,rfl⟩)))
 have nw: ∀x∈Ws,x.a≠wl:=fun x hx z=>n1 (by rw[<-z];exact List.mem_cons_of_mem _ (List.mem_append_left _ (List.mem_map.mpr ⟨x,hx,rfl⟩)))
 have no: ∀x∈Os,x.a≠wl:=fun x hx z=>n1 (by rw[<-z];exact List.mem_cons_of_mem _ (List.mem_append_right _ (List.mem_map.mpr ⟨x,hx,rfl⟩)))
 have Wm:ol≠wl:=fun z=>n1 (by rw[<-z];exact List.mem_cons_self)
 have M6:p≠wl:=fun z=>G9 (by rw[z];exact List.mem_cons_self)
 have K0:d≠wl:=fun z=>by have:=h.wd;rw[<-z,h.dk]at this;cases this
 have sub: ∀{a:Addr},a∈wl::ol::((Ws.set j ⟨p,ls⟩).map Wc.a++Os.map Oc.a)->a=p\/a∈vn wl ol Ws Os:=fun {a} ha=>by
  rcases List.mem_cons.mp ha with z | z
  ·exact .inr (by rw[z];exact List.mem_cons_self)
  rcases List.mem_cons.mp z with z | z
  ·exact .inr (by rw[z];exact List.mem_cons_of_mem _ List.mem_cons_self)
  rcases List.mem_append.mp z with z | z
  ·obtain ⟨x,hx,e⟩:=List.mem_map.mp z
   rcases dR hx hc with g | ⟨i,g1,g2⟩
   ·exact .inl (by rw[<-e,g])
   ·exact .inr (by rw[<-e];exact mW x (List.mem_of_getElem? g2))
  ·obtain ⟨x,hx,e⟩:=List.mem_map.mp z
   exact .inr (by rw[<-e];exact mO x hx)
 refine ⟨by rw[aj K0];exact h1.dk,ae,by rw[aj Wm];exact h1.od,fun x hx=>?_,fun x hx l jA=>?_,fun o ho=>by rw[aj (no o ho)];exact h1.oc o ho,?_,fun x hx l jA=>?_⟩
 ·rcases dR hx hc with e | ⟨i,e1,e2⟩
  ·rw[e,aj M6];exact gb
  ·rw[aj (nw x (List.mem_of_getElem? e2))];exact h1.wc x (List.mem_of_getElem? e2)
 ·rcases dR hx hc with e | ⟨i,e1,e2⟩
  ·rw[e]at jA
   obtain ⟨g1,g2⟩:=hl l jA
   rw[aj fun z=>g2 (by rw[z];exact List.mem_cons_self)];exact sp _ _ g1
  ·have K2:=List.mem_of_getElem? e2
   rw[aj fun z=>h.nl x K2 l jA (by rw[z];exact List.mem_cons_self)];exact h1.lc x K2 l jA
 ·have Yy:p∉Ws.map Wc.a:=fun z=>G9 (List.mem_cons_of_mem _ (List.mem_cons_of_mem _ (List.mem_append_left _ z)))
  have es:(Ws.set j ⟨p,ls⟩).map Wc.a=(Ws.map Wc.a).set j p:=by rw[List.map_set]
  have ms: ∀{a:Addr},a∈(Ws.map Wc.a).set j p->a∈Ws.map Wc.a\/a=p:=fun ha=>List.mem_or_eq_of_mem_set ha
  rw[es]
  refine List.nodup_cons.mpr ⟨fun z=>?_,List.nodup_cons.mpr ⟨fun z=>?_,List.nodup_append.mpr ⟨pE n5 Yy,n6,fun a ha b hb z=>?_⟩⟩⟩
  ·rcases List.mem_cons.mp z with z | z
   ·exact Wm z.symm
   rcases List.mem_append.mp z with z | z
   ·rcases ms z with z | z
    ·exact n1 (List.mem_cons_of_mem _ (List.mem_append_left _ z))
    ·exact M6 z.symm
   ·exact n1 (List.mem_cons_of_mem _ (List.mem_append_right _ z))
  ·rcases List.mem_append.mp z with z | z
   ·rcases ms z with z | z
    ·exact n3 (List.mem_append_left _ z)
    ·exact G9 (by rw[<-z];exact List.mem_cons_of_mem _ List.mem_cons_self)
   ·exact n3 (List.mem_append_right _ z)
  ·rcases ms ha with y | y
   ·exact n7 a y b hb z
   ·exact G9 (by rw[<-y,z];exact List.mem_cons_of_mem _ (List.mem_cons_of_mem _ (List.mem_append_right _ hb)))
 ·intro z
  rcases sub z with e | e
  ·rcases dR hx hc with g | ⟨i,g1,g2⟩
   ·rw[g]at jA
    have:=(hl l jA).1
    rw[e,hp]at this;cases this
   ·have:=h.lc x (List.mem_of_getElem? g2) l jA
    rw[e,hp]at this;cases this
  ·rcases dR hx hc with g | ⟨i,g1,g2⟩
   ·rw[g]at jA;exact (hl l jA).2 e
   ·exact h.nl x (List.mem_of_getElem? g2) l jA e
theorem dX.setM (h:dX H d wl ol Ws Os m) (m':Nat):dX (upd H d (.dK (tK wl ol m'))) d wl ol Ws Os m':=by
 have ne: ∀{a:Addr} {xs:List V},H a=some (.lst xs)->a≠d:=fun e z=>by rw[z,h.dk]at e;cases e
 exact ⟨ae,by rw[aj (ne h.wd)];exact h.wd,by rw[aj (ne h.od)];exact h.od,fun c hc=>by rw[aj (ne (h.wc c hc))];exact h.wc c hc,fun c hc l hl=>by rw[aj (ne (h.lc c hc l hl))];exact h.lc c hc l hl,fun o ho=>by rw[aj (ne (h.oc o ho))];exact h.oc o ho,h.nd,h.nl⟩
end
theorem Dr (wl ol:Addr) (m m':Nat):putK (tK wl ol m) (kS gq) (V.int (m':Nat))=tK wl ol m':=by
 have n1:kS dQ≠kS gq:=fun z=>absurd (e_ z) (by decide)
 have n2:kS dj≠kS gq:=fun z=>absurd (e_ z) (by decide)
 unfold putK
 rw[fF,if_pos (by rw[tQ];rfl)]
 unfold tK
 simp only[List.map_cons,List.map_nil,if_neg n1,if_neg n2,if_true]
theorem nG (l:List Nat):(bX l).all ip=true:=by unfold bX;rw[List.all_map,List.all_eq_true];intro x _;rfl
theorem A_ (l:List Nat):(fQ l).all ip=true:=by unfold fQ;rw[List.all_map,List.all_eq_true];intro x _;rfl
theorem Ds (e:Nat) (l:List Nat):zD (.int (e:Nat)) (fQ l)=decide (e∈l):=by
 have key: ∀c:Nat,yT (.int (c:Nat)) (.int (e:Nat))=decide (c=e):=fun c=>by
  show decide ((c:Int)=(e:Int))=_
  by_cases z:c=e
  ·rw[decide_eq_true z,decide_eq_true (by rw[z])]
  ·rw[decide_eq_false z,decide_eq_false (by omega)]
 unfold zD fQ
 rw[List.any_map]
 induction l with
 | nil=>rfl
 | cons c l ih=>
  rw[List.any_cons,ih]
  show (yT (.int (c:Nat)) (.int (e:Nat))||_)=_
  rw[key]
  by_cases z:c=e
  ·rw[decide_eq_true z,Bool.true_or,decide_eq_true (show e∈c::l by rw[z];exact List.mem_cons_self)]
  ·rw[decide_eq_false z,Bool.false_or]
   by_cases y:e∈l
   ·rw[decide_eq_true y,decide_eq_true (List.mem_cons_of_mem _ y)]
   ·rw[decide_eq_false y,decide_eq_false fun g=>(List.mem_cons.mp g).elim (fun g=>z g.symm) y]
theorem iV {α β:Type} (f:α->β): ∀(l:List α) (i:Nat),(l.map f).eraseIdx i=(l.eraseIdx i).map f
 | [],_=>rfl
 | _::_,0=>rfl
 | x::l,i+1=>by show f x::(l.map f).eraseIdx i=f x::(l.eraseIdx i).map f;rw[iV f l i]
theorem Ba (k:Nat) (o:List Nat) (h:k+1<o.length):((fQ o).eraseIdx (k+1)).take k++V.int (o[k+1]:Nat)::((fQ o).eraseIdx (k+1)).drop k=fQ (iI k o):=by
 unfold iI fQ
 have e:o.getD (k+1) 0=o[k+1]:=aN (List.getElem?_eq_getElem h)
 rw[e,List.map_append,List.map_cons,List.map_take,List.map_drop,iV]
theorem Bb (ls:List Lc) (k:Nat):(di ls).drop k=di (ls.drop k):=by unfold di;rw[List.map_drop]
theorem Bc (ls:List Lc) (k:Nat):(di ls).take k=di (ls.take k):=by unfold di;rw[List.map_take]
theorem Dt (a b:List Lc):di a++di b=di (a++b):=by unfold di;rw[List.map_append]
theorem Bd (xs:List V):xn xs (some 1) none=xs.drop 1:=cm xs 1
theorem yq (xs:List V):xn xs none (some 1)=xs.take 1:=gM xs 1
theorem Be: ∀{ns:List Nat} {n:Nat},n∈ns->ns.Nodup-> ∃j,ns[j]? =some n/\(∀m e,m<j->ns[m]? =some e->e≠n)/\ns.eraseIdx j=ns.filter fun x=>decide (x≠n)
 | a::ns,n,h,nd=>by
  obtain ⟨h1,h2⟩:=List.nodup_cons.mp nd
  by_cases z:a=n
  ·refine ⟨0,by rw[z];rfl,fun m e hm=>by omega,?_⟩
   rw[List.filter_cons_of_neg (by rw[z];simp)]
   show ns=_
   refine (List.filter_eq_self.mpr fun x hx=>?_).symm
   simp only[ne_eq,decide_not,Bool.not_eq_true',decide_eq_false_iff_not]
   exact fun g=>h1 (by rw[z, <-g];exact hx)
  ·obtain ⟨j,g1,g2,g3⟩:=Be ((List.mem_cons.mp h).resolve_left fun g=>z g.symm) h2
   refine ⟨j+1,by simpa using g1,fun m e hm he=>?_,?_⟩
   ·cases m with
    | zero=>
     have:a=e:=by simpa using he
     rw[<-this];exact z
    | succ m=>exact g2 m e (by omega) (by simpa using he)
   ·rw[List.filter_cons_of_pos (by simpa using z), <-g3];rfl
theorem G_ {ns:List Nat} {i:Nat} {e:PyData} (h:(ids ns)[i]? =some e): ∃n,ns[i]? =some n/\e=PyData.int n:=by
 unfold ids at h
 rw[List.getElem?_map]at h
 cases g:ns[i]? with
 | none=>rw[g]at h;cases h
 | some n=>rw[g]at h;cases h;exact ⟨n,rfl,rfl⟩
theorem yr {ns:List Nat} {n:Nat} (h:n∉ns):(ns.filter fun x=>decide (x≠n))=ns:=List.filter_eq_self.mpr fun x hx=>by
 simp only[ne_eq,decide_not,Bool.not_eq_true',decide_eq_false_iff_not]
 exact fun g=>h (by rw[<-g];exact hx)
noncomputable def oF (P:Nat->Bool) (Os:List Oc):List Oc:=Os.map fun o=>⟨o.a,o.ns.filter P⟩
theorem EB {P:Nat->Bool} {Os:List Oc} {j:Nat} {o:Oc} (h:Os[j]? =some o):(oF P Os)[j]? =some ⟨o.a,o.ns.filter P⟩:=by unfold oF;rw[List.getElem?_map,h];rfl
theorem qQ (P:Nat->Bool) (Os:List Oc):(oF P Os).length=Os.length:=by unfold oF;rw[List.length_map]
theorem K3 (P:Nat->Bool) (Os:List Oc):(oF P Os).map Oc.a=Os.map Oc.a:=by unfold oF;rw[List.map_map];rfl
theorem Ha (P:Nat->Bool) (Os:List Oc):h_ (oF P Os)=h_ Os:=by unfold oF h_;rw[List.map_map];rfl
theorem Du (Os:List Oc):oF (fun _=>true) Os=Os:=by
 unfold oF
 have: ∀o:Oc,(⟨o.a,o.ns.filter fun _=>true⟩:Oc)=o:=fun o=>by rw[List.filter_eq_self.mpr fun _ _=>rfl]
 rw[List.map_congr_left fun o _=>this o,List.map_id']
theorem oq {α:Type} {a b:List α} {j:Nat} {x:α} (hb:j<b.length) (ha:a[j]? =some x):(a.take j++b.drop j).set j x=a.take (j+1)++b.drop (j+1):=by
 have hj:=(List.getElem?_eq_some_iff.mp ha).1
 have hl:(a.take j).length=j:=by rw[List.length_take];omega
 rw[List.set_append_right _ _ (by omega),hl,Nat.sub_self,List.drop_eq_getElem_cons hb,List.set_cons_zero,List.take_succ,ha]
 simp
theorem Hb {α:Type} {a b:List α} {j:Nat} {x:α} (ha:j<=a.length) (hb:b[j]? =some x):(a.take j++b.drop j)[j]? =some x:=by
 have hl:(a.take j).length=j:=by rw[List.length_take];omega
 rw[List.getElem?_append_right (by omega),hl,Nat.sub_self,List.getElem?_drop,Nat.add_zero]
 exact hb
theorem K4 {P P':Nat->Bool} (Os:List Oc) (j:Nat):h_ ((oF P Os).take j++(oF P' Os).drop j)=h_ Os:=by
 have e: ∀a b:List Oc,h_ (a++b)=h_ a++h_ b:=fun a b=>by unfold h_;rw[List.map_append]
 have e1: ∀a:List Oc,h_ (a.take j)=(h_ a).take j:=fun a=>by unfold h_;rw[List.map_take]
 have e2: ∀a:List Oc,h_ (a.drop j)=(h_ a).drop j:=fun a=>by unfold h_;rw[List.map_drop]
 rw[e,e1,e2,Ha,Ha,List.take_append_drop]
noncomputable def cw (ls:List Lc) (k i n:Nat):Bool:=decide (n∉((ls.drop k).take i).map Lc.n)
theorem nH (ls:List Lc) (k:Nat):cw ls k 0=fun _=>true:=by funext n;unfold cw;simp
theorem jx {ls:List Lc} {k i:Nat} {l:Lc} (h:ls[k+i]? =some l) (n:Nat):cw ls k (i+1) n=(cw ls k i n&&decide (n≠l.n)):=by
 have e:(ls.drop k).take (i+1)=(ls.drop k).take i++[l]:=by rw[List.take_succ,List.getElem?_drop,h];rfl
 unfold cw
 rw[e,List.map_append]
 by_cases z:n∈((ls.drop k).take i).map Lc.n
 ·simp[z]
 ·by_cases y:n=l.n
  ·simp[y]
  ·simp[z,y]
theorem set_set {α:Type} (l:List α) (i:Nat) (a b:α):(l.set i a).set i b=l.set i b:=by
 induction l generalizing i with
 | nil=>rfl
 | cons x l ih=>cases i with
  | zero=>rfl
  | succ i=>show x::(l.set i a).set i b=x::l.set i b;rw[ih]
theorem Dv {ls:List Lc} {k i:Nat} {l:Lc} (h:ls[k+i]? =some l):(ls.take k++ls.drop (k+i))[k]? =some l/\(ls.take k++ls.drop (k+i)).eraseIdx k=ls.take k++ls.drop (k+(i+1)):=by
 have hk:=(List.getElem?_eq_some_iff.mp h).1
 have hl:(ls.take k).length=k:=by rw[List.length_take];omega
 constructor
 ·rw[List.getElem?_append_right (by omega),hl,Nat.sub_self,List.getElem?_drop,Nat.add_zero];exact h
 ·rw[List.eraseIdx_append_of_length_le (by omega),hl,Nat.sub_self,List.drop_eq_getElem_cons hk]
  rfl
theorem qR (n:Nat):PyData.eqv (.int (n:Nat)) (.int (n:Nat))=true:=by
 show decide ((n:Int)=(n:Int))=true
 exact decide_eq_true rfl
theorem vo {a b:Nat} (h:a≠b):PyData.eqv (.int (a:Nat)) (.int (b:Nat))=false:=by
 show decide ((a:Int)=(b:Int))=false
 exact decide_eq_false (by omega)
theorem wK {α:Type} (A N B:List α) (x:α) {p:Nat} (h:A.length+N.length=p):(A++N++B).take p++x::(A++N++B).drop p=A++(N++[x])++B:=by
 have hl:(A++N).length=p:=by rw[List.length_append];exact h
 rw[List.take_append_of_le_length (by omega),List.take_of_length_le (by omega),List.drop_append_of_le_length (by omega),List.drop_of_length_le (by omega)]
 simp
theorem Dw (A N B:List Lc) (l:Lc) {p:Nat} (h:A.length+N.length=p):(di (A++N++B)).take p++V.ref l.a::(di (A++N++B)).drop p=di (A++(N++[l])++B):=by
 rw[<-wK A N B l h]
 unfold di
 generalize A++N++B=Z
 rw[List.map_append,List.map_cons,List.map_take,List.map_drop]
theorem Dx (A N B:List Nat) (l:Nat) {p:Nat} (h:A.length+N.length=p):(fQ (A++N++B)).take p++V.int (l:Nat)::(fQ (A++N++B)).drop p=fQ (A++(N++[l])++B):=by
 rw[<-wK A N B l h]
 unfold fQ
 generalize A++N++B=Z
 rw[List.map_append,List.map_cons,List.map_take,List.map_drop]
theorem bc {t u:TS} {D:Ends} {σ:L2.St} {H:Hp} (h: ∀N:L2.St->Hp->Prop,(∀σ H,u D σ H->N σ H)->t { D with nx:=N } σ H):w9 t u D σ H:=h (u D) fun _ _ z=>z
noncomputable def EC (ws:List (List Nat)) (L:dN):PyData:= .tuple [.tuple (Et ws), .tuple (L.map fun l=> .tuple (l.map ua))]
theorem wL (os:List Od):os.map M0=(os.map br).map fun l=>PyData.tuple (l.map ua):=by rw[List.map_map];rfl
theorem pM {K:PySem.W.Frag} {H:Hp} {dr:Addr} {ws:List (List Nat)} {os:List Od} (h:jc H dr ws os):mx K H (.ref dr) (EC ws (os.map br)):=by
 obtain ⟨⟨wt,ot,h1,h2,h3⟩,hO⟩:=h
 unfold EC
 rw[<-wL]
 exact .tup (aY.of h1) (.cons (.tup (aY.of h2) (sM _)) (.cons (.tup (aY.of h3) (sX hO)) .nil))
theorem Hc {y:List Nat} {H:Hp} {dr:Addr} {ws:List (List Nat)} {os:List Od} (hy:Yd y) (hz:y.length<=8) (h:jc H dr ws os) (g:Good y ws (os.map br)):yV 40 100000 (EC ws (os.map br)):=by
 unfold EC
 rw[<-wL]
 have Di:=eS hy
 have hl:=g.ln
 rw[List.length_map]at hl
 exact KO (fun w hw=>⟨fun c hc=>(hy.lt c ((g.iH w hw).1 c hc)).lt,(g.iH w hw).2⟩) g.ke h.od (by omega)
theorem wM: ∀L:dN,PyData.hasDictAll (L.map fun l=>PyData.tuple (l.map ua))=false
 | []=>rfl
 | l::L=>by show (PyData.hasDictAll (l.map ua)||PyData.hasDictAll (L.map _))=false;rw[sW l,wM L];rfl
theorem tS: ∀ws:List (List Nat),PyData.hasDictAll (Et ws)=false
 | []=>rfl
 | w::ws=>by show (PyData.hasDict (.str _)||PyData.hasDictAll (Et ws))=false;rw[tS ws];rfl
theorem qT (ws:List (List Nat)) (L:dN):(EC ws L).hasDict=false:=by
 show (PyData.hasDictAll (Et ws)||(PyData.hasDictAll (L.map _)||false))=false
 rw[tS,wM];rfl
noncomputable def Yz:dJ->Prop
 | .swap b _=>b<128
 | .ins _ _ x _=>x<128
 | _=>True
noncomputable def pN (_:PySem.W.Frag):Sp:=fun vs H Q _=> ∃(b:Addr) (y:List Nat) (lf:Nat),vs=[.ref b, .str (S y), .int lf]/\bM H b/\y≠[]/\y.length<=8/\lf<=24/\ ∀(t:Addr) (ws:List (List Nat)) (H':Hp),H t=none->t≠b->H' t=some (.tup (cD ws))->sV y ws->bM H' b->aE b H H'->Q (.ref t) H'
theorem vp {K:PySem.W.Frag} {vs:List V} {H:Hp} {Q:VK} {E:XK} (h:pN K vs H Q E):vs.length=3:=by obtain ⟨_,_,_,rfl,_⟩:=h;rfl
noncomputable def tT (_:PySem.W.Frag):Sp:=fun vs H Q _=> ∃(b:Addr) (y:List Nat) (wt:Addr) (ws:List (List Nat)) (room:Int),vs=[.ref b, .str (S y), .ref wt, .int room]/\bM H b/\Yd y/\y≠[]/\y.length<=8/\H wt=some (.tup (cD ws))/\sV y ws/\ ∀(t:Addr) (nI:List (List Nat)) (H':Hp),H' t=some (.tup (cD nI))->sV y nI->nI.map aU=ws.map aU->bM H' b->aE b H H'->Q (.ref t) H'
theorem yt {K:PySem.W.Frag} {vs:List V} {H:Hp} {Q:VK} {E:XK} (h:tT K vs H Q E):vs.length=4:=by obtain ⟨_,_,_,_,_,rfl,_⟩:=h;rfl
noncomputable def pO (_:PySem.W.Frag):Sp:=fun vs H Q _=> ∃(y:List Nat) (d e:Addr) (ws vs':List (List Nat)) (os ps:List Od),vs=[.str (S y), .ref d, .ref e]/\Yd y/\y.length<=8/\Good y ws (os.map br)/\Good y vs' (ps.map br)/\jc H d ws os/\jc H e vs' ps/\ws.map aU=vs'.map aU/\ ∀H',ah H H'->Q (.bl true) H'
theorem vq {K:PySem.W.Frag} {vs:List V} {H:Hp} {Q:VK} {E:XK} (h:pO K vs H Q E):vs.length=3:=by obtain ⟨_,_,_,_,_,_,_,rfl,_⟩:=h;rfl
noncomputable def iK (y w v:List Nat):Prop:=(∀c∈v,c∈y)/\v.length<=12/\aU v=aU w
theorem iK.turn {y w v:List Nat} {k:Nat} (hy:Yd y) (h:iK y w v):iK y w (v.drop k++v.take k):=by
 refine ⟨fun c hc=>?_,?_,?_⟩
 ·rcases List.mem_append.mp hc with g | g
  ·exact h.1 c (List.mem_of_mem_drop g)
  ·exact h.1 c (List.mem_of_mem_take g)
 ·have:=h.2.1
  rw[List.length_append,List.length_drop,List.length_take];omega
 ·have:=Av (w:=v) (k:=k) fun c hc=>hy.lt c (h.1 c hc)
  unfold fe at this
  exact this.trans h.2.2
theorem iK.out {y w v:List Nat} {k x z:Nat} (hy:Yd y) (h:iK y w v) (h1:v[k]? =some x) (h2:v[k+1]? =some z) (e:x=aX z):iK y w (v.take k++v.drop (k+2)):=by
 have hk:=(List.getElem?_eq_some_iff.mp h2).1
 refine ⟨fun c hc=>h.1 c (lI hc),?_,?_⟩
 ·have:=h.2.1
  rw[List.length_append,List.length_drop,List.length_take];omega
 ·rw[<-h.2.2]
  have ew:v=v.take k++x::z::v.drop (k+2):=by
   have e1:v.drop k=x::v.drop (k+1):=by rw[List.drop_eq_getElem_cons (by omega),(List.getElem?_eq_some_iff.mp h1).2]
   have e2:v.drop (k+1)=z::v.drop (k+2):=by rw[List.drop_eq_getElem_cons hk,(List.getElem?_eq_some_iff.mp h2).2]
   rw[<-e2, <-e1,List.take_append_drop]
  have hz:Lt z:=hy.lt z (h.1 z (List.mem_of_getElem? h2))
  rw[eR,eR]
  congr 2
  have:=fI (a:=v.take k) (b:=v.drop (k+2)) (x:=x) (y:=z) hz e
  rw[<-ew]at this
  exact this.symm
theorem iK.ins {y w v:List Nat} {k x:Nat} (hy:Yd y) (h:iK y w v) (hx:x∈y) (hz:v.length<=10):iK y w (v.take k++[x]++[aX x]++v.drop k):=by
 refine ⟨fun c hc=>?_,?_,?_⟩
 ·rcases List.mem_append.mp hc with g | g
  ·rcases List.mem_append.mp g with g | g
   ·rcases List.mem_append.mp g with g | g
    ·exact h.1 c (List.mem_of_mem_take g)
    ·rw[List.mem_singleton.mp g];exact hx
   ·rw[List.mem_singleton.mp g];exact hy.cl x hx
  ·exact h.1 c (List.mem_of_mem_drop g)
 ·simp only[List.length_append,List.length_drop,List.length_take,List.length_cons,List.length_nil];omega
 ·rw[<-h.2.2,eR,eR]
  congr 2
  have:=fI (a:=v.take k) (b:=v.drop k) (x:=x) (y:=aX x) (hy.lt _ (hy.cl x hx)) (bA (hy.lt x hx)).symm
  rw[List.take_append_drop]at this
  rw[<-this]
  congr 1
  simp
theorem dq.tup {H:Hp} {a:Addr} {e:dJ} (h:dq H a e): ∃xs,H a=some (.tup xs):=by cases e<;>exact ⟨_,h⟩
theorem Dy (n:Nat):(List.replicate n true).all id=true:=by induction n with
 | zero=>rfl
 | succ n ih=>rw[List.replicate_succ,List.all_cons,ih];rfl
theorem Bf (n:Nat):(List.replicate n true).map V.bl++[V.bl true]=(List.replicate (n+1) true).map V.bl:=by rw[List.replicate_succ',List.map_append];rfl
theorem Dz {dl:List Dd} {k:Nat} {x:Dd} (h:dl[k]? =some x):(dl.map Dd.e).drop k=x.e::(dl.map Dd.e).drop (k+1):=by
 obtain ⟨hk,uJ⟩:=List.getElem?_eq_some_iff.mp h
 rw[List.drop_eq_getElem_cons (by rw[List.length_map];exact hk),List.getElem_map,uJ]
theorem wN {dl:List Dd} {k:Nat} {x:V} (h:(dM dl)[k]? =some x): ∃x',dl[k]? =some x'/\x=V.ref x'.a:=by
 unfold dM at h
 rw[List.getElem?_map]at h
 obtain ⟨x',h1,h2⟩:=Option.map_eq_some_iff.mp h
 exact ⟨x',h1,h2.symm⟩
noncomputable def top (i:Nat):Stmt:=PySem.Challenge.pw_mustmeet_k23_roads_from_drawing_to_drawi.main.body.getD i (.Pass ⟨0,0,0,0⟩)
noncomputable abbrev eu:Stmt:=top 4
noncomputable abbrev iW:Stmt:=top 6
noncomputable abbrev eA:Stmt:=top 8
noncomputable abbrev ft:Stmt:=top 9
noncomputable abbrev gs:Stmt:=top 10
noncomputable abbrev iX:Stmt:=top 11
noncomputable abbrev fu:Stmt:=top 12
noncomputable abbrev fz:Stmt:=top 13
noncomputable abbrev kE:Stmt:=top 14
noncomputable abbrev dA:Stmt:=top 16
noncomputable abbrev eB:Stmt:=top 17
noncomputable abbrev kF:Stmt:=top 18
noncomputable abbrev fA:Stmt:=top 19
noncomputable abbrev dB:Stmt:=top 21
noncomputable abbrev eE:Stmt:=top 22
noncomputable abbrev gu:Stmt:=top 23
noncomputable abbrev b_:Stmt:=top 24
noncomputable abbrev dD:Stmt:=top 25
noncomputable abbrev cU:Stmt:=top 26
noncomputable abbrev cV:Stmt:=top 27
noncomputable abbrev kG:Stmt:=top 28
noncomputable abbrev kH:Stmt:=top 30
noncomputable abbrev iY:Stmt:=top 31
noncomputable abbrev gv:Stmt:=top 32
noncomputable abbrev iZ:Stmt:=top 33
noncomputable abbrev i0:Stmt:=top 34
noncomputable abbrev gz:Stmt:=top 35
noncomputable abbrev gA:Stmt:=top 36
noncomputable abbrev eF:Stmt:=top 37
noncomputable abbrev gB:Stmt:=top 38
noncomputable abbrev fB:Stmt:=top 39
noncomputable abbrev i4:Stmt:=top 40
noncomputable abbrev i5:Stmt:=top 41
noncomputable abbrev i6:Stmt:=top 42
noncomputable abbrev gC:Stmt:=top 43
noncomputable abbrev pP:Stmt:=top 44
structure bF (K:PySem.W.Frag) (mg:Str->Option Value) (x:Str) (st:Stmt) (ps:List Str) (f:Addr) (fd:FuncData):Prop where
 fn:Iy K x x st f fd
 mg:mg x=some (.ref f)
 bd:Binds K fd ps []
structure Txt (K:PySem.W.Frag) (mg:Str->Option Value) (f0 f1 f2 f3 f4 f5 f6 f7 f8 f9 ED EE EF EG EH EI EJ EK EL EM EN EO ER ES ET EU EV EW EX EY EZ E1 E2 E3 E4 E5:Addr) (d0 d1 d2 d3 d4 d5 d6 d7 d8 d9 M7 M8 M9 M_ Na Nb Nd Nf Ng Nh Ni Nj Nk Nl Nm Nn Np Nq Nr Nt Nu Nv Nw Ny Nz NA:FuncData):Prop where
 F0:bF K mg "contrary" eu ["letter"] f0 d0
 F1:bF K mg "bands" iW ["yard"] f1 d1
 F2:bF K mg "renumber" eA ["orders","cord","places"] f2 d2
 F3:bF K mg "do_swap" ft ["orders","band","number"] f3 d3
 F4:bF K mg "do_out" gs ["words","orders","cord","place"] f4 d4
 F5:bF K mg "do_in" iX ["words","orders","cord","place","letter","number"] f5 d5
 F6:bF K mg "do_turn" fu ["words","orders","cord"] f6 d6
 F7:bF K mg "do_deed" fz ["yard","words","orders","deed"] f7 d7
 F8:bF K mg "done" kE ["yard","drawing","deeds"] f8 d8
 F9:bF K mg "shortened" dA ["word"] f9 d9
 qU:bF K mg "shortest" eB ["word"] ED M7
 BP:bF K mg "ring" kF ["word"] EE M8
 Hd:bF K mg "are_one" fA ["one","other"] EF M9
 BQ:bF K mg "pairs_out" dB ["word"] EG M_
 He:bF K mg "way_down" eE ["cord","word"] EH Na
 Hf:bF K mg "way_up" gu ["cord","word"] EI Nb
 Hg:bF K mg "turns_between" b_ ["one","other"] EJ Nd
 Hh:bF K mg "word_road" dD ["cord","one","other"] EK Nf
 Hi:bF K mg "order_road" cU ["band","one","other"] EL Ng
 Hj:bF K mg "same_cords" cV ["one","other"] EM Nh
 BR:bF K mg "road" kG ["yard","one","other"] EN Ni
 ub:bF K mg "_law_box" kH ["_law_script","_law_k"] EO Nj
 fO:bF K mg "_law_take" iY ["_law_box_here","_law_many"] ER Nk
 lx:bF K mg "_law_other" gv ["_law_letter"] ES Nl
 Hk:bF K mg "_law_yard" iZ ["_law_box_here","_law_few","_law_top"] ET Nm
 Hl:bF K mg "_law_word" i0 ["_law_box_here","_law_yard_here","_law_top"] EU Nn
 Hm:bF K mg "_law_order" gz ["_law_box_here","_law_things"] EV Np
 BS:bF K mg "_law_bands" gA ["_law_yard_here"] EW Nq
 BU:bF K mg "_law_drawing" eF ["_law_box_here","_law_yard_here","_law_words_here"] EX Nr
 Hn:bF K mg "_law_words" gB ["_law_box_here","_law_yard_here","_law_left"] EY Nt
 Ho:bF K mg "_law_opened" fB ["_law_drawing_here"] EZ Nu
 Hq:bF K mg "_law_shut" i4 ["_law_world"] E1 Nv
 Hr:bF K mg "_law_does" i5 ["_law_yard_here","_law_world","_law_deed"] E2 Nw
 Hs:bF K mg "_law_same" i6 ["_law_box_here","_law_yard_here","_law_words_here","_law_room"] E3 Ny
 yu:bF K mg "_law_leads" gC ["_law_yard_here","_law_one","_law_other_here"] E4 Nz
 NB:bF K mg "law" pP ["_law_script"] E5 NA
 z_all:mg "all"=none
 z_enumerate:mg "enumerate"=none
 z_int:mg "int"=none
 z_isinstance:mg "isinstance"=none
 z_len:mg "len"=none
 z_list:mg "list"=none
 z_max:mg "max"=none
 z_min:mg "min"=none
 z_range:mg "range"=none
 z_reversed:mg "reversed"=none
 z_sorted:mg "sorted"=none
 z_tuple:mg "tuple"=none
 z_zip:mg "zip"=none
theorem tV:aL ["letter"] ["letter"] (ak eu):=⟨rfl,rfl,rfl,by decide+kernel,rfl,by decide+kernel,by decide+kernel⟩
theorem Bg:aL ["yard"] ["yard"] (ak iW):=⟨rfl,rfl,rfl,by decide+kernel,rfl,by decide+kernel,by decide+kernel⟩
theorem fU:aL ["orders","cord","places","band","kept","strand"] ["orders","cord","places"] (ak eA):=⟨rfl,rfl,rfl,by decide+kernel,rfl,by decide+kernel,by decide+kernel⟩
theorem jy:aL ["orders","band","number","order","strand"] ["orders","band","number"] (ak ft):=⟨rfl,rfl,rfl,by decide+kernel,rfl,by decide+kernel,by decide+kernel⟩
theorem pQ:aL ["words","orders","cord","place","word"] ["words","orders","cord","place"] (ak gs):=⟨rfl,rfl,rfl,by decide+kernel,rfl,by decide+kernel,by decide+kernel⟩
theorem nJ:aL ["words","orders","cord","place","letter","number","word","order"] ["words","orders","cord","place","letter","number"] (ak iX):=⟨rfl,rfl,rfl,by decide+kernel,rfl,by decide+kernel,by decide+kernel⟩
theorem nK:aL ["words","orders","cord","word"] ["words","orders","cord"] (ak fu):=⟨rfl,rfl,rfl,by decide+kernel,rfl,by decide+kernel,by decide+kernel⟩
theorem vt:aL ["yard","words","orders","deed"] ["yard","words","orders","deed"] (ak fz):=⟨rfl,rfl,rfl,by decide+kernel,rfl,by decide+kernel,by decide+kernel⟩
theorem gR:aL ["yard","drawing","deeds","words","orders","band","order","number","deed"] ["yard","drawing","deeds"] (ak kE):=⟨rfl,rfl,rfl,by decide+kernel,rfl,by decide+kernel,by decide+kernel⟩
theorem gS:aL ["word","kept","letter"] ["word"] (ak dA):=⟨rfl,rfl,rfl,by decide+kernel,rfl,by decide+kernel,by decide+kernel⟩
theorem dE:aL ["word","left","start","end"] ["word"] (ak eB):=⟨rfl,rfl,rfl,by decide+kernel,rfl,by decide+kernel,by decide+kernel⟩
theorem i7:aL ["word","whole","least","start","begun"] ["word"] (ak kF):=⟨rfl,rfl,rfl,by decide+kernel,rfl,by decide+kernel,by decide+kernel⟩
theorem vv:aL ["one","other"] ["one","other"] (ak fA):=⟨rfl,rfl,rfl,by decide+kernel,rfl,by decide+kernel,by decide+kernel⟩
theorem cW:aL ["word","taken","place"] ["word"] (ak dB):=⟨rfl,rfl,rfl,by decide+kernel,rfl,by decide+kernel,by decide+kernel⟩
theorem fW:aL ["cord","word","deeds","size"] ["cord","word"] (ak eE):=⟨rfl,rfl,rfl,by decide+kernel,rfl,by decide+kernel,by decide+kernel⟩
theorem gD:aL ["cord","word","deeds","left","letter","pair"] ["cord","word"] (ak gu):=⟨rfl,rfl,rfl,by decide+kernel,rfl,by decide+kernel,by decide+kernel⟩
theorem eG:aL ["one","other","turns"] ["one","other"] (ak b_):=⟨rfl,rfl,rfl,by decide+kernel,rfl,by decide+kernel,by decide+kernel⟩
theorem ka:aL ["cord","one","other","turns"] ["cord","one","other"] (ak dD):=⟨rfl,rfl,rfl,by decide+kernel,rfl,by decide+kernel,by decide+kernel⟩
theorem cq:aL ["band","one","other","deeds","order","number","strand","place","back"] ["band","one","other"] (ak cU):=⟨rfl,rfl,rfl,by decide+kernel,rfl,by decide+kernel,by decide+kernel⟩
theorem ou:aL ["one","other"] ["one","other"] (ak cV):=⟨rfl,rfl,rfl,by decide+kernel,rfl,by decide+kernel,by decide+kernel⟩
theorem gT:aL ["yard","one","other","deeds","cord","word","between","number","band"] ["yard","one","other"] (ak kG):=⟨rfl,rfl,rfl,by decide+kernel,rfl,by decide+kernel,by decide+kernel⟩
theorem kc:aL ["_law_script","_law_k","_law_cell","_law_seed"] ["_law_script","_law_k"] (ak kH):=⟨rfl,rfl,rfl,by decide+kernel,rfl,by decide+kernel,by decide+kernel⟩
theorem nL:aL ["_law_box_here","_law_many","_law_digit","_law_one"] ["_law_box_here","_law_many"] (ak iY):=⟨rfl,rfl,rfl,by decide+kernel,rfl,by decide+kernel,by decide+kernel⟩
theorem kJ:aL ["_law_letter","_law_small","_law_capital"] ["_law_letter"] (ak gv):=⟨rfl,rfl,rfl,by decide+kernel,rfl,by decide+kernel,by decide+kernel⟩
theorem eV:aL ["_law_box_here","_law_few","_law_top","_law_left","_law_ends","_law_k","_law_letter","_law_found"] ["_law_box_here","_law_few","_law_top"] (ak iZ):=⟨rfl,rfl,rfl,by decide+kernel,rfl,by decide+kernel,by decide+kernel⟩
theorem Bh:aL ["_law_box_here","_law_yard_here","_law_top"] ["_law_box_here","_law_yard_here","_law_top"] (ak i0):=⟨rfl,rfl,rfl,by decide+kernel,rfl,by decide+kernel,by decide+kernel⟩
theorem kK:aL ["_law_box_here","_law_things","_law_left","_law_found"] ["_law_box_here","_law_things"] (ak gz):=⟨rfl,rfl,rfl,by decide+kernel,rfl,by decide+kernel,by decide+kernel⟩
theorem yv:aL ["_law_yard_here"] ["_law_yard_here"] (ak gA):=⟨rfl,rfl,rfl,by decide+kernel,rfl,by decide+kernel,by decide+kernel⟩
theorem dF:aL ["_law_box_here","_law_yard_here","_law_words_here","_law_orders","_law_band","_law_some","_law_c","_law_word_here"] ["_law_box_here","_law_yard_here","_law_words_here"] (ak eF):=⟨rfl,rfl,rfl,by decide+kernel,rfl,by decide+kernel,by decide+kernel⟩
theorem gE:aL ["_law_box_here","_law_yard_here","_law_left","_law_found","_law_k","_law_word_here"] ["_law_box_here","_law_yard_here","_law_left"] (ak gB):=⟨rfl,rfl,rfl,by decide+kernel,rfl,by decide+kernel,by decide+kernel⟩
theorem du:aL ["_law_drawing_here","_law_number","_law_words_here","_law_c","_law_word_here","_law_i","_law_letter"] ["_law_drawing_here"] (ak fB):=⟨rfl,rfl,rfl,by decide+kernel,rfl,by decide+kernel,by decide+kernel⟩
theorem eX:aL ["_law_world","_law_strand","_law_c","_law_word_here","_law_i","_law_letter","_law_number","_law_words_here"] ["_law_world"] (ak i4):=⟨rfl,rfl,rfl,by decide+kernel,rfl,by decide+kernel,by decide+kernel⟩
theorem cQ:aL ["_law_yard_here","_law_world","_law_deed","_law_names","_law_words_here","_law_orders","_law_order_here","_law_word_here","_law_turn","_law_number","_law_step","_law_letter"] ["_law_yard_here","_law_world","_law_deed"] (ak i5):=⟨rfl,rfl,rfl,by decide+kernel,rfl,by decide+kernel,by decide+kernel⟩
theorem cn:aL ["_law_box_here","_law_yard_here","_law_words_here","_law_room","_law_found","_law_word_here","_law_turn","_law_at","_law_x","_law_pairs","_law_form","_law_k"] ["_law_box_here","_law_yard_here","_law_words_here","_law_room"] (ak i6):=⟨rfl,rfl,rfl,by decide+kernel,rfl,by decide+kernel,by decide+kernel⟩
theorem i8:aL ["_law_yard_here","_law_one","_law_other_here","_law_found","_law_world","_law_deed"] ["_law_yard_here","_law_one","_law_other_here"] (ak gC):=⟨rfl,rfl,rfl,by decide+kernel,rfl,by decide+kernel,by decide+kernel⟩
theorem iL:aL ["_law_script","_law_box_here","_law_yard_here","_law_wide","_law_words_here","_law_one","_law_others","_law_other_here"] ["_law_script"] (ak pP):=⟨rfl,rfl,rfl,by decide+kernel,rfl,by decide+kernel,by decide+kernel⟩
section
variable {P:Program} {w:World} {K:PySem.W.Frag} {mg:Str->Option Value} {base:Heap} {f0 f1 f2 f3 f4 f5 f6 f7 f8 f9 ED EE EF EG EH EI EJ EK EL EM EN EO ER ES ET EU EV EW EX EY EZ E1 E2 E3 E4 E5:Addr} {d0 d1 d2 d3 d4 d5 d6 d7 d8 d9 M7 M8 M9 M_ Na Nb Nd Nf Ng Nh Ni Nj Nk Nl Nm Nn Np Nq Nr Nt Nu Nv Nw Ny Nz NA:FuncData}
variable (T:Txt K mg f0 f1 f2 f3 f4 f5 f6 f7 f8 f9 ED EE EF EG EH EI EJ EK EL EM EN EO ER ES ET EU EV EW EX EY EZ E1 E2 E3 E4 E5 d0 d1 d2 d3 d4 d5 d6 d7 d8 d9 M7 M8 M9 M_ Na Nb Nd Nf Ng Nh Ni Nj Nk Nl Nm Nn Np Nq Nr Nt Nu Nv Nw Ny Nz NA)
include T
theorem Bi:cf P w K mg base gc 1 E1 Nv ["_law_world"] (tM K):=by
 refine T.Hq.fn.ok eX (fun vs H Q E h=>yk h) (fun dw A outer s H vs Q E hr h=>?_)
 refine ⟨_,(af (ar (i:=1) eX.nd rfl (Or.inr rfl) rZ)
   (af (bI PassesOwn.never rfl (iB K rfl rfl T.z_enumerate (aa (bV (cI hr) (pv 0) (cE [119,111,114,100,115] (by decide+kernel)) (fun _ _=>rfl)) ab)) (cS (n:=2) K rfl rfl (aR (ay (i:=2) eX.nd rfl (Or.inl rfl)) (aR (ay (i:=3) eX.nd rfl (Or.inl rfl)) cA))) (ai (bI PassesOwn.never rfl (iB K rfl rfl T.z_enumerate (aa (pv 3) ab)) (cS (n:=2) K rfl rfl (aR (ay (i:=4) eX.nd rfl (Or.inl rfl)) (aR (v_ (n:=2) K rfl rfl (aR (ay (i:=5) eX.nd rfl (Or.inl rfl)) (aR (ay (i:=6) eX.nd rfl (Or.inl rfl)) cA))) cA))) (ai (jT (cI hr) (pv 1) (pv 6) (bY (aa (pv 2) (aa (pv 4) ab))) rfl)))))
   (af (ar (i:=7) eX.nd rfl (Or.inl rfl) (aZ (bh K rfl) rfl T.z_tuple boot_tuple (aa (cg ["_law_word_here"] [none] (cO K rfl (bV (cI hr) (pv 0) (cE [119,111,114,100,115] (by decide+kernel)) (fun _ _=>rfl))) trivial (fun _ _ _ _=>(ay (i:=0) (by decide+kernel:List.Nodup (["_law_word_here"]:List Str)) rfl (Or.inl rfl))) (fun _ _ _ _=>fD) (fun _ _ _ _=>(aS K rfl PySem.F.plainAttrs_str PySem.F.slot_str_join PySem.F.type_str_join (jN K rfl) (cE [] (by decide+kernel)) (aa (cg ["_law_letter","_law_number"] [none,none] (cO K rfl (pv 0)) trivial (fun _ _ _ _=>(v_ (n:=2) K rfl rfl (aR (ay (i:=0) (by decide+kernel:List.Nodup (["_law_letter","_law_number"]:List Str)) rfl (Or.inl rfl)) (aR (ay (i:=1) (by decide+kernel:List.Nodup (["_law_letter","_law_number"]:List Str)) rfl (Or.inl rfl)) cA)))) (fun _ _ _ _=>fD) (fun _ _ _ _=>(pv 0))) ab)))) ab)))
   (ai (aD (bY (aa (pv 7) (aa (aZ (bh K rfl) rfl T.z_tuple boot_tuple (aa (cg ["_law_order_here","_law_strand"] [none,some 1] (cO K rfl (bV (cI hr) (pv 0) (cE [111,114,100,101,114,115] (by decide+kernel)) (fun _ _=>rfl))) ⟨⟨rfl,rfl,by first | exact .inl rfl | exact .inr rfl⟩,trivial⟩ (fun _ _ _ _=>(ay (i:=0) (by decide+kernel:List.Nodup (["_law_order_here","_law_strand"]:List Str)) rfl (Or.inl rfl))) (fun _ _ _ _=>fD) (fun _ _ _ _=>(aZ (bh K rfl) rfl T.z_tuple boot_tuple (aa (cg ["_law_number","_law_strand"] [none,some 1] (cO K rfl (pv 0)) ⟨⟨rfl,rfl,by first | exact .inl rfl | exact .inr rfl⟩,trivial⟩ (fun _ _ _ _=>(ay (i:=0) (by decide+kernel:List.Nodup (["_law_number","_law_strand"]:List Str)) rfl (Or.inl rfl))) (fun _ _ _ _=>fD) (fun _ _ _ _=>(bV (cI hr) (pv 1) (pv 0) (fun _ _=>rfl)))) ab)))) ab)) ab)))))))),?_⟩
 obtain ⟨y,d,wl,ol,Ws,Os,L,m,rfl,hy,IK,hw,hW,hg,hm,q⟩:=h
 have Di:=eS hy
 have hs:(100000:Nat)<sizeLine:=by decide
 have DA:=hg.ke
 have jn:=hg.iH
 (repeat (first | refine ⟨_,rfl,?_⟩ | refine ⟨_,_,rfl,rfl,?_⟩ | refine ⟨_,_,_,rfl,rfl,by first | assumption | omega,by assumption,?_⟩ | refine ⟨rfl,?_⟩ | refine And.intro (by first | decide | omega | assumption | exact Nat.le_of_ble_eq_true rfl | exact .inl ⟨by decide,by decide⟩ | exact .inr ⟨by decide,by decide⟩ | exact ⟨by decide,by decide⟩ | exact ⟨by omega,by omega⟩) ?_))
 intro sd Wn
 have s1:=ah.upd (o:=HO.dK []) Wn
 have Wo:upd H sd (HO.dK []) sd=some (HO.dK []):=ae
 generalize upd H sd (HO.dK [])=H1 at s1 Wo ⊢
 have P8:=s1 _ _ hw.dk
 have own:=hW.own
 have DB: ∀{a:Addr} {u:HO},H a=some u->a≠sd:=fun e=>aq e Wn
 have gw: ∀H',H' d=some (HO.dK (tK wl ol m))->df H' d (V.str (S dQ)) (some (.ref wl)):=fun H' e=>by rw[<-pL wl ol m];exact df.k (k:=kS dQ) e
 have go: ∀H',H' d=some (HO.dK (tK wl ol m))->df H' d (V.str (S dj)) (some (.ref ol)):=fun H' e=>by rw[<-nE wl ol m];exact df.k (k:=kS dj) e
 have yx:(oW Ws).length=Ws.length:=qM Ws
 have Qh:Ws.length<=4:=by rw[cP,yx]at DA;exact DA
 refine ⟨_,rfl,d,_,rfl,gw _ P8,wl,rfl,⟨_,aJ.of (s1 _ _ hw.wd)⟩,?_⟩
 refine iR (K:=K) (a:=wl) (xs:=jw Ws) (fun j σ H'=> ∃(kvs:List (Key×V)) (cv wv iv lv nv:Option V),σ=[some (.ref d),some (.ref sd),cv,wv,iv,lv,nv,none]/\H' sd=some (.dK kvs)/\nC ((oW Ws).take j) kvs H'/\kvs.length<=12*j/\aE sd H1 H')
  ⟨[],none,none,none,none,none,rfl,Wo,fun n p ⟨_,_,h,_⟩=>by simp at h,Nat.zero_le _,aE.refl _ _⟩ (fun j σ H' _ ⟨_,_,_,_,_,_,_,_,_,_,h⟩=>aJ.of (h _ _ (s1 _ _ hw.wd) (DB hw.wd))) ?_ ?_
 ·rintro j x σ H2 T hx ⟨kvs,cv,wv,iv,lv,nv,rfl,lD,gW,uJ,s2⟩ nT
  obtain ⟨c,hc,rfl⟩:=A7 hx
  have kD:=List.mem_of_getElem? hc
  have lL:(oW Ws)[j]? =some c.w:=by unfold oW;rw[List.getElem?_map,hc];rfl
  have hj:j<Ws.length:=(List.getElem?_eq_some_iff.mp hc).1
  have kB:c.ls.length<=12:=by
   have:=(jn _ (List.mem_map.mpr ⟨c.w,List.mem_of_getElem? lL,rfl⟩)).2
   rwa [List.length_map,Wc.qP]at this
  have YA:((oW Ws).take j).length=j:=by rw[List.length_take];omega
  refine ⟨T,_,rfl,aY.of ae,rfl,_,_,rfl,_,_,rfl,rfl,?_⟩
  have sT:=ah.upd (o:=HO.tup [.int j, .ref c.a]) nT
  have Wq:=sT _ _ lD
  have yQ:=gW.ts (aF.of sT)
  have s3:aE sd H1 (upd H2 T (HO.tup [.int j, .ref c.a])):=fun a u e z=>sT _ _ (s2 a u e z)
  generalize upd H2 T (HO.tup [.int j, .ref c.a])=H3 at Wq yQ s3 ⊢
  clear sT nT lD gW s2
  have Wr: ∀H',aE sd H1 H'->H' c.a=some (.lst (di c.ls)):=fun H' s=>s _ _ (s1 _ _ (hw.wc c kD)) (DB (hw.wc c kD))
  refine ⟨_,rfl,c.a,rfl,⟨_,aJ.of (Wr _ s3)⟩,?_⟩
  refine iR (K:=K) (a:=c.a) (xs:=di c.ls) (fun k σ H'=> ∃(kvs:List (Key×V)) (iv lv nv:Option V),σ=[some (.ref d),some (.ref sd),some (.int j),some (.ref c.a),iv,lv,nv,none]/\H' sd=some (.dK kvs)/\nC ((oW Ws).take j++[c.w.take k]) kvs H'/\kvs.length<=12*j+k/\aE sd H1 H')
   ⟨kvs,iv,lv,nv,rfl,Wq,yQ.nil,by omega,s3⟩ (fun k σ H' _ ⟨_,_,_,_,_,_,_,_,h⟩=>aJ.of (Wr _ h)) ?_ ?_
  ·rintro k x σ H4 T2 hx ⟨Ht,YB,YC,YD,rfl,IL,wa,Wt,s4⟩ Hu
   obtain ⟨l,hl,rfl⟩:=A8 hx
   have hk:k<c.ls.length:=(List.getElem?_eq_some_iff.mp hl).1
   have BV:c.w[k]? =some (l.x,l.n):=by unfold Wc.w;rw[List.getElem?_map,hl];rfl
   have Hv:=hw.lc c kD l (List.mem_of_getElem? hl)
   have sT:=ah.upd (o:=HO.tup [.int k, .ref l.a]) Hu
   have K5:=sT _ _ IL
   have yS:=wa.ts (aF.of sT)
   have s5:aE sd H1 (upd H4 T2 (HO.tup [.int k, .ref l.a])):=fun a u e z=>sT _ _ (s4 a u e z)
   refine ⟨T2,_,rfl,aY.of ae,rfl,_,_,rfl,_,_,rfl,l.a,_,rfl,aJ.of (s5 _ _ (s1 _ _ Hv) (DB Hv)),rfl,_,_,rfl,_,_,rfl,rfl,rfl,?_⟩
   generalize upd H4 T2 (HO.tup [.int k, .ref l.a])=H5 at K5 yS s5 ⊢
   clear sT Hu IL wa s4
   refine ⟨_,rfl,_,rfl,by show 2<=sizeLine;decide,fun t nt=>?_⟩
   have s6:=ah.upd (o:=HO.tup [V.int j,V.int k]) nt
   refine ⟨_,rfl,_,rfl,sd,_,rfl,mB.k (k:=kI l.n) (s6 _ _ K5) (by omega),?_⟩
   have YE:aF (upd H5 t (HO.tup [V.int j,V.int k])) (upd (upd H5 t (HO.tup [V.int j,V.int k])) sd (.dK (putK Ht (kI l.n) (.ref t)))):=nF (s6 _ _ K5)
   have Wu:c.w.take (k+1)=c.w.take k++[(l.x,l.n)]:=by rw[List.take_succ,BV];rfl
   have YF:(c.w.take k).length=k:=by rw[List.length_take,Wc.qP];omega
   refine ⟨_,_,_,_,rfl,ae,?_,Nat.le_trans (fS _ _ _) (by omega),fun a u e z=>by rw[aj z];exact s6 _ _ (s5 a u e z)⟩
   rw[Wu]
   exact ((yS.ts (aF.of s6)).put (by rw[<-Wu];exact A6 own lL) (by rw[YA,YF];exact ae)).ts YE
  ·rintro σ H4 ⟨Ht,YB,YC,YD,rfl,IL,wa,Wt,s4⟩
   rw[eN]at wa Wt
   refine ⟨Ht,_,_,_,_,_,rfl,IL,?_,by omega,s4⟩
   rw[<-Wc.qP,List.take_length]at wa
   rw[List.take_succ,lL]
   exact wa
 ·rintro σ H2 ⟨kvs,cv,wv,iv,lv,nv,rfl,lD,gW,uJ,s2⟩
  rw[fT, <-yx,List.take_length]at gW
  have K6:ah H H2:=fun a u e=>s2 _ _ (s1 _ _ e) (DB e)
  have hd2:=K6 _ _ hw.dk
  refine ⟨_,rfl,d,_,rfl,gw _ hd2,wl,rfl,⟨_,aJ.of (K6 _ _ hw.wd)⟩,?_⟩
  refine fk (K:=K) (a:=wl) (xs:=jw Ws) (fun i acc H'=>acc=cD ((lets (oW Ws)).take i)/\ah H2 H') (by rw[fT];omega) (fun i acc H' ⟨_,h⟩=>aJ.of (h _ _ (K6 _ _ hw.wd))) ⟨rfl,ah.refl _⟩ ?_ ?_
  ·rintro i x acc H3 Nx hi hx iM ⟨rfl,s3⟩ nx
   obtain ⟨c,hc,rfl⟩:=A7 hx
   have kD:=List.mem_of_getElem? hc
   have lL:(oW Ws)[i]? =some c.w:=by unfold oW;rw[List.getElem?_map,hc];rfl
   have kB:(lets (oW Ws))[i]? =some (c.w.map Prod.fst):=by unfold lets;rw[List.getElem?_map,lL];rfl
   have hz:=(jn _ (List.mem_of_getElem? kB)).2
   have Eo:c.ls.length<=12:=by rwa [List.length_map,Wc.qP]at hz
   have K7:=K6.trans s3
   refine ⟨trivial,eK ?_⟩
   refine ⟨rfl,_,rfl,c.a,rfl,⟨_,aJ.of (K7 _ _ (hw.wc c kD))⟩,?_⟩
   refine fk (K:=K) (a:=c.a) (xs:=di c.ls) (fun k acc H'=>acc=bX ((c.w.map Prod.fst).take k)/\H'=H3) (by rw[eN];omega) (fun k acc H' ⟨_,e⟩=>by rw[e];exact aJ.of (K7 _ _ (hw.wc c kD))) ⟨rfl,rfl⟩ ?_ ?_
   ·rintro k x acc H4 Nx4 hk hx K8 ⟨rfl,rfl⟩ YG
    obtain ⟨l,hl,rfl⟩:=A8 hx
    have BV:(c.w.map Prod.fst)[k]? =some l.x:=by unfold Wc.w;rw[List.map_map,List.getElem?_map,hl];rfl
    refine ⟨l.a,_,rfl,aJ.of (K7 _ _ (hw.lc c kD l (List.mem_of_getElem? hl))),rfl,_,_,rfl,_,_,rfl,rfl,⟨trivial,eK ?_⟩⟩
    exact ⟨_,rfl,YG _ _ (by simpa using K8) ⟨yp _ _ _ BV,rfl⟩⟩
   ·rintro acc H4 D K8 ⟨rfl,rfl⟩ hD
    rw[eN, <-Wc.qP, <-List.length_map (f:=Prod.fst),List.take_length]
    refine ⟨D,(c.w.map Prod.fst).map fun c=>[c],rfl,rfl,aJ.of ?_,?_,?_⟩
    ·rw[ae, <-fq]
    ·rw[Ak];omega
    ·rw[sH]
     exact nx _ _ (by simpa using iM) ⟨yo _ _ _ kB,s3.trans (ah.upd hD)⟩
  ·rintro acc H3 D iM ⟨rfl,s3⟩ hD
   rw[fT, <-yx, <-cP,List.take_length]
   refine ⟨D,_,rfl, .inl ⟨aJ.of ae,fun tw NC=>?_⟩⟩
   have s4:=(s3.trans (ah.upd (o:= .lst (cD (lets (oW Ws)))) hD)).trans (ah.upd (o:= .tup (cD (lets (oW Ws)))) NC)
   have K9:upd (upd H3 D (.lst (cD (lets (oW Ws))))) tw (.tup (cD (lets (oW Ws)))) tw=some (.tup (cD (lets (oW Ws)))):=ae
   generalize upd (upd H3 D (.lst (cD (lets (oW Ws))))) tw (.tup (cD (lets (oW Ws))))=H4 at s4 K9 ⊢
   clear s3 hD NC
   have DC:=K6.trans s4
   have tW:=DC _ _ hw.dk
   have IL:=s4 _ _ lD
   have wa:=gW.ts (aF.of s4)
   have BW:Os.length=L.length:=by have:=hW.ln;unfold oO at this;rwa [List.length_map]at this
   refine ⟨_,rfl,_,rfl,d,_,rfl,go _ tW,ol,rfl,⟨_,aJ.of (DC _ _ hw.od)⟩,?_⟩
   refine fk (K:=K) (a:=ol) (xs:=h_ Os) (fun i acc H'=>ah H4 H'/\ ∃oo:List Od,acc=kU oo/\(∀o∈oo,jb H' o)/\oo.map br=L.take i) (by rw[qO,BW,hg.ln];omega) (fun i acc H' ⟨h,_⟩=>aJ.of (h _ _ (DC _ _ hw.od))) ⟨ah.refl _,[],rfl,fun _ h=>absurd h List.not_mem_nil,rfl⟩ ?_ ?_
   ·rintro i x acc H5 Nx hi hx iM ⟨s5,oo,rfl,y7,q_⟩ nx
    obtain ⟨o,ho,rfl⟩:=A9 hx
    have hV:=List.mem_of_getElem? ho
    have YH:i<L.length:=by rw[<-BW];exact (List.getElem?_eq_some_iff.mp ho).1
    have E6:L[i]? =some L[i]:=List.getElem?_eq_getElem YH
    generalize L[i]=l at E6
    have al:=hW.al i o.ns l (by unfold oO;rw[List.getElem?_map,ho];rfl) E6
    have K_:=hg.G8 E6
    have YI:=hg.small E6
    have IM:=al.len
    have Hw:=DC.trans s5
    have K5:=s5 _ _ IL
    have yS:=wa.ts (aF.of s5)
    refine ⟨⟨rfl,trivial⟩,eK ?_⟩
    refine ⟨_,rfl,o.a,rfl,⟨_,aJ.of (Hw _ _ (hw.oc o hV))⟩,?_⟩
    refine fk (K:=K) (a:=o.a) (xs:=fQ o.ns) (fun k acc H'=>H'=H5/\ ∃ps:List Pr,acc=cL ps/\(∀p∈ps,fK H5 p)/\ps.map Pr.pair=l.take k) (by rw[fb];omega) (fun k acc H' ⟨e,_⟩=>by rw[e];exact aJ.of (Hw _ _ (hw.oc o hV))) ⟨rfl,[],rfl,fun _ h=>absurd h List.not_mem_nil,rfl⟩ ?_ ?_
    ·rintro k x acc H6 YJ hk hx Bj ⟨rfl,ps,rfl,tX,lz⟩ Qi
     rw[fb]at hk
     have CD:x=V.int (o.ns[k]:Nat):=by
      unfold fQ at hx
      rw[List.getElem?_map,List.getElem?_eq_getElem hk]at hx
      exact (Option.some.inj hx).symm
     subst CD
     have BV:l[k]? =some l[k]:=List.getElem?_eq_getElem (by omega)
     have hr:=al.at (List.getElem?_eq_getElem hk) BV
     obtain ⟨t,e1,e2⟩:=yS _ _ hr
     obtain ⟨z1,z2⟩:=YI _ (List.mem_of_getElem? BV)
     generalize l[k]=pp at BV e2 z1 z2
     refine ⟨⟨rfl,trivial⟩,eK ?_⟩
     refine ⟨_,rfl,_,rfl,sd,_,rfl,by rw[<-e1];exact df.k (k:=kI o.ns[k]) K5,?_⟩
     refine Qi _ _ (by simpa using Bj) ⟨rfl,ps++[⟨t,pp.1,pp.2⟩],j0 ps ⟨t,pp.1,pp.2⟩,fun p hp=>?_,by rw[List.map_append,lz,List.take_succ,BV];rfl⟩
     rcases List.mem_append.mp hp with g | g
     ·exact tX p g
     ·rw[List.mem_singleton.mp g];exact ⟨e2,z1,z2⟩
    ·rintro acc H6 D Bj ⟨rfl,ps,rfl,tX,lz⟩ hD
     rw[fb,IM,List.take_length]at lz
     refine ⟨D,_,rfl, .inl ⟨aJ.of ae,fun t nt=>?_⟩⟩
     have s7:=(ah.upd (o:= .lst (cL ps)) hD).trans (ah.upd (o:= .tup (cL ps)) nt)
     refine nx _ _ (by simpa using iM) ⟨s5.trans s7,oo++[⟨t,ps⟩],mV oo ⟨t,ps⟩,fun o' gG=>?_,?_⟩
     ·rcases List.mem_append.mp gG with g | g
      ·exact (y7 o' g).same s7
      ·rw[List.mem_singleton.mp g]
       refine ⟨ae,fun p hp=>(tX p hp).same s7,?_⟩
       have:=congrArg List.length lz
       rw[List.length_map]at this
       show ps.length<=100
       omega
     ·rw[List.map_append,q_,List.take_succ,E6]
      show _++[br ⟨t,ps⟩]=_
      unfold br
      rw[lz];rfl
   ·rintro acc H5 D iM ⟨s5,oo,rfl,y7,q_⟩ hD
    rw[qO,BW,List.take_length]at q_
    refine ⟨D,_,rfl, .inl ⟨aJ.of ae,fun t nt=>?_⟩⟩
    refine ⟨by show 2<=sizeLine;decide,fun Ez Bk=>?_⟩
    have sA:=(ah.upd (o:= .lst (kU oo)) hD).trans ((ah.upd (o:= .tup (kU oo)) nt).trans (ah.upd (o:= .tup [.ref tw, .ref t]) Bk))
    have La:t≠Ez:=fun z=>by rw[<-z,ae]at Bk;cases Bk
    exact q Ez oo _ ⟨⟨tw,t,ae,sA _ _ (s5 _ _ K9),by rw[aj La,ae]⟩,fun o ho=>(y7 o ho).same sA⟩ q_ ((DC.trans s5).trans sA)
theorem dG:cf P w K mg base gc 1 f0 d0 ["letter"] (kQ K):=by
 refine T.F0.fn.ok tV (fun vs H Q E h=>qw h) (fun dw A outer s H vs Q E hr h=>?_)
 refine ⟨_,(af (bE (ib (fR K rfl PySem.F.plainAttrs_str PySem.F.slot_str_islower PySem.F.type_str_islower mh (pv 0))) (ai (aD (fR K rfl PySem.F.plainAttrs_str PySem.F.slot_str_upper PySem.F.type_str_upper zK (pv 0)))) a_)
   (ai (aD (fR K rfl PySem.F.plainAttrs_str PySem.F.slot_str_lower PySem.F.type_str_lower jL (pv 0))))),?_⟩
 obtain ⟨c,rfl,hc,q⟩:=h
 refine ⟨_,rfl,rfl,c,rfl,rfl,hc,_,rfl,dH (fun e=>?_) (fun e=>?_)⟩
 ·refine ⟨_,rfl,rfl,c,rfl,rfl,hc,?_⟩
  have z:aX c=PyProof.Rows.up1 c:=if_pos e
  rw[<-z]
  exact q
 ·refine ⟨_,rfl,rfl,c,rfl,rfl,hc,?_⟩
  have z:aX c=PyProof.Rows.lo1 c:=if_neg e
  rw[<-z]
  exact q
theorem kd:cf P w K mg base gc 2 EG M_ ["word"] (j7 K):=by
 have bT:=dG (P:=P) (w:=w) (base:=base) T
 refine T.BQ.fn.ok cW (fun vs H Q E h=>oh h) (fun dw A outer s H vs Q E hr h=>?_)
 refine ⟨_,(af (ar (i:=1) cW.nd rfl (Or.inl rfl) (bC ab))
   (af (ar (i:=2) cW.nd rfl (Or.inl rfl) ag)
   (af (fm PassesOwn.never (aH lW (pv 2) (aB cB (ax bg rfl T.z_len PySem.boot_len (aa (pv 0) ab)) ag) (bb _)) (ai (bE (aH dY (au kq (pv 0) (aB bB (pv 2) ag) (fun _ _=>rfl)) (ao bT (hr.mono (by decide)) rfl T.F0.mg T.F0.fn.kp T.F0.bd .nil aC (aa (au kq (pv 0) (pv 2) (fun _ _=>rfl)) ab)) (bb _)) (af (ba (aS K rfl PySem.F.plainAttrs_list PySem.F.slot_list_append PySem.F.type_list_append bu (pv 1) (aa (bY (aa (pv 2) (aa (au kq (pv 0) (pv 2) (fun _ _=>rfl)) ab))) ab)))
   (af (ar (i:=0) cW.nd rfl (Or.inl rfl) (aB cJ (bj gk (pv 0) bG (bw (pv 2))) (bj gk (pv 0) (bw (aB bB (pv 2) ag)) bG)))
   (ai (ar (i:=2) cW.nd rfl (Or.inl rfl) (ax (xh rfl) rfl T.z_max boot_max (aa (aB cB (pv 2) ag) (aa ag ab))))))) (ai (lT (i:=2) cW.nd rfl (Or.inl rfl) ag ug)))))
   (ai (aD (pv 1)))))),?_⟩
 obtain ⟨w,rfl,hw,hz,q⟩:=h
 have hs:(100000:Nat)<sizeLine:=by decide
 (repeat (first | refine ⟨_,rfl,?_⟩ | refine ⟨_,_,rfl,rfl,?_⟩ | refine ⟨_,_,_,rfl,rfl,by first | assumption | omega,by assumption,?_⟩ | refine ⟨rfl,?_⟩ | refine And.intro (by first | decide | omega | assumption | exact Nat.le_of_ble_eq_true rfl | exact .inl ⟨by decide,by decide⟩ | exact .inr ⟨by decide,by decide⟩ | exact ⟨by decide,by decide⟩ | exact ⟨by omega,by omega⟩) ?_))
 intro t nt
 have s1:=ah.upd (o:=HO.lst []) nt
 have Hx:upd H t (HO.lst []) t=some (HO.lst []):=ae
 generalize upd H t (HO.lst [])=H1 at s1 Hx ⊢
 refine ⟨fun m σ H'=> ∃(u:List Nat) (p:Nat) (ps:List Pq),σ=[some (.str (S u)),some (.ref t),some (.int p)]/\m=2*u.length+1 - p/\p<=u.length/\(∀k,k<p-> ¬Spot u k)/\hZ w (ps.map Pq.pr) u/\H' t=some (.lst (pI ps))/\(∀p∈ps,G3 H' p)/\ah H H',
  ⟨_,w,0,[],rfl,rfl,Nat.zero_le _,fun k hk=>by omega, .nil,Hx,fun _ h=>absurd h List.not_mem_nil,s1⟩,?_⟩
 rintro m σ H2 ⟨u,p,ps,rfl,rfl,hp,Dn,ho,BX,tX,s2⟩
 have E7:=ho.len
 have Qj:=ho.mem
 have Lb: ∀c∈u,Lt c:=fun c hc=>hw c (Qj c hc)
 have IQ:u.length<=sizeLine:=by omega
 have jd:ps.length<=6:=by rw[List.length_map]at E7;omega
 refine ⟨_,rfl,_,rfl,u,rfl,IQ,_,_,rfl,rfl,_,_,rfl,rfl,_,rfl,dH (fun z=>?_) (fun z=>?_)⟩
 ·have z1:(p:Int)<(u.length:Int) - 1:=of_decide_eq_true z
  have gb:p+1<u.length:=by omega
  have e0:u[p]? =some (u[p]'(by omega)):=List.getElem?_eq_getElem (by omega)
  have e1:u[p+1]? =some u[p+1]:=List.getElem?_eq_getElem gb
  generalize (u[p]'(by omega))=a at e0
  generalize u[p+1]=b at e1
  have ha:=Lb a (List.mem_of_getElem? e0)
  have hb:=Lb b (List.mem_of_getElem? e1)
  have ep:(p:Int)+1=((p+1:Nat):Int):=by omega
  refine ⟨_,rfl,_,rfl,_,_,rfl,rfl,u,_,_,rfl,rfl,IQ,by rw[ep];exact aQ e1,?_⟩
  refine ⟨_,rfl,_,rfl,u,_,_,rfl,rfl,IQ,aQ e0,a,rfl,ha.lt,[b],[aX a],rfl,rfl,_,rfl,dH (fun y=>?_) (fun y=>?_)⟩
  ·have ey:b=aX a:=by simpa using of_decide_eq_true y
   subst ey
   refine ⟨_,rfl, .inl ⟨rfl,_,aJ.of BX⟩,_,rfl,_,rfl,_,rfl,u,_,_,rfl,rfl,IQ,aQ e0,by show 2<=sizeLine;decide,fun t1 IS=>?_⟩
   have s3:=ah.upd (o:=HO.tup [V.int p,V.str (S [a])]) IS
   have IU:=s3 _ _ BX
   refine ⟨t,_,_,rfl,rfl,IU,by rw[lJ];omega,?_⟩
   rw[show pI ps++[V.ref t1]=pI (ps++[⟨t1,p,a⟩]) from AN ps ⟨t1,p,a⟩]
   have Ld: ∀x∈ps++[(⟨t1,p,a⟩:Pq)],G3 (upd (upd H2 t1 (HO.tup [V.int p,V.str (S [a])])) t (HO.lst (pI (ps++[⟨t1,p,a⟩])))) x:=fun x hx=>by
    have tU:=aF.hR (o:=HO.lst (pI (ps++[⟨t1,p,a⟩]))) IU
    rcases List.mem_append.mp hx with g | g
    ·exact tU _ _ (s3 _ _ (tX x g))
    ·rw[List.mem_singleton.mp g];exact tU _ _ ae
   have s4:ah H (upd (upd H2 t1 (HO.tup [V.int p,V.str (S [a])])) t (HO.lst (pI (ps++[⟨t1,p,a⟩])))):=fun x o ex=>by rw[aj (aq ex nt)];exact s3 _ _ (s2 _ _ ex)
   have ND:upd (upd H2 t1 (HO.tup [V.int p,V.str (S [a])])) t (HO.lst (pI (ps++[⟨t1,p,a⟩]))) t=_:=ae
   generalize upd (upd H2 t1 (HO.tup [V.int p,V.str (S [a])])) t (HO.lst (pI (ps++[⟨t1,p,a⟩])))=H4 at Ld s4 ND ⊢
   have Wv:(p:Int)+2=((p+2:Nat):Int):=by omega
   have hl:=qH e1
   refine ⟨_,rfl,_,rfl,_,rfl,u,rfl,IQ,_,rfl,_,rfl,_,_,rfl,rfl,_,rfl,u,rfl,IQ,_,_,rfl,rfl,?_,?_⟩
   ·rw[j5,Wv,cm, <-List.length_append];omega
   rw[j5,Wv,cm]
   refine ⟨_,rfl,_,_,rfl,rfl,_,_,rfl,?_⟩
   have em:(if (0:Int)>(p:Int) - 1 then (0:Int) else (p:Int) - 1)=((p - 1:Nat):Int):=by split<;>omega
   rw[em]
   refine ⟨_,?_,u.take p++u.drop (p+2),p - 1,ps++[⟨t1,p,a⟩],rfl,rfl,by omega,fun k hk sp=>?_,by rw[List.map_append];exact ho.snoc e0 e1,ND,Ld,s4⟩
   ·omega
   ·obtain ⟨c,d,g1,g2,g3⟩:=sp
    rw[List.getElem?_append_left (by rw[List.length_take];omega),List.getElem?_take,if_pos (by omega)]at g1 g2
    exact Dn k (by omega) ⟨c,d,g1,g2,g3⟩
  ·have ey:b≠aX a:=fun g=>y (decide_eq_true (by rw[g]))
   refine ⟨_,rfl,_,_,rfl,rfl,_,?_,u,p+1,ps,by rw[<-ep];rfl,rfl,by omega,fun k hk sp=>?_,ho,BX,tX,s2⟩
   ·omega
   ·rcases Nat.lt_or_ge k p with g | g
    ·exact Dn k g sp
    ·have:k=p:=by omega
     subst this
     obtain ⟨c,d,g1,g2,g3⟩:=sp
     rw[e0]at g1;rw[e1]at g2
     cases g1;cases g2
     exact ey (by rw[g3,bA hb])
 ·have z1: ¬(p:Int)<(u.length:Int) - 1:=fun g=>z (decide_eq_true g)
  have hu:red u=u:=C7 fun k sp=>by
   rcases Nat.lt_or_ge k p with g | g
   ·exact Dn k g sp
   ·obtain ⟨c,d,g1,g2,g3⟩:=sp
    have:=(List.getElem?_eq_some_iff.mp g2).1
    omega
  refine ⟨_,rfl,q t ps H2 nt BX tX ?_ s2⟩
  rw[<-ho.red hw,hu]
  exact ho
theorem gF:cf P w K mg base gc 1 ER Nk ["_law_box_here","_law_many"] (sx K):=by
 refine T.fO.fn.ok nL (fun vs H Q E h=>xW h) (fun dw A outer s H vs Q E hr h=>?_)
 refine ⟨_,(af (bE (aH oE (au (aP K rfl) (pv 0) ag (fun _ _=>rfl)) ag (bb _)) (af (ar (i:=2) nL.nd rfl (Or.inl rfl) (aB gJ (au (aP K rfl) (pv 0) ag (fun _ _=>rfl)) (pv 1)))
   (af (ij (aB pZ (au (aP K rfl) (pv 0) ag (fun _ _=>rfl)) (pv 1)) (ig (pv 0) ag set_list))
   (ai (aD (pv 2))))) a_)
   (af (ar (i:=3) nL.nd rfl (Or.inl rfl) (aB gJ (aB kh (au (aP K rfl) (pv 0) ag (fun _ _=>rfl)) ag) ag))
   (af (ij (aB bB (aB gJ (aB bB (aB kh (pv 3) ag) ag) ag) ag) (ig (pv 0) ag set_list))
   (ai (aD (aB gJ (aB pZ (aB bB (aB kh (pv 3) ag) (au (aP K rfl) (pv 0) ag (fun _ _=>rfl))) ag) (pv 1))))))),?_⟩
 obtain ⟨b,m,rfl,⟨x,y,hb⟩,h1,h2,q⟩:=h
 have fin: ∀(r x' y':Int),0<=r->r<m->Q (.int r) (upd H b (.lst [.int x', .int y'])):=fun r x' y' h3 h4=>by
  have e:r=((r.toNat:Nat):Int):=by omega
  rw[e]
  exact q r.toNat _ (by omega) ⟨x',y',ae⟩ (aE.upd b H _)
 refine ⟨_,rfl,b,_,0,_,rfl,rfl,aJ.of hb,rfl,_,_,rfl,rfl,_,rfl,dH (fun e=>?_) (fun e=>?_)⟩
 ·refine ⟨_,rfl,b,_,0,_,rfl,rfl,aJ.of hb,rfl,_,rfl,_,_,rfl,rfl,(by omega:0<m),?_⟩
  refine ⟨_,rfl,b,_,0,_,rfl,rfl,aJ.of hb,rfl,_,rfl,_,_,rfl,rfl,⟨by omega,by omega⟩,_,rfl,b,_,0,0,rfl,rfl,hb,rfl,_,rfl,?_⟩
  exact fin (x%m) (x / m) y (Int.emod_nonneg _ (by omega)) (Int.emod_lt_of_pos _ (by omega))
 ·refine ⟨_,rfl,b,_,1,_,rfl,rfl,aJ.of hb,rfl,_,_,rfl,rfl, .inr ⟨by decide,by decide⟩,_,_,rfl,rfl,(by decide:(0:Int)<2147483647),?_⟩
  refine ⟨_,rfl,_,_,rfl,rfl, .inr ⟨by decide,by decide⟩,_,_,rfl,rfl,_,_,rfl,rfl,(by decide:(0:Int)<2147483629),_,_,rfl,rfl,_,rfl,b,_,1,1,rfl,rfl,hb,rfl,?_⟩
  refine ⟨_,rfl,_,_,rfl,rfl, .inr ⟨by decide,by decide⟩,_,rfl,b,_,1,_,rfl,rfl,aJ.of ae,rfl,_,_,rfl,rfl,_,_,rfl,rfl,⟨by decide,by decide⟩,_,rfl,_,_,rfl,rfl,(by omega:0<m),?_⟩
  exact fin _ _ _ (Int.emod_nonneg _ (by omega)) (Int.emod_lt_of_pos _ (by omega))
theorem Bl:cf P w K mg base gc 2 EU Nn ["_law_box_here","_law_yard_here","_law_top"] (sG K):=by
 have bP:=gF (P:=P) (w:=w) (base:=base) T
 refine T.Hl.fn.ok Bh (fun vs H Q E h=>xY h) (fun dw A outer s H vs Q E hr h=>?_)
 refine ⟨_,(ai (aD (aS K rfl PySem.F.plainAttrs_str PySem.F.slot_str_join PySem.F.type_str_join (jN K rfl) (cE [] (by decide+kernel)) (aa (cg ["_law_k","_law_yard_here","_law_box_here"] [none,some 1,some 0] (fj rfl T.z_range (aa (ao bP (hr.mono (by decide)) rfl T.fO.mg T.fO.fn.kp T.fO.bd .nil aC (aa (pv 0) (aa (aB bB (pv 2) ag) ab))) ab)) ⟨⟨rfl,rfl,by first | exact .inl rfl | exact .inr rfl⟩,⟨⟨rfl,rfl,by first | exact .inl rfl | exact .inr rfl⟩,trivial⟩⟩ (fun _ _ _ _=>(ay (i:=0) (by decide+kernel:List.Nodup (["_law_k","_law_yard_here","_law_box_here"]:List Str)) rfl (Or.inl rfl))) (fun _ _ _ _=>fD) (fun _ _ _ _=>(au kq (pv 1) (ao bP (hr.mono (by decide)) rfl T.fO.mg T.fO.fn.kp T.fO.bd .nil aC (aa (pv 2) (aa (ax bg rfl T.z_len PySem.boot_len (aa (pv 1) ab)) ab))) (fun _ _=>rfl)))) ab)))),?_⟩
 obtain ⟨b,y,top,rfl,hb,hy,hyl,ht,q⟩:=h
 have hs:(100000:Nat)<sizeLine:=by decide
 (repeat (first | refine ⟨_,rfl,?_⟩ | refine ⟨_,_,rfl,rfl,?_⟩ | refine ⟨rfl,?_⟩ | refine And.intro (by first | decide | omega | assumption | exact Nat.le_of_ble_eq_true rfl | exact .inl ⟨by decide,by decide⟩ | exact .inr ⟨by decide,by decide⟩ | exact ⟨by decide,by decide⟩ | exact ⟨by omega,by omega⟩) ?_))
 refine ⟨b,_,rfl,hb,by omega,by omega,fun n H1 hn Le s1=>?_⟩
 (repeat (first | refine ⟨_,rfl,?_⟩ | refine ⟨_,_,rfl,rfl,?_⟩ | refine ⟨rfl,?_⟩ | refine And.intro (by first | decide | omega | assumption | exact Nat.le_of_ble_eq_true rfl | exact .inl ⟨by decide,by decide⟩ | exact .inr ⟨by decide,by decide⟩ | exact ⟨by decide,by decide⟩ | exact ⟨by omega,by omega⟩) ?_))
 refine rK (fun i acc H'=>bM H' b/\aE b H H'/\ ∃l:List Nat,acc=bX l/\l.length=i/\ ∀c∈l,c∈y) (by simp;omega) ⟨Le,s1,[],rfl,rfl,by simp⟩ ?_ ?_
 ·rintro i acc H2 Nx hi hl ⟨ja,s2,l,rfl,nQ,hm⟩ nx
  have YK:0<y.length:=List.length_pos_iff.mpr hy
  refine ⟨⟨rfl,rfl,trivial⟩,eK ?_⟩
  (repeat (first | refine ⟨_,rfl,?_⟩ | refine ⟨_,_,rfl,rfl,?_⟩ | refine ⟨rfl,?_⟩ | refine And.intro (by first | decide | omega | assumption | exact Nat.le_of_ble_eq_true rfl | exact .inl ⟨by decide,by decide⟩ | exact .inr ⟨by decide,by decide⟩ | exact ⟨by decide,by decide⟩ | exact ⟨by omega,by omega⟩) ?_))
  refine ⟨b,_,rfl,ja,by omega,by omega,fun r H3 Hy pR s3=>?_⟩
  have BY:r<y.length:=by omega
  refine ⟨y,_,y[r],rfl,rfl,by omega,aQ (List.getElem?_eq_getElem BY),?_⟩
  refine nx _ _ (by simpa using hl) ⟨pR,s2.trans s3,l++[y[r]],eP _ _,by simp[nQ],fun c hc=>?_⟩
  rcases List.mem_append.mp hc with z | z
  ·exact hm c z
  ·rw[List.mem_singleton.mp z];exact List.getElem_mem BY
 ·rintro acc H2 D hl ⟨ja,s2,l,rfl,nQ,hm⟩ hD
  have qV:l.length<=top:=by simp at nQ;omega
  refine ⟨D,l.map fun c=>[c],rfl,rfl,aJ.of ?_,?_,?_⟩
  ·rw[ae, <-fq]
  ·rw[Ak];omega
  ·rw[sH]
   exact q l _ hm qV (ja.same (ah.upd hD)) (s2.trans (aE.of (ah.upd hD)))
theorem yy:cf P w K mg base gc 3 EY Nt ["_law_box_here","_law_yard_here","_law_left"] (pN K):=by
 have bP:=gF (P:=P) (w:=w) (base:=base) T
 have DD:=Bl (P:=P) (w:=w) (base:=base) T
 refine T.Hn.fn.ok gE (fun vs H Q E h=>vp h) (fun dw A outer s H vs Q E hr h=>?_)
 refine ⟨_,(af (ar (i:=3) gE.nd rfl (Or.inl rfl) (bC ab))
   (af (bI PassesOwn.never rfl (fj rfl T.z_range (aa (ao bP (hr.mono (by decide)) rfl T.fO.mg T.fO.fn.kp T.fO.bd .nil aC (aa (pv 0) (aa ag ab))) ab)) (ay (i:=4) gE.nd rfl (Or.inl rfl)) (af (ar (i:=5) gE.nd rfl (Or.inl rfl) (ao DD (hr.mono (by decide)) rfl T.Hl.mg T.Hl.fn.kp T.Hl.bd .nil aC (aa (pv 0) (aa (pv 1) (aa (ax (xj rfl) rfl T.z_min boot_min (aa (pv 2) (aa (au (aP K rfl) (bC (aa ag (aa ag (aa ag ab)))) (ao bP (hr.mono (by decide)) rfl T.fO.mg T.fO.fn.kp T.fO.bd .nil aC (aa (pv 0) (aa ag ab))) (fun _ _=>rfl)) ab))) ab)))))
   (af (ar (i:=2) gE.nd rfl (Or.inl rfl) (aB cB (pv 2) (ax bg rfl T.z_len PySem.boot_len (aa (pv 5) ab))))
   (ai (ba (aS K rfl PySem.F.plainAttrs_list PySem.F.slot_list_append PySem.F.type_list_append bu (pv 3) (aa (pv 5) ab)))))))
   (ai (aD (aZ (bh K rfl) rfl T.z_tuple boot_tuple (aa (pv 3) ab)))))),?_⟩
 obtain ⟨b,y,YL,rfl,hb,IV,hz,Qk,q⟩:=h
 have hs:(100000:Nat)<sizeLine:=by decide
 (repeat (first | refine ⟨_,rfl,?_⟩ | refine ⟨_,_,rfl,rfl,?_⟩ | refine ⟨_,_,_,rfl,rfl,by first | assumption | omega,by assumption,?_⟩ | refine ⟨rfl,?_⟩ | refine And.intro (by first | decide | omega | assumption | exact Nat.le_of_ble_eq_true rfl | exact .inl ⟨by decide,by decide⟩ | exact .inr ⟨by decide,by decide⟩ | exact ⟨by decide,by decide⟩ | exact ⟨by omega,by omega⟩) ?_))
 intro p1 n1
 have ow:p1≠b:=hb.ne n1
 refine ⟨_,rfl,b,5,rfl,hb.same (ah.upd n1),by decide,by decide,fun n H1 hn Le s1=>?_⟩
 refine ⟨_,rfl,by omega,by omega,?_⟩
 refine gh (fun i σ H'=> ∃(ws:List (List Nat)) (lf:Nat) (kv wv:Option V),σ=[some (.ref b),some (.str (S y)),some (.int lf),some (.ref p1),kv,wv]/\H' p1=some (.lst (cD ws))/\ws.length=i/\(∀w∈ws,(∀c∈w,c∈y)/\w.length<=12)/\lf<=24/\bM H' b/\aE b H H')
  ⟨[],YL,none,none,rfl,s1 _ _ ae ow,rfl,fun _ h=>absurd h List.not_mem_nil,Qk,Le,(aE.of (ah.upd n1)).trans s1⟩ ?_ ?_
 ·rintro i σ H2 hi ⟨ws,lf,kv,wv,rfl,gb,nY,hw,YM,ja,s2⟩
  have hi5:i<4:=by omega
  refine ⟨_,rfl,_,rfl,_,rfl,by decide,fun p2 n2=>?_⟩
  have yA:p2≠b:=ja.ne n2
  refine ⟨_,rfl,b,3,rfl,ja.same (ah.upd n2),by decide,by decide,fun r H3 Hy pR s3=>?_⟩
  obtain ⟨v,hv,Lf⟩: ∃v:Nat,oK [V.int 3,V.int 6,V.int 12] ((r:Nat):Int)=some (V.int v)/\v<=12:=by
   have h3:r=0\/r=1\/r=2:=by omega
   rcases h3 with rfl | rfl | rfl
   ·exact ⟨3,aQ (xs:=[V.int 3,V.int 6,V.int 12]) (j:=0) rfl,by decide⟩
   ·exact ⟨6,aQ (xs:=[V.int 3,V.int 6,V.int 12]) (j:=1) rfl,by decide⟩
   ·exact ⟨12,aQ (xs:=[V.int 3,V.int 6,V.int 12]) (j:=2) rfl,by decide⟩
  refine ⟨p2,_,_,_,rfl,rfl,aJ.of (s3 _ _ ae yA),hv,_,_,rfl,?_⟩
  obtain ⟨top,ht,Hx,BX⟩: ∃top:Nat,(if (v:Int)<(lf:Int) then (v:Int) else (lf:Int))=(top:Int)/\top<=lf/\top<=12:=by
   split
   ·exact ⟨v,rfl,by omega,Lf⟩
   ·exact ⟨lf,rfl,Nat.le_refl _,by omega⟩
  rw[ht]
  refine ⟨b,y,top,rfl,pR,IV,by omega,by omega,fun w H4 NF vw yB s4=>?_⟩
  have Ww:aE b H2 H4:=((aE.of (ah.upd n2)).trans s3).trans s4
  have E8:=Ww _ _ gb ow
  refine ⟨_,rfl,_,rfl,w,rfl,by omega,_,_,rfl,rfl,?_⟩
  refine ⟨_,rfl, .inl ⟨rfl,_,aJ.of E8⟩,_,rfl,p1,_,_,rfl,rfl,E8,by rw[bt];omega,?_⟩
  rw[mH]
  have YN:((lf:Int) - (w.length:Int))=((lf - w.length:Nat):Int):=by omega
  refine ⟨ws++[w],lf - w.length,_,_,by rw[<-YN];rfl,ae,by simp[nY],fun u hu=>?_,by omega,yB.dm ow,(s2.trans Ww).dm n1⟩
  rcases List.mem_append.mp hu with z | z
  ·exact hw u z
  ·rw[List.mem_singleton.mp z];exact ⟨NF,by omega⟩
 ·rintro σ H2 ⟨ws,lf,kv,wv,rfl,gb,nY,hw,YM,ja,s2⟩
  refine ⟨_,rfl,p1,_,rfl, .inl ⟨aJ.of gb,fun t nt=>?_⟩⟩
  have y8:H t=none:=s2.none nt (ja.ne nt)
  exact q t ws _ y8 (hb.ne y8) ae ⟨by omega,hw⟩ (ja.dm (hb.ne y8)) (s2.dm y8)
theorem i9:cf P w K mg base gc 1 ES Nl ["_law_letter"] (o7 K):=by
 refine T.lx.fn.ok kJ (fun vs H Q E h=>uW h) (fun dw A outer s H vs Q E hr h=>?_)
 refine ⟨_,(af (ar (i:=1) kJ.nd rfl (Or.inl rfl) (cE [97,98,99,100,101,102,103,104,105,106,107,108,109,110,111,112,113,114,115,116,117,118,119,120,121,122] (by decide+kernel)))
   (af (ar (i:=2) kJ.nd rfl (Or.inl rfl) (cE [65,66,67,68,69,70,71,72,73,74,75,76,77,78,79,80,81,82,83,84,85,86,87,88,89,90] (by decide+kernel)))
   (af (bE (aH zJ (pv 0) (pv 1) (by with_unfolding_all rfl)) (ai (aD (au kq (pv 2) (aS K rfl PySem.F.plainAttrs_str PySem.F.slot_str_index PySem.F.type_str_index oQ (pv 1) (aa (pv 0) ab)) (fun _ _=>rfl)))) a_)
   (ai (aD (au kq (pv 1) (aS K rfl PySem.F.plainAttrs_str PySem.F.slot_str_index PySem.F.type_str_index oQ (pv 2) (aa (pv 0) ab)) (fun _ _=>rfl))))))),?_⟩
 obtain ⟨c,rfl,hc,q⟩:=h
 refine ⟨_,rfl,_,rfl,c,bp,rfl,rfl,_,rfl,dH (fun e=>?_) (fun e=>?_)⟩
 ·have hm:c∈bp:=of_decide_eq_true e
  exact ⟨_,rfl,_,rfl,rfl,_,rfl,bp,c,rfl,rfl,hm,kx,_,aX c,rfl,rfl,by decide,sr c hm,q⟩
 ·have hm:c∈kx:=hc.resolve_left fun z=>e (decide_eq_true z)
  exact ⟨_,rfl,_,rfl,rfl,_,rfl,kx,c,rfl,rfl,hm,bp,_,aX c,rfl,rfl,by decide,xV c hm,q⟩
theorem DE:cf P w K mg base gc 1 EO Nj ["_law_script","_law_k"] (we K):=by
 refine T.ub.fn.ok kc (fun vs H Q E h=>Aj h) (fun dw A outer s H vs Q E hr h=>?_)
 refine ⟨_,(af (ar (i:=2) kc.nd rfl (Or.inl rfl) (aB bB (aB kh ag (pv 1)) ag))
   (af (bE (aH lW (pv 1) (ax (aG K rfl) rfl T.z_len PySem.boot_len (aa (pv 0) ab)) (bb _)) (ai (ar (i:=2) kc.nd rfl (Or.inl rfl) (au (aP K rfl) (pv 0) (pv 1) (fun _ _=>rfl)))) (ai (bE (aH oE (ax (aG K rfl) rfl T.z_len PySem.boot_len (aa (pv 0) ab)) ag (bb _)) (ai (ar (i:=2) kc.nd rfl (Or.inl rfl) (aB bB (pv 2) (aB kh (aB gJ (au (aP K rfl) (pv 0) (aB gJ (pv 1) (ax (aG K rfl) rfl T.z_len PySem.boot_len (aa (pv 0) ab))) (fun _ _=>rfl)) ag) ag)))) a_)))
   (af (ar (i:=3) kc.nd rfl (Or.inl rfl) (aB gJ (aB zr (aB bB (aB bB (aB gJ (pv 2) ag) (aB kh ag (pv 1))) ag) ag) ag))
   (ai (aD (bC (aa (au (aP K rfl) (bC (aa ag (aa (pv 2) ab))) (aZ ki rfl T.z_int boot_int (aa (jE Eg (pv 2) (aB zr ag ag) (bb _)) ab)) (fun _ _=>rfl)) (aa (aB bB (aB gJ (pv 3) ag) ag) ab)))))))),?_⟩
 obtain ⟨a,ns,k,rfl,hS,hk,q⟩:=h
 have hp:(0:Int)<2147483629:=by decide
 (repeat (first | refine ⟨_,rfl,?_⟩ | refine ⟨_,_,rfl,rfl,?_⟩ | refine ⟨rfl,?_⟩ | refine And.intro (by first | decide | omega | assumption | exact Nat.le_of_ble_eq_true rfl | exact .inl ⟨by decide,by decide⟩ | exact .inr ⟨by decide,by decide⟩ | exact ⟨by decide,by decide⟩ | exact ⟨by omega,by omega⟩) ?_))
 refine ⟨a,_,rfl, .inl hS,?_⟩
 (repeat (first | refine ⟨_,rfl,?_⟩ | refine ⟨_,_,rfl,rfl,?_⟩ | refine ⟨rfl,?_⟩ | refine And.intro (by first | decide | omega | assumption | exact Nat.le_of_ble_eq_true rfl | exact .inl ⟨by decide,by decide⟩ | exact .inr ⟨by decide,by decide⟩ | exact ⟨by decide,by decide⟩ | exact ⟨by omega,by omega⟩) ?_))
 refine dH (fun e=>?_) (fun e=>?_)
 ·have e':(k:Int)<((ns.map V.int).length:Nat):=of_decide_eq_true e
  rw[List.length_map]at e'
  obtain ⟨z,hz⟩:=wg (ns:=ns) (i:=k) (by omega)
  (repeat (first | refine ⟨_,rfl,?_⟩ | refine ⟨_,_,rfl,rfl,?_⟩ | refine ⟨rfl,?_⟩ | refine And.intro (by first | decide | omega | assumption | exact Nat.le_of_ble_eq_true rfl | exact .inl ⟨by decide,by decide⟩ | exact .inr ⟨by decide,by decide⟩ | exact ⟨by decide,by decide⟩ | exact ⟨by omega,by omega⟩) ?_))
  refine ⟨a,_,k,_,rfl,rfl,hS,aQ hz,?_⟩
  (repeat (first | refine ⟨_,rfl,?_⟩ | refine ⟨_,_,rfl,rfl,?_⟩ | refine ⟨rfl,?_⟩ | refine And.intro (by first | decide | omega | assumption | exact Nat.le_of_ble_eq_true rfl | exact .inl ⟨by decide,by decide⟩ | exact .inr ⟨by decide,by decide⟩ | exact ⟨by decide,by decide⟩ | exact ⟨by omega,by omega⟩) ?_))
  refine fun p1 n1=>?_
  (repeat (first | refine ⟨_,rfl,?_⟩ | refine ⟨_,_,rfl,rfl,?_⟩ | refine ⟨rfl,?_⟩ | refine And.intro (by first | decide | omega | assumption | exact Nat.le_of_ble_eq_true rfl | exact .inl ⟨by decide,by decide⟩ | exact .inr ⟨by decide,by decide⟩ | exact ⟨by decide,by decide⟩ | exact ⟨by omega,by omega⟩) ?_))
  refine .inr ⟨_,rfl,?_⟩
  obtain ⟨y,hy⟩:=uX _ z
  refine ⟨p1,_,_,_,rfl,rfl,aJ.of ae,hy,?_⟩
  (repeat (first | refine ⟨_,rfl,?_⟩ | refine ⟨_,_,rfl,rfl,?_⟩ | refine ⟨rfl,?_⟩ | refine And.intro (by first | decide | omega | assumption | exact Nat.le_of_ble_eq_true rfl | exact .inl ⟨by decide,by decide⟩ | exact .inr ⟨by decide,by decide⟩ | exact ⟨by decide,by decide⟩ | exact ⟨by omega,by omega⟩) ?_))
  exact fun p2 n2=>q p2 _ (ah.free (ah.upd n1) n2) ⟨_,_,ae⟩ ((ah.upd n1).trans (ah.upd n2))
 ·(repeat (first | refine ⟨_,rfl,?_⟩ | refine ⟨_,_,rfl,rfl,?_⟩ | refine ⟨rfl,?_⟩ | refine And.intro (by first | decide | omega | assumption | exact Nat.le_of_ble_eq_true rfl | exact .inl ⟨by decide,by decide⟩ | exact .inr ⟨by decide,by decide⟩ | exact ⟨by decide,by decide⟩ | exact ⟨by omega,by omega⟩) ?_))
  refine ⟨a,_,rfl, .inl hS,?_⟩
  (repeat (first | refine ⟨_,rfl,?_⟩ | refine ⟨_,_,rfl,rfl,?_⟩ | refine ⟨rfl,?_⟩ | refine And.intro (by first | decide | omega | assumption | exact Nat.le_of_ble_eq_true rfl | exact .inl ⟨by decide,by decide⟩ | exact .inr ⟨by decide,by decide⟩ | exact ⟨by decide,by decide⟩ | exact ⟨by omega,by omega⟩) ?_))
  refine dH (fun e2=>?_) (fun e2=>?_)
  ·have e':(0:Int)<((ns.map V.int).length:Nat):=of_decide_eq_true e2
   have hl:(0:Int)<(ns.length:Int):=by rw[List.length_map]at e';exact e'
   have m1:0<=(k:Int)%(ns.length:Int):=Int.emod_nonneg _ (by omega)
   have m2:(k:Int)%(ns.length:Int)<(ns.length:Int):=Int.emod_lt_of_pos _ hl
   obtain ⟨z,hz⟩:=wg (ns:=ns) (i:=((k:Int)%(ns.length:Int)).toNat) (by omega)
   have MY:oK (ns.map V.int) ((k:Int)%((ns.map V.int).length:Nat))=some (V.int z):=by
    have:=aQ hz
    rw[Int.toNat_of_nonneg m1]at this
    rw[List.length_map]
    exact this
   (repeat (first | refine ⟨_,rfl,?_⟩ | refine ⟨_,_,rfl,rfl,?_⟩ | refine ⟨rfl,?_⟩ | refine And.intro (by first | decide | omega | assumption | exact Nat.le_of_ble_eq_true rfl | exact .inl ⟨by decide,by decide⟩ | exact .inr ⟨by decide,by decide⟩ | exact ⟨by decide,by decide⟩ | exact ⟨by omega,by omega⟩) ?_))
   refine ⟨a,_,rfl, .inl hS,?_⟩
   (repeat (first | refine ⟨_,rfl,?_⟩ | refine ⟨_,_,rfl,rfl,?_⟩ | refine ⟨rfl,?_⟩ | refine And.intro (by first | decide | omega | assumption | exact Nat.le_of_ble_eq_true rfl | exact .inl ⟨by decide,by decide⟩ | exact .inr ⟨by decide,by decide⟩ | exact ⟨by decide,by decide⟩ | exact ⟨by omega,by omega⟩) ?_))
   refine ⟨a,_,_,_,rfl,rfl,hS,MY,?_⟩
   (repeat (first | refine ⟨_,rfl,?_⟩ | refine ⟨_,_,rfl,rfl,?_⟩ | refine ⟨rfl,?_⟩ | refine And.intro (by first | decide | omega | assumption | exact Nat.le_of_ble_eq_true rfl | exact .inl ⟨by decide,by decide⟩ | exact .inr ⟨by decide,by decide⟩ | exact ⟨by decide,by decide⟩ | exact ⟨by omega,by omega⟩) ?_))
   refine fun p1 n1=>?_
   (repeat (first | refine ⟨_,rfl,?_⟩ | refine ⟨_,_,rfl,rfl,?_⟩ | refine ⟨rfl,?_⟩ | refine And.intro (by first | decide | omega | assumption | exact Nat.le_of_ble_eq_true rfl | exact .inl ⟨by decide,by decide⟩ | exact .inr ⟨by decide,by decide⟩ | exact ⟨by decide,by decide⟩ | exact ⟨by omega,by omega⟩) ?_))
   refine .inr ⟨_,rfl,?_⟩
   obtain ⟨y,hy⟩:=uX _ _
   refine ⟨p1,_,_,_,rfl,rfl,aJ.of ae,hy,?_⟩
   (repeat (first | refine ⟨_,rfl,?_⟩ | refine ⟨_,_,rfl,rfl,?_⟩ | refine ⟨rfl,?_⟩ | refine And.intro (by first | decide | omega | assumption | exact Nat.le_of_ble_eq_true rfl | exact .inl ⟨by decide,by decide⟩ | exact .inr ⟨by decide,by decide⟩ | exact ⟨by decide,by decide⟩ | exact ⟨by omega,by omega⟩) ?_))
   exact fun p2 n2=>q p2 _ (ah.free (ah.upd n1) n2) ⟨_,_,ae⟩ ((ah.upd n1).trans (ah.upd n2))
  ·(repeat (first | refine ⟨_,rfl,?_⟩ | refine ⟨_,_,rfl,rfl,?_⟩ | refine ⟨rfl,?_⟩ | refine And.intro (by first | decide | omega | assumption | exact Nat.le_of_ble_eq_true rfl | exact .inl ⟨by decide,by decide⟩ | exact .inr ⟨by decide,by decide⟩ | exact ⟨by decide,by decide⟩ | exact ⟨by omega,by omega⟩) ?_))
   refine fun p1 n1=>?_
   (repeat (first | refine ⟨_,rfl,?_⟩ | refine ⟨_,_,rfl,rfl,?_⟩ | refine ⟨rfl,?_⟩ | refine And.intro (by first | decide | omega | assumption | exact Nat.le_of_ble_eq_true rfl | exact .inl ⟨by decide,by decide⟩ | exact .inr ⟨by decide,by decide⟩ | exact ⟨by decide,by decide⟩ | exact ⟨by omega,by omega⟩) ?_))
   refine .inr ⟨_,rfl,?_⟩
   obtain ⟨y,hy⟩:=uX _ _
   refine ⟨p1,_,_,_,rfl,rfl,aJ.of ae,hy,?_⟩
   (repeat (first | refine ⟨_,rfl,?_⟩ | refine ⟨_,_,rfl,rfl,?_⟩ | refine ⟨rfl,?_⟩ | refine And.intro (by first | decide | omega | assumption | exact Nat.le_of_ble_eq_true rfl | exact .inl ⟨by decide,by decide⟩ | exact .inr ⟨by decide,by decide⟩ | exact ⟨by decide,by decide⟩ | exact ⟨by omega,by omega⟩) ?_))
   exact fun p2 n2=>q p2 _ (ah.free (ah.upd n1) n2) ⟨_,_,ae⟩ ((ah.upd n1).trans (ah.upd n2))
theorem Bm:cf P w K mg base gc 2 ET Nm ["_law_box_here","_law_few","_law_top"] (sy K):=by
 have bP:=gF (P:=P) (w:=w) (base:=base) T
 have dh:=i9 (P:=P) (w:=w) (base:=base) T
 refine T.Hk.fn.ok eV (fun vs H Q E h=>xX h) (fun dw A outer s H vs Q E hr h=>?_)
 refine ⟨_,(af (ar (i:=3) eV.nd rfl (Or.inl rfl) (aZ (gK rfl) rfl T.z_list boot_list (aa (cE [97,98,99,100,101,102,103,104,105,106,107,108,109,110,111,112,113,114,115,116,117,118,119,120,121,122] (by decide+kernel)) ab)))
   (af (ar (i:=4) eV.nd rfl (Or.inl rfl) (bC ab))
   (af (bI PassesOwn.never rfl (fj rfl T.z_range (aa (aB bB (pv 1) (ao bP (hr.mono (by decide)) rfl T.fO.mg T.fO.fn.kp T.fO.bd .nil aC (aa (pv 0) (aa (aB bB (aB cB (pv 2) (pv 1)) ag) ab)))) ab)) (ay (i:=5) eV.nd rfl (Or.inl rfl)) (af (ar (i:=6) eV.nd rfl (Or.inl rfl) (aS K rfl PySem.F.plainAttrs_list PySem.F.slot_list_pop PySem.F.type_list_pop gj (pv 3) (aa (ao bP (hr.mono (by decide)) rfl T.fO.mg T.fO.fn.kp T.fO.bd .nil aC (aa (pv 0) (aa (ax (aG K rfl) rfl T.z_len PySem.boot_len (aa (pv 3) ab)) ab))) ab)))
   (ai (ar (i:=4) eV.nd rfl (Or.inl rfl) (aB iq (pv 4) (bC (aa (pv 6) (aa (ao dh (hr.mono (by decide)) rfl T.lx.mg T.lx.fn.kp T.lx.bd .nil aC (aa (pv 6) ab)) ab))))))))
   (af (ar (i:=7) eV.nd rfl (Or.inl rfl) (cE [] (by decide+kernel)))
   (af (fm PassesOwn.never (aH oE (ax (aG K rfl) rfl T.z_len PySem.boot_len (aa (pv 4) ab)) ag (bb _)) (ai (ar (i:=7) eV.nd rfl (Or.inl rfl) (aB cJ (pv 7) (aS K rfl PySem.F.plainAttrs_list PySem.F.slot_list_pop PySem.F.type_list_pop gj (pv 4) (aa (ao bP (hr.mono (by decide)) rfl T.fO.mg T.fO.fn.kp T.fO.bd .nil aC (aa (pv 0) (aa (ax (aG K rfl) rfl T.z_len PySem.boot_len (aa (pv 4) ab)) ab))) ab))))))
   (ai (aD (pv 7)))))))),?_⟩
 obtain ⟨b,ke,top,rfl,hb,h1,h2,h3,q⟩:=h
 have hs:(100000:Nat)<sizeLine:=by decide
 (repeat (first | refine ⟨_,rfl,?_⟩ | refine ⟨_,_,rfl,rfl,?_⟩ | refine ⟨rfl,?_⟩ | refine And.intro (by first | decide | omega | assumption | exact Nat.le_of_ble_eq_true rfl | exact .inl ⟨by decide,by decide⟩ | exact .inr ⟨by decide,by decide⟩ | exact ⟨by decide,by decide⟩ | exact ⟨by omega,by omega⟩) ?_))
 intro p1 n1
 (repeat (first | refine ⟨_,rfl,?_⟩ | refine ⟨_,_,rfl,rfl,?_⟩ | refine ⟨rfl,?_⟩ | refine And.intro (by first | decide | omega | assumption | exact Nat.le_of_ble_eq_true rfl | exact .inl ⟨by decide,by decide⟩ | exact .inr ⟨by decide,by decide⟩ | exact ⟨by decide,by decide⟩ | exact ⟨by omega,by omega⟩) ?_))
 intro p2 n2
 have s1:ah H (upd (upd H p1 (.lst (bX bp))) p2 (.lst [])):=(ah.upd n1).trans (ah.upd n2)
 have ow:p1≠b:=hb.ne n1
 have y9:H p2=none:=ah.free (ah.upd n1) n2
 have yA:p2≠b:=hb.ne y9
 have y_:p1≠p2:=fun z=>by rw[<-z,ae]at n2;cases n2
 (repeat (first | refine ⟨_,rfl,?_⟩ | refine ⟨_,_,rfl,rfl,?_⟩ | refine ⟨rfl,?_⟩ | refine And.intro (by first | decide | omega | assumption | exact Nat.le_of_ble_eq_true rfl | exact .inl ⟨by decide,by decide⟩ | exact .inr ⟨by decide,by decide⟩ | exact ⟨by decide,by decide⟩ | exact ⟨by omega,by omega⟩) ?_))
 refine ⟨b,_,rfl,hb.same s1,by omega,by omega,fun n H1 hn Le s2=>?_⟩
 (repeat (first | refine ⟨_,rfl,?_⟩ | refine ⟨_,_,rfl,rfl,?_⟩ | refine ⟨rfl,?_⟩ | refine And.intro (by first | decide | omega | assumption | exact Nat.le_of_ble_eq_true rfl | exact .inl ⟨by decide,by decide⟩ | exact .inr ⟨by decide,by decide⟩ | exact ⟨by decide,by decide⟩ | exact ⟨by omega,by omega⟩) ?_))
 refine gh (fun i σ H'=> ∃(pe:Addr) (L E:List Nat) (kv lv:Option V),σ=[some (.ref b),some (.int ke),some (.int top),some (.ref p1),some (.ref pe),kv,lv,none]/\GR i L E/\H' p1=some (.lst (bX L))/\H' pe=some (.lst (bX E))/\p1≠pe/\H pe=none/\bM H' b/\aE b H H')
  ⟨p2,bp,[],none,none,rfl,GR.start,s2 _ _ (by rw[aj y_,ae];rfl) ow,s2 _ _ ae yA,y_,y9,Le,(aE.of s1).trans s2⟩ ?_ ?_
 ·rintro i σ H2 hi ⟨pe,L,E,kv,lv,rfl,yw,gb,lz,Wx,NG,ja,s3⟩
  have Dg:i<26:=by simp at hi;omega
  have yX:=yw.ll
  have x8:=yw.el
  refine ⟨_,rfl, .inl ⟨rfl,_,aJ.of gb⟩,?_⟩
  (repeat (first | refine ⟨_,rfl,?_⟩ | refine ⟨_,_,rfl,rfl,?_⟩ | refine ⟨rfl,?_⟩ | refine And.intro (by first | decide | omega | assumption | exact Nat.le_of_ble_eq_true rfl | exact .inl ⟨by decide,by decide⟩ | exact .inr ⟨by decide,by decide⟩ | exact ⟨by decide,by decide⟩ | exact ⟨by omega,by omega⟩) ?_))
  refine ⟨p1,_,rfl, .inl (aJ.of gb),b,_,rfl,ja,by rw[aT];omega,by rw[aT];omega,fun r H3 Hy pR s4=>?_⟩
  rw[aT]at Hy
  have BY:r<L.length:=by omega
  have DF:=s4 _ _ gb ow
  have Ql:=s4 _ _ lz (hb.ne NG)
  refine ⟨p1,_,_,r,_,rfl,rfl,DF,by omega,by omega,by rw[aT,seqIndex_of (by omega) (by omega),Int.toNat_natCast],Am BY,?_⟩
  rw[o8]
  have cN:Lt L[r]:= .inl (yw.sm _ (List.getElem_mem BY))
  have Lg:(upd H3 p1 (.lst (bX (L.eraseIdx r)))) pe=some (.lst (bX E)):=by rw[aj (Ne.symm Wx)];exact Ql
  (repeat (first | refine ⟨_,rfl,?_⟩ | refine ⟨_,_,rfl,rfl,?_⟩ | refine ⟨rfl,?_⟩ | refine And.intro (by first | decide | omega | assumption | exact Nat.le_of_ble_eq_true rfl | exact .inl ⟨by decide,by decide⟩ | exact .inr ⟨by decide,by decide⟩ | exact ⟨by decide,by decide⟩ | exact ⟨by omega,by omega⟩) ?_))
  intro p3 n3
  have e3:pe≠p3:=aq Lg n3
  refine ⟨pe,p3,_,_,rfl,rfl,by rw[aj e3];exact Lg,ae,by rw[aT];show E.length+2<=_;omega,fun p4 n4=>?_⟩
  have Wy:H p3=none:=((s3.trans s4).dm n1).none n3 (pR.dm ow |>.ne n3)
  have NH:=(pR.dm (o:= .lst (bX (L.eraseIdx r))) ow).dm (o:= .lst [V.str (S [L[r]]),V.str (S [aX L[r]])]) (hb.ne Wy)
  have Wz:=((s3.trans s4).dm (o:= .lst (bX (L.eraseIdx r))) n1).dm (o:= .lst [V.str (S [L[r]]),V.str (S [aX L[r]])]) Wy
  have Qm:H p4=none:=Wz.none n4 (NH.ne n4)
  have WA:p1≠p4:=fun z=>by rw[<-z]at n4;by_cases z3:p1=p3<;>simp[upd,z3]at n4
  have YO:p1≠p3:=fun z=>by rw[<-z,ae]at n3;cases n3
  refine ⟨p4,L.eraseIdx r,E++[L[r],aX L[r]],_,_,rfl,yw.turn Dg BY,by rw[aj WA,aj YO,ae],?_,WA,Qm,NH.dm (hb.ne Qm),Wz.dm Qm⟩
  rw[ae, <-C3]
  rfl
 ·rintro σ H2 ⟨pe,L,E,kv,lv,rfl,yw,gb,lz,Wx,NG,ja,s3⟩
  have x8:=yw.el
  have yP:=hb.ne NG
  (repeat (first | refine ⟨_,rfl,?_⟩ | refine ⟨_,_,rfl,rfl,?_⟩ | refine ⟨rfl,?_⟩ | refine And.intro (by first | decide | omega | assumption | exact Nat.le_of_ble_eq_true rfl | exact .inl ⟨by decide,by decide⟩ | exact .inr ⟨by decide,by decide⟩ | exact ⟨by decide,by decide⟩ | exact ⟨by omega,by omega⟩) ?_))
  refine ⟨fun m σ H'=> ∃F E':List Nat,σ=[some (.ref b),some (.int ke),some (.int top),some (.ref p1),some (.ref pe),kv,lv,some (.str (S F))]/\m=E'.length/\(F++E').Perm E/\H' pe=some (.lst (bX E'))/\bM H' b/\aE b H H',⟨_,[],E,rfl,rfl,List.Perm.refl _,lz,ja,s3⟩,?_⟩
  rintro m σ H3 ⟨F,E',rfl,rfl,jj,DG,pR,s4⟩
  have hlen:=jj.length_eq
  rw[List.length_append]at hlen
  have VP:(ke:Int)+n<=9:=by omega
  have YQ:E.length<=100:=by rw[x8];omega
  (repeat (first | refine ⟨_,rfl,?_⟩ | refine ⟨_,_,rfl,rfl,?_⟩ | refine ⟨rfl,?_⟩ | refine And.intro (by first | decide | omega | assumption | exact Nat.le_of_ble_eq_true rfl | exact .inl ⟨by decide,by decide⟩ | exact .inr ⟨by decide,by decide⟩ | exact ⟨by decide,by decide⟩ | exact ⟨by omega,by omega⟩) ?_))
  refine ⟨pe,_,rfl, .inl (aJ.of DG),_,_,rfl,rfl,_,rfl,dH (fun e=>?_) (fun e=>?_)⟩
  ·have e':(0:Int)<((bX E').length:Nat):=of_decide_eq_true e
   rw[aT]at e'
   refine ⟨_,rfl,_,rfl, .inl ⟨rfl,_,aJ.of DG⟩,?_⟩
   (repeat (first | refine ⟨_,rfl,?_⟩ | refine ⟨_,_,rfl,rfl,?_⟩ | refine ⟨rfl,?_⟩ | refine And.intro (by first | decide | omega | assumption | exact Nat.le_of_ble_eq_true rfl | exact .inl ⟨by decide,by decide⟩ | exact .inr ⟨by decide,by decide⟩ | exact ⟨by decide,by decide⟩ | exact ⟨by omega,by omega⟩) ?_))
   refine ⟨pe,_,rfl, .inl (aJ.of DG),b,_,rfl,pR,by rw[aT];omega,by rw[aT];omega,fun r H4 BY yB s5=>?_⟩
   rw[aT]at BY
   have wO:r<E'.length:=by omega
   refine ⟨pe,_,_,r,_,rfl,rfl,s5 _ _ DG yP,by omega,by omega,by rw[aT,seqIndex_of (by omega) (by omega),Int.toNat_natCast],Am wO,?_⟩
   rw[o8]
   have hp:=fH (List.getElem?_eq_getElem wO)
   have jd:=hp.length_eq
   rw[List.length_cons]at jd
   refine ⟨F,_,rfl,rfl,by show F.length+1<=_;omega,(E'.eraseIdx r).length,by omega,F++[E'[r]],E'.eraseIdx r,rfl,rfl,?_,ae,yB.dm yP,(s4.trans s5).dm NG⟩
   rw[List.append_assoc]
   exact (List.Perm.append_left F hp).trans jj
  ·have e':E'=[]:=by
    cases E' with
    | nil=>rfl
    | cons c r=>exact absurd (decide_eq_true (by rw[aT];show (0:Int)<((r.length+1:Nat):Int);omega)) e
   subst e'
   rw[List.append_nil]at jj
   have nQ:=jj.length_eq
   refine ⟨_,rfl,q F H3 (yw.yd.perm jj.symm) ?_ ?_ pR s4⟩
   ·rw[nQ,x8];omega
   ·rw[nQ,x8];omega
theorem pS:cf P w K mg base gc 1 EW Nq ["_law_yard_here"] (pq K):=by
 refine T.BS.fn.ok yv (fun vs H Q E h=>u7 h) (fun dw A outer s H vs Q E hr h=>?_)
 refine ⟨_,(ai (aD (ax (jQ K rfl) rfl T.z_sorted boot_sorted (aa (cg ["_law_letter"] [none] (qh (pv 0)) trivial (fun _ _ _ _=>(ay (i:=0) (by decide+kernel:List.Nodup (["_law_letter"]:List Str)) rfl (Or.inl rfl))) (fun _ _ _ _=>(me (aH zJ (pv 0) (cE [97,98,99,100,101,102,103,104,105,106,107,108,109,110,111,112,113,114,115,116,117,118,119,120,121,122] (by decide+kernel)) (by with_unfolding_all rfl)))) (fun _ _ _ _=>(pv 0))) ab)))),?_⟩
 obtain ⟨y,rfl,hz,q⟩:=h
 have hs:(1000:Nat)<sizeLine:=by decide
 refine ⟨_,rfl,y,rfl,?_⟩
 refine mv (xs:=bX y) (fun i acc H'=>ah H H'/\acc=bX ((y.take i).filter fun c=>decide (c∈bp))) (by rw[aT];omega) ⟨ah.refl H,rfl⟩ ?_ ?_
 ·rintro i x acc H1 Nx hi hx iM ⟨s1,rfl⟩ nx
  obtain ⟨c,hc,rfl⟩:=eI hx
  have e:=kT (p:=fun c=>decide (c∈bp)) hc
  refine ⟨trivial,?_⟩
  refine ⟨_,rfl,c,bp,rfl,rfl,_,rfl,?_⟩
  refine dH (fun z=>?_) (fun z=>?_)
  ·rw[if_pos z]at e
   exact ⟨_,rfl,nx _ _ (by simpa using iM) ⟨s1,by rw[e, <-eP]⟩⟩
  ·rw[if_neg z,List.append_nil]at e
   exact nx _ _ (Nat.le_succ_of_le iM) ⟨s1,by rw[e]⟩
 ·rintro acc H1 D iM ⟨s1,rfl⟩ hD
  rw[mG,fq]
  have Qn:(y.filter fun c=>decide (c∈bp)).length<=y.length:=List.length_filter_le _ _
  refine ⟨D,(y.filter fun c=>decide (c∈bp)).map fun c=>[c],rfl,aJ.of ae,by rw[List.length_map];omega,fun p ls hp jj IH=>?_⟩
  obtain ⟨l',rfl,pl⟩:=v5 jj
  refine q p l' _ (ah.free (ah.trans s1 (ah.upd hD)) hp) (by rw[ae, <-fq]) pl (v7 IH) ((s1.trans (ah.upd hD)).trans (ah.upd hp))
theorem yC:cf P w K mg base gc 2 EV Np ["_law_box_here","_law_things"] (pw K):=by
 have bP:=gF (P:=P) (w:=w) (base:=base) T
 refine T.Hm.fn.ok kK (fun vs H Q E h=>u_ h) (fun dw A outer s H vs Q E hr h=>?_)
 refine ⟨_,(af (ar (i:=2) kK.nd rfl (Or.inl rfl) (aZ (qo K rfl rfl) rfl T.z_list boot_list (aa (pv 1) ab)))
   (af (ar (i:=3) kK.nd rfl (Or.inl rfl) (bC ab))
   (af (fm PassesOwn.never (aH oE (ax (aG K rfl) rfl T.z_len PySem.boot_len (aa (pv 2) ab)) ag (bb _)) (ai (ba (aS K rfl PySem.F.plainAttrs_list PySem.F.slot_list_append PySem.F.type_list_append bu (pv 3) (aa (aS K rfl PySem.F.plainAttrs_list PySem.F.slot_list_pop PySem.F.type_list_pop gj (pv 2) (aa (ao bP (hr.mono (by decide)) rfl T.fO.mg T.fO.fn.kp T.fO.bd .nil aC (aa (pv 0) (aa (ax (aG K rfl) rfl T.z_len PySem.boot_len (aa (pv 2) ab)) ab))) ab)) ab)))))
   (ai (aD (pv 3)))))),?_⟩
 obtain ⟨b,x,ys,rfl,hb,hx,hz,q⟩:=h
 have hs:(100000:Nat)<sizeLine:=by decide
 rcases hx with ⟨p,rfl,hp⟩ | ⟨l,rfl,rfl⟩
 ·refine ⟨_,rfl, .inr ⟨p,_,rfl,hp,fun p1 n1=>?_⟩⟩
  (repeat (first | refine ⟨_,rfl,?_⟩ | refine ⟨_,_,rfl,rfl,?_⟩ | refine ⟨_,_,_,rfl,rfl,by first | assumption | omega,by assumption,?_⟩ | refine ⟨rfl,?_⟩ | refine And.intro (by first | decide | omega | assumption | exact Nat.le_of_ble_eq_true rfl | exact .inl ⟨by decide,by decide⟩ | exact .inr ⟨by decide,by decide⟩ | exact ⟨by decide,by decide⟩ | exact ⟨by omega,by omega⟩) ?_))
  intro p2 n2
  have s1:ah H (upd (upd H p1 (.lst ys)) p2 (.lst [])):=(ah.upd n1).trans (ah.upd n2)
  have ow:p1≠b:=hb.ne n1
  have y9:H p2=none:=ah.free (ah.upd n1) n2
  have yA:p2≠b:=hb.ne y9
  have y_:p1≠p2:=fun z=>by rw[<-z,ae]at n2;cases n2
  refine ⟨fun m σ H'=> ∃F E':List V,σ=[some (.ref b),some (.ref p),some (.ref p1),some (.ref p2)]/\m=E'.length/\(F++E').Perm ys/\H' p1=some (.lst E')/\H' p2=some (.lst F)/\bM H' b/\aE b H H',⟨_,[],ys,rfl,rfl,List.Perm.refl _,by rw[aj y_,ae],ae,hb.same s1,aE.of s1⟩,?_⟩
  rintro m σ H3 ⟨F,E',rfl,rfl,jj,gb,o3,pR,s4⟩
  have hlen:=jj.length_eq
  rw[List.length_append]at hlen
  (repeat (first | refine ⟨_,rfl,?_⟩ | refine ⟨_,_,rfl,rfl,?_⟩ | refine ⟨_,_,_,rfl,rfl,by first | assumption | omega,by assumption,?_⟩ | refine ⟨rfl,?_⟩ | refine And.intro (by first | decide | omega | assumption | exact Nat.le_of_ble_eq_true rfl | exact .inl ⟨by decide,by decide⟩ | exact .inr ⟨by decide,by decide⟩ | exact ⟨by decide,by decide⟩ | exact ⟨by omega,by omega⟩) ?_))
  refine ⟨p1,_,rfl, .inl (aJ.of gb),_,_,rfl,rfl,_,rfl,dH (fun e=>?_) (fun e=>?_)⟩
  ·have e':(0:Int)<(E'.length:Nat):=of_decide_eq_true e
   refine ⟨_,rfl, .inl ⟨rfl,_,aJ.of o3⟩,_,rfl, .inl ⟨rfl,_,aJ.of gb⟩,?_⟩
   (repeat (first | refine ⟨_,rfl,?_⟩ | refine ⟨_,_,rfl,rfl,?_⟩ | refine ⟨_,_,_,rfl,rfl,by first | assumption | omega,by assumption,?_⟩ | refine ⟨rfl,?_⟩ | refine And.intro (by first | decide | omega | assumption | exact Nat.le_of_ble_eq_true rfl | exact .inl ⟨by decide,by decide⟩ | exact .inr ⟨by decide,by decide⟩ | exact ⟨by decide,by decide⟩ | exact ⟨by omega,by omega⟩) ?_))
   refine ⟨p1,_,rfl, .inl (aJ.of gb),b,_,rfl,pR,by omega,by omega,fun r H4 BY yB s5=>?_⟩
   have wO:r<E'.length:=by omega
   refine ⟨p1,_,_,r,_,rfl,rfl,s5 _ _ gb ow,by omega,by omega,by rw[seqIndex_of (by omega) (by omega),Int.toNat_natCast],List.getElem?_eq_getElem wO,?_⟩
   have lz:=fH (List.getElem?_eq_getElem wO)
   have jd:=lz.length_eq
   rw[List.length_cons]at jd
   refine ⟨p2,_,_,rfl,rfl,by rw[aj (Ne.symm y_)];exact s5 _ _ o3 yA,by omega,?_⟩
   refine ⟨(E'.eraseIdx r).length,by omega,F++[E'[r]],E'.eraseIdx r,rfl,rfl,?_,by rw[aj y_,ae],ae,(yB.dm ow).dm yA,((s4.trans s5).dm n1).dm y9⟩
   rw[List.append_assoc]
   exact (List.Perm.append_left F lz).trans jj
  ·have e':E'=[]:=by
    cases E' with
    | nil=>rfl
    | cons c r=>exact absurd (decide_eq_true (by show (0:Int)<((r.length+1:Nat):Int);omega)) e
   subst e'
   rw[List.append_nil]at jj
   exact ⟨_,rfl,q p2 F H3 y9 yA o3 jj pR s4⟩
 ·rw[aT]at hz
  refine ⟨_,rfl, .inl ⟨l,rfl,by omega,fun p1 n1=>?_⟩⟩
  rw[<-aT l]at hz
  generalize bX l=ys at*
  (repeat (first | refine ⟨_,rfl,?_⟩ | refine ⟨_,_,rfl,rfl,?_⟩ | refine ⟨_,_,_,rfl,rfl,by first | assumption | omega,by assumption,?_⟩ | refine ⟨rfl,?_⟩ | refine And.intro (by first | decide | omega | assumption | exact Nat.le_of_ble_eq_true rfl | exact .inl ⟨by decide,by decide⟩ | exact .inr ⟨by decide,by decide⟩ | exact ⟨by decide,by decide⟩ | exact ⟨by omega,by omega⟩) ?_))
  intro p2 n2
  have s1:ah H (upd (upd H p1 (.lst ys)) p2 (.lst [])):=(ah.upd n1).trans (ah.upd n2)
  have ow:p1≠b:=hb.ne n1
  have y9:H p2=none:=ah.free (ah.upd n1) n2
  have yA:p2≠b:=hb.ne y9
  have y_:p1≠p2:=fun z=>by rw[<-z,ae]at n2;cases n2
  refine ⟨fun m σ H'=> ∃F E':List V,σ=[some (.ref b),some (.str (S l)),some (.ref p1),some (.ref p2)]/\m=E'.length/\(F++E').Perm ys/\H' p1=some (.lst E')/\H' p2=some (.lst F)/\bM H' b/\aE b H H',⟨_,[],ys,rfl,rfl,List.Perm.refl _,by rw[aj y_,ae],ae,hb.same s1,aE.of s1⟩,?_⟩
  rintro m σ H3 ⟨F,E',rfl,rfl,jj,gb,o3,pR,s4⟩
  have hlen:=jj.length_eq
  rw[List.length_append]at hlen
  (repeat (first | refine ⟨_,rfl,?_⟩ | refine ⟨_,_,rfl,rfl,?_⟩ | refine ⟨_,_,_,rfl,rfl,by first | assumption | omega,by assumption,?_⟩ | refine ⟨rfl,?_⟩ | refine And.intro (by first | decide | omega | assumption | exact Nat.le_of_ble_eq_true rfl | exact .inl ⟨by decide,by decide⟩ | exact .inr ⟨by decide,by decide⟩ | exact ⟨by decide,by decide⟩ | exact ⟨by omega,by omega⟩) ?_))
  refine ⟨p1,_,rfl, .inl (aJ.of gb),_,_,rfl,rfl,_,rfl,dH (fun e=>?_) (fun e=>?_)⟩
  ·have e':(0:Int)<(E'.length:Nat):=of_decide_eq_true e
   refine ⟨_,rfl, .inl ⟨rfl,_,aJ.of o3⟩,_,rfl, .inl ⟨rfl,_,aJ.of gb⟩,?_⟩
   (repeat (first | refine ⟨_,rfl,?_⟩ | refine ⟨_,_,rfl,rfl,?_⟩ | refine ⟨_,_,_,rfl,rfl,by first | assumption | omega,by assumption,?_⟩ | refine ⟨rfl,?_⟩ | refine And.intro (by first | decide | omega | assumption | exact Nat.le_of_ble_eq_true rfl | exact .inl ⟨by decide,by decide⟩ | exact .inr ⟨by decide,by decide⟩ | exact ⟨by decide,by decide⟩ | exact ⟨by omega,by omega⟩) ?_))
   refine ⟨p1,_,rfl, .inl (aJ.of gb),b,_,rfl,pR,by omega,by omega,fun r H4 BY yB s5=>?_⟩
   have wO:r<E'.length:=by omega
   refine ⟨p1,_,_,r,_,rfl,rfl,s5 _ _ gb ow,by omega,by omega,by rw[seqIndex_of (by omega) (by omega),Int.toNat_natCast],List.getElem?_eq_getElem wO,?_⟩
   have lz:=fH (List.getElem?_eq_getElem wO)
   have jd:=lz.length_eq
   rw[List.length_cons]at jd
   refine ⟨p2,_,_,rfl,rfl,by rw[aj (Ne.symm y_)];exact s5 _ _ o3 yA,by omega,?_⟩
   refine ⟨(E'.eraseIdx r).length,by omega,F++[E'[r]],E'.eraseIdx r,rfl,rfl,?_,by rw[aj y_,ae],ae,(yB.dm ow).dm yA,((s4.trans s5).dm n1).dm y9⟩
   rw[List.append_assoc]
   exact (List.Perm.append_left F lz).trans jj
  ·have e':E'=[]:=by
    cases E' with
    | nil=>rfl
    | cons c r=>exact absurd (decide_eq_true (by show (0:Int)<((r.length+1:Nat):Int);omega)) e
   subst e'
   rw[List.append_nil]at jj
   exact ⟨_,rfl,q p2 F H3 y9 yA o3 jj pR s4⟩
theorem tY:cf P w K mg base gc 3 EX Nr ["_law_box_here","_law_yard_here","_law_words_here"] (kX K):=by
 have nM:=pS (P:=P) (w:=w) (base:=base) T
 have dh:=i9 (P:=P) (w:=w) (base:=base) T
 have Bn:=yC (P:=P) (w:=w) (base:=base) T
 refine T.BU.fn.ok dF (fun vs H Q E h=>qB h) (fun dw A outer s H vs Q E hr h=>?_)
 refine ⟨_,(af (ar (i:=3) dF.nd rfl (Or.inl rfl) (bC ab))
   (af (bI PassesOwn.never rfl (cO K rfl (ao nM (hr.mono (by decide)) rfl T.BS.mg T.BS.fn.kp T.BS.bd .nil aC (aa (pv 1) ab))) (ay (i:=4) dF.nd rfl (Or.inr rfl)) (af (ar (i:=5) dF.nd rfl (Or.inl rfl) (bC ab))
   (af (bI PassesOwn.never rfl (jR K rfl rfl T.z_enumerate (aa (pv 2) ab)) (cS (n:=2) K rfl rfl (aR (ay (i:=6) dF.nd rfl (Or.inr rfl)) (aR (ay (i:=7) dF.nd rfl (Or.inl rfl)) cA))) (ai (ba (aS K rfl PySem.F.plainAttrs_list PySem.F.slot_list_extend PySem.F.type_list_extend km (pv 5) (aa (cg ["_law_i","_law_letter","_law_c","_law_band"] [none,none,some 6,some 4] (mz rfl T.z_enumerate (aa (pv 7) ab)) ⟨⟨rfl,rfl,by first | exact .inl rfl | exact .inr rfl⟩,⟨⟨rfl,rfl,by first | exact .inl rfl | exact .inr rfl⟩,trivial⟩⟩ (fun _ _ _ _=>(cS (n:=2) K rfl rfl (aR (ay (i:=0) (by decide+kernel:List.Nodup (["_law_i","_law_letter","_law_c","_law_band"]:List Str)) rfl (Or.inl rfl)) (aR (ay (i:=1) (by decide+kernel:List.Nodup (["_law_i","_law_letter","_law_c","_law_band"]:List Str)) rfl (Or.inl rfl)) cA)))) (fun _ _ _ _=>(me (aH (qm K rfl) (pv 1) (bY (aa (pv 3) (aa (ao dh (hr.mono (by decide)) rfl T.lx.mg T.lx.fn.kp T.lx.bd .nil aC (aa (pv 3) ab)) ab))) (by with_unfolding_all rfl)))) (fun _ _ _ _=>(bY (aa (pv 2) (aa (pv 0) ab))))) ab)))))
   (ai (ba (aS K rfl PySem.F.plainAttrs_list PySem.F.slot_list_append PySem.F.type_list_append bu (pv 3) (aa (aZ (bh K rfl) rfl T.z_tuple boot_tuple (aa (ao Bn (hr.mono (by decide)) rfl T.Hm.mg T.Hm.fn.kp T.Hm.bd .nil aC (aa (pv 0) (aa (pv 5) ab))) ab)) ab)))))))
   (ai (aD (bY (aa (aZ (bh K rfl) rfl T.z_tuple boot_tuple (aa (pv 2) ab)) (aa (aZ (bh K rfl) rfl T.z_tuple boot_tuple (aa (pv 3) ab)) ab))))))),?_⟩
 obtain ⟨b,y,wt,ws,rfl,hb,hy,hz,WB,AZ,hw,q⟩:=h
 have hs:(100000:Nat)<sizeLine:=by decide
 have DA:=hw.ke
 (repeat (first | refine ⟨_,rfl,?_⟩ | refine ⟨_,_,rfl,rfl,?_⟩ | refine ⟨_,_,_,rfl,rfl,by first | assumption | omega,by assumption,?_⟩ | refine ⟨rfl,?_⟩ | refine And.intro (by first | decide | omega | assumption | exact Nat.le_of_ble_eq_true rfl | exact .inl ⟨by decide,by decide⟩ | exact .inr ⟨by decide,by decide⟩ | exact ⟨by decide,by decide⟩ | exact ⟨by omega,by omega⟩) ?_))
 intro p1 n1
 have ow:p1≠b:=hb.ne n1
 have h1w:p1≠wt:=Ne.symm (aq AZ n1)
 refine ⟨_,rfl,y,rfl,by omega,fun p2 l2 H1 n2 o3 nQ rf s1=>?_⟩
 rw[mU hy.lt]at nQ
 have el:=jZ nQ rf
 subst el
 have YR:H p2=none:=ah.free (ah.upd n1) n2
 have yA:p2≠b:=hb.ne YR
 have y_:p1≠p2:=fun z=>by rw[<-z,ae]at n2;cases n2
 have WC:ah H H1:=(ah.upd n1).trans s1
 have gb:H1 p1=some (.lst []):=s1 _ _ ae
 have Di:=eS hy
 refine ⟨p2,rfl,⟨_,aJ.of o3⟩,?_⟩
 refine il (K:=K) (a:=p2) (xs:=bX (aA y)) (fun i σ H'=> ∃(os:List Od) (bv sv cv wv:Option V),σ=[some (.ref b),some (.str (S y)),some (.ref wt),some (.ref p1),bv,sv,cv,wv]/\H' p1=some (.lst (kU os))/\H' p2=some (.lst (bX (aA y)))/\os.length=i/\(∀o∈os,jb H' o)/\(∀(j:Nat) (o:Od) (c:Nat),os[j]? =some o->(aA y)[j]? =some c->(o.ps.map Pr.pair).Perm (cH c ws ws.length))/\bM H' b/\aE b H H')
  ⟨[],none,none,none,none,rfl,gb,o3,rfl,fun _ h=>absurd h List.not_mem_nil,fun j o c h=>by simp at h,hb.same WC,aE.of WC⟩ (fun i σ H' _ ⟨_,_,_,_,_,_,_,h,_⟩=>aJ.of h) ?_ ?_
 ·rintro i x σ H2 hx ⟨os,bv,sv,cv,wv,rfl,gb,o3,uc,y7,Hz,ja,s2⟩
  obtain ⟨band,Bo,rfl⟩:=eI hx
  have hi:i<(aA y).length:=(List.getElem?_eq_some_iff.mp Bo).1
  have Qo:Lt band:=hy.lt band (List.mem_filter.mp ((dz y).mem_iff.mp (List.mem_of_getElem? Bo))).1
  (repeat (first | refine ⟨_,rfl,?_⟩ | refine ⟨_,_,rfl,rfl,?_⟩ | refine ⟨_,_,_,rfl,rfl,by first | assumption | omega,by assumption,?_⟩ | refine ⟨rfl,?_⟩ | refine And.intro (by first | decide | omega | assumption | exact Nat.le_of_ble_eq_true rfl | exact .inl ⟨by decide,by decide⟩ | exact .inr ⟨by decide,by decide⟩ | exact ⟨by decide,by decide⟩ | exact ⟨by omega,by omega⟩) ?_))
  intro p3 n3
  have Bp:=s2 _ _ AZ WB
  refine ⟨_,rfl,wt,rfl,⟨_,aY.of ((ah.upd n3) _ _ Bp)⟩,?_⟩
  refine iQ (K:=K) (a:=wt) (xs:=cD ws) (fun j σ H'=> ∃(ps:List Pr) (cv wv:Option V),σ=[some (.ref b),some (.str (S y)),some (.ref wt),some (.ref p1),some (.str (S [band])),some (.ref p3),cv,wv]/\H' p3=some (.lst (cL ps))/\(∀p∈ps,fK H' p)/\ps.map Pr.pair=cH band ws j/\ps.length<=12*j/\ah H2 H')
   ⟨[],cv,wv,rfl,ae,fun _ h=>absurd h List.not_mem_nil,rfl,Nat.zero_le _,ah.upd n3⟩ (fun j σ H' _ ⟨_,_,_,_,_,_,_,_,h⟩=>aY.of (h _ _ Bp)) ?_ ?_
  ·rintro j x σ H3 T Lh ⟨ps,YS,YT,rfl,Li,tX,lz,jd,s3⟩ nT
   have hj:j<ws.length:=by
    have:=(List.getElem?_eq_some_iff.mp Lh).1
    rwa [bt]at this
   rw[mI hj]at Lh
   cases Lh
   have DH:ws[j]? =some ws[j]:=List.getElem?_eq_getElem hj
   obtain ⟨zc,vw⟩:=hw.all _ (List.getElem_mem hj)
   generalize ws[j]=w at DH zc vw ⊢
   refine ⟨T,_,rfl,aY.of ae,rfl,_,_,rfl,_,_,rfl,rfl,?_⟩
   have WD:=ah.upd (o:= .tup [.int j, .str (S w)]) nT
   have Lj:=WD _ _ Li
   refine ⟨_,rfl, .inl ⟨rfl,_,aJ.of Lj⟩,_,rfl,w,rfl,?_⟩
   refine xB (l:=w) (fun m acc H'=>ah (upd H3 T (.tup [.int j, .str (S w)])) H'/\ ∃vs:List Pr,acc=cL vs/\(∀p∈vs,fK H' p)/\vs.map Pr.pair=iG band j w m/\vs.length<=m) (by omega) ⟨ah.refl _,[],rfl,fun _ h=>absurd h List.not_mem_nil,rfl,Nat.le_refl _⟩ ?_ ?_
   ·rintro m l acc H4 T2 Nx hm iM ⟨s4,vs,rfl,NI,NJ,Qp⟩ Hu nx
    have hmw:m<w.length:=(List.getElem?_eq_some_iff.mp hm).1
    have es:=vc (band:=band) (c:=j) hm
    rw[show vb band l=(decide (l=band)||decide (l=aX band)) from rfl]at es
    refine ⟨T2,_,rfl,aY.of ae,rfl,_,_,rfl,_,_,rfl,rfl,?_⟩
    refine ⟨⟨rfl,rfl,trivial⟩,?_⟩
    have YU:=ah.upd (o:= .tup [.int m, .str (S [l])]) Hu
    refine ⟨_,rfl,_,rfl,_,rfl,band,rfl,Qo,by show 2<=sizeLine;decide,fun t nt=>?_⟩
    refine ⟨t,_,rfl, .inr (aY.of ae),rfl,rfl,_,rfl,?_⟩
    have Lk:=YU.trans (ah.upd (o:= .tup [.str (S [band]), .str (S [aX band])]) nt)
    generalize upd (upd H4 T2 (.tup [.int m, .str (S [l])])) t (.tup [.str (S [band]), .str (S [aX band])])=H5 at Lk ⊢
    show if zD (.str (S [l])) [.str (S [band]), .str (S [aX band])]=true then _ else _
    rw[v8]
    refine dH (fun z=>?_) (fun z=>?_)
    ·rw[if_pos z]at es
     refine ⟨_,rfl,_,rfl,by show 2<=sizeLine;decide,fun t2 HG=>?_⟩
     refine nx _ _ (by simpa using iM) ⟨(s4.trans Lk).trans (ah.upd HG),vs++[⟨t2,j,m⟩],j0 vs ⟨t2,j,m⟩,fun p hp=>?_,by rw[List.map_append,NJ,es];rfl,by rw[List.length_append];show vs.length+1<=_;omega⟩
     rcases List.mem_append.mp hp with g | g
     ·exact (NI p g).same (Lk.trans (ah.upd HG))
     ·have e2:=List.mem_singleton.mp g
      subst e2
      exact ⟨ae,by show j<1000;omega,by show m<1000;omega⟩
    ·rw[if_neg z,List.append_nil]at es
     exact nx _ _ (Nat.le_succ_of_le iM) ⟨s4.trans Lk,vs,rfl,fun p hp=>(NI p hp).same Lk,by rw[es];exact NJ,by omega⟩
   ·rintro acc H4 D iM ⟨s4,vs,rfl,NI,NJ,Qp⟩ hD
    have E8:=s4 _ _ Lj
    refine ⟨p3,D,_,_,rfl,rfl,(ah.upd hD) _ _ E8,ae,by rw[bK,bK];omega,?_⟩
    rw[C_]
    have WE:ah H3 (upd H4 D (.lst (cL vs))):=(WD.trans s4).trans (ah.upd hD)
    have Ll:=(ah.upd (o:= .lst (cL vs)) hD) _ _ E8
    have YV:H2 p3=none:=n3
    refine ⟨ps++vs,_,_,rfl,ae,fun p hp=>?_,by rw[List.map_append,lz,NJ,kW DH],by rw[List.length_append];omega,fun a o ea=>by rw[aj (aq ea YV)];exact WE _ _ (s3 a o ea)⟩
    rcases List.mem_append.mp hp with g | g
    ·exact ((tX p g).same WE).ts (aF.hR Ll)
    ·exact ((NI p g).same (ah.upd hD)).ts (aF.hR Ll)
  ·rintro σ H3 ⟨ps,YS,YT,rfl,Li,tX,lz,jd,s3⟩
   rw[bt]at lz jd
   have pR:=ja.same s3
   have b3:p3≠b:=ja.ne n3
   have Qq:=s3 _ _ gb
   refine ⟨_,rfl, .inl ⟨rfl,_,aJ.of Qq⟩,?_⟩
   refine ⟨_,rfl,_,rfl,b, .ref p3,cL ps,rfl,pR, .inl ⟨p3,rfl, .inl (aJ.of Li)⟩,by rw[bK];omega,fun qa ys H4 nq qb hq v3 yB s4=>?_⟩
   obtain ⟨ve,e1,e2⟩:=va (f:=fun p:Pr=>V.ref p.t) v3 ps rfl
   have e3:ys=cL ve:=e1
   subst e3
   have Qr:=aF.box pR s4
   refine ⟨qa,_,rfl, .inl ⟨aJ.of hq,fun t nt=>?_⟩⟩
   have Qs:aE b H2 (upd H4 t (.tup (cL ve))):=((aE.of s3).trans s4).after (ah.upd nt)
   have HH:=Qs _ _ gb ow
   have Qt:aF H4 (upd H4 t (.tup (cL ve))):=aF.dm nt
   refine ⟨p1,_,_,rfl,rfl,HH,by rw[lG];omega,?_⟩
   have WG:=(Qr.trans Qt).trans (aF.hR (o:= .lst (kU os++[.ref t])) HH)
   have CC: ∀p∈ve,p∈ps:=fun p hp=>e2.mem_iff.mp hp
   have hlen:=e2.length_eq
   refine ⟨os++[⟨t,ve⟩],_,_,_,_,rfl,by rw[ae];exact congrArg (fun x=>some (HO.lst x)) (mV os ⟨t,ve⟩),by rw[aj (Ne.symm y_)];exact Qs _ _ o3 yA,by simp[uc],fun o ho=>?_,fun j o c hj hc=>?_,?_,?_⟩
   ·rcases List.mem_append.mp ho with g | g
    ·exact ((y7 o g).same s3).ts WG
    ·have eo:=List.mem_singleton.mp g
     subst eo
     refine ⟨?_,fun p hp=>(tX p (CC p hp)).ts WG,by show ve.length<=100;omega⟩
     exact (aF.hR (o:= .lst (kU os++[.ref t])) HH) _ _ ae
   ·by_cases cN:j<os.length
    ·rw[List.getElem?_append_left cN]at hj
     exact Hz j o c hj hc
    ·have YW:j=os.length:=by
      have:=(List.getElem?_eq_some_iff.mp hj).1
      rw[List.length_append]at this
      have:j<os.length+1:=this
      omega
     subst YW
     rw[List.getElem?_append_right (Nat.le_refl _),Nat.sub_self]at hj
     have eo:(⟨t,ve⟩:Od)=o:=by simpa using hj
     rw[uc,Bo]at hc
     have ec:band=c:=Option.some.inj hc
     subst eo
     subst ec
     exact (e2.map Pr.pair).trans (by rw[lz])
   ·exact ((yB.same (ah.upd nt)).dm ow)
   ·exact (s2.trans Qs).dm n1
 ·rintro σ H2 ⟨os,bv,sv,cv,wv,rfl,gb,o3,uc,y7,Hz,ja,s2⟩
  rw[aT]at uc
  have Bp:=s2 _ _ AZ WB
  refine ⟨_,rfl,wt,_,rfl, .inr ⟨aY.of Bp,?_⟩⟩
  refine ⟨_,rfl,p1,_,rfl, .inl ⟨aJ.of gb,fun t nt=>?_⟩⟩
  refine ⟨by show 2<=sizeLine;decide,fun dr Bk=>?_⟩
  have y8:H t=none:=s2.none nt (ja.ne nt)
  have sA:ah H2 (upd (upd H2 t (.tup (kU os))) dr (.tup [.ref wt, .ref t])):=(ah.upd nt).trans (ah.upd Bk)
  have La:t≠dr:=fun z=>by rw[<-z,ae]at Bk;cases Bk
  refine q dr os _ ⟨⟨wt,t,ae,sA _ _ Bp,by rw[aj La,ae]⟩,fun o ho=>(y7 o ho).same sA⟩ ⟨uc,Hz⟩ (ja.same sA) (s2.after sA)
theorem Bq:cf P w K mg base gc 2 E3 Ny ["_law_box_here","_law_yard_here","_law_words_here","_law_room"] (tT K):=by
 have bP:=gF (P:=P) (w:=w) (base:=base) T
 have dh:=i9 (P:=P) (w:=w) (base:=base) T
 refine T.Hs.fn.ok cn (fun vs H Q E h=>yt h) (fun dw A outer s H vs Q E hr h=>?_)
 refine ⟨_,(af (ar (i:=4) cn.nd rfl (Or.inl rfl) (bC ab))
   (af (ar (i:=3) cn.nd rfl (Or.inl rfl) (aB cB (pv 3) (ax bg rfl T.z_len PySem.boot_len (aa (aS K rfl PySem.F.plainAttrs_str PySem.F.slot_str_join PySem.F.type_str_join (Ad K rfl) (cE [] (by decide+kernel)) (aa (pv 2) ab)) ab))))
   (af (bI PassesOwn.never rfl (ql K rfl (pv 2)) (ay (i:=5) cn.nd rfl (Or.inr rfl)) (af (bI PassesOwn.never rfl (fj rfl T.z_range (aa (ao bP (hr.mono (by decide)) rfl T.fO.mg T.fO.fn.kp T.fO.bd .nil aC (aa (pv 0) (aa ag ab))) ab)) (ay (i:=6) cn.nd rfl (Or.inl rfl)) (af (ar (i:=7) cn.nd rfl (Or.inl rfl) (ao bP (hr.mono (by decide)) rfl T.fO.mg T.fO.fn.kp T.fO.bd .nil aC (aa (pv 0) (aa (aB bB (ax bg rfl T.z_len PySem.boot_len (aa (pv 5) ab)) ag) ab))))
   (af (ar (i:=8) cn.nd rfl (Or.inl rfl) (au kq (pv 1) (ao bP (hr.mono (by decide)) rfl T.fO.mg T.fO.fn.kp T.fO.bd .nil aC (aa (pv 0) (aa (ax bg rfl T.z_len PySem.boot_len (aa (pv 1) ab)) ab))) (fun _ _=>rfl)))
   (af (rL (i:=9) ["_law_k","_law_word_here"] [none,some 5] cn.nd rfl (Or.inl rfl) (fj rfl T.z_range (aa (aB cB (ax bg rfl T.z_len PySem.boot_len (aa (pv 5) ab)) ag) ab)) ⟨⟨rfl,rfl,by first | exact .inl rfl | exact .inr rfl⟩,trivial⟩ (fun _ _ _ _=>(ay (i:=0) (by decide+kernel:List.Nodup (["_law_k","_law_word_here"]:List Str)) rfl (Or.inl rfl))) (fun _ _ _ _=>(me (aH dY (au kq (pv 1) (pv 0) (fun _ _=>rfl)) (ao dh (hr.mono (by decide)) rfl T.lx.mg T.lx.fn.kp T.lx.bd .nil aC (aa (au kq (pv 1) (aB bB (pv 0) ag) (fun _ _=>rfl)) ab)) (bb _)))) (fun _ _ _ _=>(pv 0)))
   (af (ar (i:=10) cn.nd rfl (Or.inl rfl) (ao bP (hr.mono (by decide)) rfl T.fO.mg T.fO.fn.kp T.fO.bd .nil aC (aa (pv 0) (aa ag ab))))
   (ai (bE (aH qk (pv 10) ag (bb _)) (ai (ar (i:=5) cn.nd rfl (Or.inr rfl) (aB cJ (bj gk (pv 5) (bw (pv 7)) bG) (bj gk (pv 5) bG (bw (pv 7)))))) (ai (bE (PW.pt (lR (aH qk (pv 10) ag (bb _)) (jC (aH (uH K rfl hr) (pv 9) (bC ab) (bb _))))) (af (ar (i:=11) cn.nd rfl (Or.inl rfl) (au (aP K rfl) (pv 9) (ao bP (hr.mono (by decide)) rfl T.fO.mg T.fO.fn.kp T.fO.bd .nil aC (aa (pv 0) (aa (ax (aG K rfl) rfl T.z_len PySem.boot_len (aa (pv 9) ab)) ab))) (fun _ _=>rfl)))
   (ai (ar (i:=5) cn.nd rfl (Or.inr rfl) (aB cJ (bj gk (pv 5) bG (bw (pv 11))) (bj gk (pv 5) (bw (aB bB (pv 11) ag)) bG))))) (ai (bE (PW.pt (lR (aH lW (ax bg rfl T.z_len PySem.boot_len (aa (pv 5) ab)) ag (bb _)) (jC (aH oE (pv 3) ag (bb _))))) (af (ar (i:=3) cn.nd rfl (Or.inl rfl) (aB cB (pv 3) ag))
   (ai (ar (i:=5) cn.nd rfl (Or.inr rfl) (aB cJ (aB cJ (aB cJ (bj gk (pv 5) bG (bw (pv 7))) (pv 8)) (ao dh (hr.mono (by decide)) rfl T.lx.mg T.lx.fn.kp T.lx.bd .nil aC (aa (pv 8) ab))) (bj gk (pv 5) (bw (pv 7)) bG))))) a_)))))))))))
   (ai (ba (aS K rfl PySem.F.plainAttrs_list PySem.F.slot_list_append PySem.F.type_list_append bu (pv 4) (aa (pv 5) ab))))))
   (ai (aD (aZ (bh K rfl) rfl T.z_tuple boot_tuple (aa (pv 4) ab))))))),?_⟩
 obtain ⟨b,y,wt,ws,room,rfl,hb,hy,IV,IK,hw,ok,q⟩:=h
 have hs:(100000:Nat)<sizeLine:=by decide
 have Cm:=ok.ke
 have hyp:0<y.length:=List.length_pos_iff.mpr IV
 have yD: ∀{l:List Nat},l.length<=1000->l.length<=sizeLine:=fun h=>by omega
 have Qn:ws.flatten.length<=1000:=by
  have:=G2 fun w hw=>(ok.all w hw).2
  rw[List.length_flatten];omega
 (repeat (first | refine ⟨_,rfl,?_⟩ | refine ⟨_,_,rfl,rfl,?_⟩ | refine ⟨_,_,_,rfl,rfl,by first | assumption | omega,by assumption,?_⟩ | refine ⟨rfl,?_⟩ | refine And.intro (by first | decide | omega | assumption | exact Nat.le_of_ble_eq_true rfl | exact .inl ⟨by decide,by decide⟩ | exact .inr ⟨by decide,by decide⟩ | exact ⟨by decide,by decide⟩ | exact ⟨by omega,by omega⟩) ?_))
 intro p1 n1
 have ow:p1≠b:=hb.ne n1
 have s1:=ah.upd (o:=HO.lst []) n1
 have pT:=s1 _ _ hw
 refine ⟨_,rfl,rfl,_,rfl,wt,ws,rfl,rfl,aY.of pT,by rw[List.length_flatten]at Qn;omega,?_⟩
 refine ⟨_,rfl,by omega,_,_,rfl,rfl,?_⟩
 refine ⟨_,rfl,wt,rfl,⟨_,aY.of pT⟩,?_⟩
 refine Cb (K:=K) (a:=wt) (xs:=cD ws) (fun i σ H'=> ∃(us:List (List Nat)) (rm:Int) (wv tv av xv pv fv kv:Option V),σ=[some (.ref b),some (.str (S y)),some (.ref wt),some (.int rm),some (.ref p1),wv,tv,av,xv,pv,fv,kv]/\H' p1=some (.lst (cD us))/\us.length=i/\us.map aU=(ws.take i).map aU/\(∀u∈us,(∀c∈u,c∈y)/\u.length<=12)/\bM H' b/\aE b H H')
  ⟨[],_,none,none,none,none,none,none,none,rfl,ae,rfl,rfl,fun _ h=>absurd h List.not_mem_nil,hb.same s1,aE.of s1⟩ (fun i σ H' _ ⟨_,_,_,_,_,_,_,_,_,_,_,_,_,_,_,h⟩=>aY.of (aF.box hb h _ _ hw)) ?_ ?_
 ·rintro i x σ H2 hx ⟨us,rm,wv,tv,av,xv,pv,fv,kv,rfl,gb,E7,NK,Qu,ja,s2⟩
  obtain ⟨w,Qv,rfl⟩:=Dj hx
  have NF:=ok.all w (List.mem_of_getElem? Qv)
  have hi4:i<ws.length:=(List.getElem?_eq_some_iff.mp Qv).1
  refine ⟨_,rfl,b,4,rfl,ja,by decide,by decide,fun n H3 hn pR s3=>?_⟩
  have K7:=s2.trans s3
  have Li:=s3 _ _ gb ow
  refine ⟨_,rfl,by omega,by omega,?_⟩
  refine gh (fun j σ H'=> ∃(v:List Nat) (rm:Int) (tv av xv pv fv kv:Option V),σ=[some (.ref b),some (.str (S y)),some (.ref wt),some (.int rm),some (.ref p1),some (.str (S v)),tv,av,xv,pv,fv,kv]/\iK y w v/\bM H' b/\aE b H3 H')
   ⟨w,rm,tv,av,xv,pv,fv,kv,rfl,⟨NF.1,NF.2,rfl⟩,pR,aE.refl _ _⟩ ?_ ?_
  ·rintro j σ H4 hj ⟨v,rm,tv,av,xv,pv,fv,kv,rfl,hv,yB,s4⟩
   have Lf:=hv.2.1
   refine ⟨_,rfl,_,rfl,v,rfl,yD (by omega),_,_,rfl,rfl,b,_,rfl,yB,by omega,by omega,fun at' H5 zU YX s5=>?_⟩
   refine ⟨_,rfl,_,rfl,_,rfl,y,rfl,yD (by omega),b,_,rfl,YX,by omega,by omega,fun lt H6 cN WH s6=>?_⟩
   have Lm:lt<y.length:=by omega
   have Qw:=List.getElem_mem Lm
   have hle:=List.getElem?_eq_getElem Lm
   generalize y[lt]=x at Qw hle
   refine ⟨y,_,x,rfl,rfl,yD (by omega),aQ hle,?_⟩
   have Ln:=s5.trans s6
   refine ⟨_,rfl,v,rfl,yD (by omega),_,_,rfl,rfl,_,rfl,by omega,by omega,?_⟩
   refine rK (fun k acc H'=>ah H6 H'/\ ∃ks:List Nat,acc=fQ ks/\ ∀k∈ks, ∃x z,v[k]? =some x/\v[k+1]? =some z/\x=aX z) (by omega) ⟨ah.refl _,[],rfl,fun _ h=>absurd h List.not_mem_nil⟩ ?_ ?_
   ·rintro k acc H7 Nx hk hl ⟨s7,ks,rfl,NL⟩ nx
    have Dm:k<v.length:=by omega
    have uJ:k+1<v.length:=by omega
    have e1:=List.getElem?_eq_getElem Dm
    have e2:=List.getElem?_eq_getElem uJ
    generalize v[k]=x1 at e1
    have Eo:=hv.1 _ (List.getElem_mem uJ)
    generalize v[k+1]=z2 at e2 Eo
    refine ⟨⟨rfl,trivial⟩,?_⟩
    refine ⟨_,rfl,_,rfl,v,_,x1,rfl,rfl,yD (by omega),aQ (by rw[Nat.zero_add];exact e1),?_⟩
    refine ⟨_,rfl,_,rfl,_,_,rfl,rfl,v,_,z2,rfl,rfl,yD (by omega),(show oK v (0+(k:Int)+1)=_ by rw[Int.zero_add];exact aQ (j:=k+1) e2),?_⟩
    refine ⟨z2,rfl,hy.lt z2 Eo,_,_,rfl,rfl,_,rfl,dH (fun z=>?_) (fun z=>?_)⟩
    ·refine ⟨_,rfl,nx _ _ (by simpa using hl) ⟨s7,ks++[k],?_,fun k' Pe=>?_⟩⟩
     ·rw[Int.zero_add];unfold fQ;rw[List.map_append];rfl
     ·rcases List.mem_append.mp Pe with g | g
      ·exact NL k' g
      ·rw[List.mem_singleton.mp g];exact ⟨x1,z2,e1,e2,by have:=of_decide_eq_true z;exact List.cons.inj this |>.1⟩
    ·exact nx _ _ (by omega) ⟨s7,ks,rfl,NL⟩
   rintro acc H7 D hl ⟨s7,ks,rfl,NL⟩ nD
   have IW:ks.length<=12:=by rw[fb]at hl;omega
   have bD:D≠b:=(WH.same s7).ne nD
   have sD:=s7.trans (ah.upd (o:=HO.lst (fQ ks)) nD)
   have hD:upd H7 D (HO.lst (fQ ks)) D=some (HO.lst (fQ ks)):=ae
   generalize upd H7 D (HO.lst (fQ ks))=H8 at sD hD ⊢
   have YY:=WH.same sD
   have YZ:=Ln.after sD
   refine ⟨_,rfl,b,3,rfl,YY,by decide,by decide,fun f H9 hf Qx s9=>?_⟩
   have Qy:=(s4.trans YZ).trans s9
   have Br:=s9 _ _ hD bD
   have k1:=gM v at'
   have k2:=cm v at'
   refine ⟨_,rfl,_,_,rfl,rfl,_,rfl,dH (fun z0=>?_) (fun z0=>?_)⟩
   ·refine ⟨_,rfl,_,rfl,_,rfl,v,rfl,yD (by omega),?_⟩
    refine ⟨_,rfl,_,rfl,_,rfl,v,rfl,yD (by omega),_,_,rfl,rfl,by rw[k1,k2,List.length_drop,List.length_take];omega,?_⟩
    exact ⟨_,_,_,_,_,_,_,_,rfl,by rw[k1,k2];exact hv.turn hy,Qx,Qy⟩
   apply Qd (H5:=H9)
   ·intro key
    refine ⟨_,rfl,_,_,rfl,rfl,_,rfl,dH (fun z1=>?_) (fun z1=>ck rfl (key _ (ah.refl _)))⟩
    refine ⟨_,rfl,Nat.zero_le _,fun p6 n6=>?_⟩
    have s6:=ah.upd (o:=HO.lst []) n6
    refine ⟨.list (ids ks), .list [], .lst (aJ.of (s6 _ _ Br)) (kz _), .lst (aJ.of ae) .nil,⟨lay_ints _,rfl⟩,by show PyData.depthAll (ids ks)+1<=60;rw[mM];decide,?_⟩
    refine ⟨_,rfl,?_⟩
    cases ks with
    | nil=>exact ck (by rfl) (key _ s6)
    | cons k0 kt=>
     refine dZ (by rfl) ?_
     have Qz:=s6 _ _ Br
     have IX:=Qx.same s6
     have IZ:=Qy.after s6
     generalize upd H9 p6 (HO.lst [])=HA at s6 Qz IX IZ ⊢
     refine ⟨_,rfl,_,rfl,_,rfl,D,_,rfl, .inl (aJ.of Qz),b,_,rfl,IX,?_,?_,fun r HB Y0 Y1 sB=>?_⟩
     ·rw[fb,List.length_cons];omega
     ·rw[fb];omega
     rw[fb]at Y0
     have Hy:r<(k0::kt).length:=by omega
     have Y2:=sB _ _ Qz bD
     obtain ⟨x1,z2,e1,e2,e3⟩:=NL _ (List.getElem_mem Hy)
     have WI:=List.getElem?_eq_getElem Hy
     generalize (k0::kt)[r]=k at e1 e2 WI
     refine ⟨D,_,_,_,rfl,rfl,aJ.of Y2,aQ (show (fQ (k0::kt))[r]? =some (.int (k:Nat)) by unfold fQ;rw[List.getElem?_map,WI];rfl),?_⟩
     have k3:=gM v k
     have k4:=cm v (k+2)
     refine ⟨_,rfl,_,rfl,_,rfl,v,rfl,yD (by omega),?_⟩
     refine ⟨_,rfl,_,rfl,_,_,rfl,rfl,_,rfl,v,rfl,yD (by omega),_,_,rfl,rfl,?_,?_⟩
     ·show (cut v none (some (k:Int))).length+(cut v (some ((k+2:Nat):Int)) none).length<=_
      rw[k3,k4,List.length_drop,List.length_take];omega
     ·exact ⟨_,_,_,_,_,_,_,_,rfl,by show iK y w (cut v none (some (k:Int))++cut v (some ((k+2:Nat):Int)) none);rw[k3,k4];exact hv.out hy e1 e2 e3,Y1,IZ.trans sB⟩
   ·intro HA sA
    have IX:=Qx.same sA
    have IZ:=Qy.after sA
    refine ⟨_,rfl,v,rfl,yD (by omega),_,_,rfl,rfl,_,rfl,dH (fun z2=>?_) (fun z2=>ck rfl ?_)⟩
    ·refine ⟨_,rfl,_,_,rfl,rfl,_,rfl,dH (fun z3=>?_) (fun z3=>?_)⟩
     ·refine ⟨_,rfl,_,_,rfl,rfl,?_⟩
      have QA:v.length<=10:=by have:=of_decide_eq_true z2;omega
      refine ⟨_,rfl,_,rfl,_,rfl,v,rfl,yD (by omega),_,rfl,_,_,rfl,rfl,by rw[k1,List.length_take,List.length_cons,List.length_nil];omega,?_⟩
      refine ⟨_,rfl,x,rfl,hy.lt x Qw,_,_,rfl,rfl,by rw[k1];simp only[List.length_append,List.length_take,List.length_cons,List.length_nil];omega,?_⟩
      refine ⟨_,rfl,_,rfl,_,rfl,v,rfl,yD (by omega),_,_,rfl,rfl,by rw[k1,k2];simp only[List.length_append,List.length_take,List.length_drop,List.length_cons,List.length_nil];omega,?_⟩
      exact ⟨_,_,_,_,_,_,_,_,rfl,by rw[k1,k2];exact hv.ins hy Qw QA,IX,IZ⟩
     ·exact ⟨_,_,_,_,_,_,_,_,rfl,hv,IX,IZ⟩
    ·exact ⟨_,_,_,_,_,_,_,_,rfl,hv,IX,IZ⟩
  ·rintro σ H4 ⟨v,rm,tv,av,xv,pv,fv,kv,rfl,hv,yB,s4⟩
   have E8:=s4 _ _ Li ow
   refine ⟨_,rfl, .inl ⟨rfl,_,aJ.of E8⟩,_,rfl,p1,_,_,rfl,rfl,E8,by rw[bt];omega,?_⟩
   rw[mH]
   refine ⟨us++[v],_,_,_,_,_,_,_,_,rfl,ae,by simp[E7],?_,fun u hu=>?_,yB.dm ow,(K7.trans s4).dm n1⟩
   ·rw[<-take_snoc Qv,List.map_append,List.map_append,NK,List.map_singleton,List.map_singleton,hv.2.2]
   ·rcases List.mem_append.mp hu with z | z
    ·exact Qu u z
    ·rw[List.mem_singleton.mp z];exact ⟨hv.1,hv.2.1⟩
 ·rintro σ H2 ⟨us,rm,wv,tv,av,xv,pv,fv,kv,rfl,gb,E7,NK,Qu,ja,s2⟩
  rw[bt]at E7 NK
  refine ⟨_,rfl,p1,_,rfl, .inl ⟨aJ.of gb,fun t nt=>?_⟩⟩
  have y8:H t=none:=s2.none nt (ja.ne nt)
  exact q t us _ ae ⟨by omega,Qu⟩ (by rw[NK,List.take_length]) (ja.dm (hb.ne y8)) (s2.dm y8)
theorem gU:cf P w K mg base gc 2 f9 d9 ["word"] (jW K):=by
 have bT:=dG (P:=P) (w:=w) (base:=base) T
 refine T.F9.fn.ok gS (fun vs H Q E h=>og h) (fun dw A outer s H vs Q E hr h=>?_)
 refine ⟨_,(af (ar (i:=1) gS.nd rfl (Or.inl rfl) (bC ab))
   (af (bI PassesOwn.never rfl (qh (pv 0)) (ay (i:=2) gS.nd rfl (Or.inl rfl)) (ai (bE (PW.pt (lR (CA K rfl (pv 1)) (jC (aH dY (au (aP K rfl) (pv 1) (Ed zu ag) (fun _ _=>rfl)) (ao bT (hr.mono (by decide)) rfl T.F0.mg T.F0.fn.kp T.F0.bd .nil aC (aa (pv 2) ab)) (bb _))))) (ai (ba (fR K rfl PySem.F.plainAttrs_list PySem.F.slot_list_pop PySem.F.type_list_pop FU (pv 1)))) (ai (ba (aS K rfl PySem.F.plainAttrs_list PySem.F.slot_list_append PySem.F.type_list_append bu (pv 1) (aa (pv 2) ab)))))))
   (ai (aD (aS K rfl PySem.F.plainAttrs_str PySem.F.slot_str_join PySem.F.type_str_join (jN K rfl) (cE [] (by decide+kernel)) (aa (pv 1) ab)))))),?_⟩
 obtain ⟨l,rfl,hl,hz,q⟩:=h
 have hs:(100000:Nat)<sizeLine:=by decide
 (repeat (first | refine ⟨_,rfl,?_⟩ | refine ⟨_,_,rfl,rfl,?_⟩ | refine ⟨rfl,?_⟩ | refine And.intro (by first | decide | omega | assumption | exact Nat.le_of_ble_eq_true rfl | exact .inl ⟨by decide,by decide⟩ | exact .inr ⟨by decide,by decide⟩ | exact ⟨by decide,by decide⟩ | exact ⟨by omega,by omega⟩) ?_))
 intro p1 n1
 refine ⟨_,rfl,l,rfl,?_⟩
 refine vV (xs:=bX l) (fun i σ H'=> ∃lv,σ=[some (.str (S l)),some (.ref p1),lv]/\H' p1=some (.lst (bX (red (l.take i))))/\aE p1 H H') ⟨none,rfl,ae,aE.of (ah.upd n1)⟩ ?_ ?_
 ·rintro i x σ H1 hx ⟨lv,rfl,hp,s1⟩
  obtain ⟨c,hc,rfl⟩:=eI hx
  have hi:i<l.length:=(List.getElem?_eq_some_iff.mp hc).1
  have h8:c<128:=(hl c (List.mem_of_getElem? hc)).lt
  have Af:(red (l.take i)).length<=1000:=Nat.le_trans (gL _) (by rw[List.length_take];omega)
  have fin: ∀st,st=cx (red (l.take i)) c-> ∃lv,[some (V.str (S l)),some (V.ref p1),some (V.str (S [c]))]=[some (V.str (S l)),some (.ref p1),lv]/\(upd H1 p1 (.lst (bX st))) p1=some (.lst (bX (red (l.take (i+1)))))/\aE p1 H (upd H1 p1 (.lst (bX st))):=fun st e=>
   ⟨_,rfl,by rw[ae,An hc,e],fun b o e z=>by rw[aj z];exact s1 b o e z⟩
  refine ⟨_,rfl,p1,_,rfl,aJ.of hp,?_⟩
  rcases snoc_cases (red (l.take i)) with e | ⟨m,a,e⟩
  ·rw[e]at hp ⊢
   refine ck rfl ?_
   refine J0 ?_
   refine ⟨_,rfl, .inl ⟨rfl,_,aJ.of hp⟩,_,rfl,p1,_,_,rfl,rfl,hp,by rw[aT];exact (by decide:(0:Nat)<sizeLine),?_⟩
   rw[eP]
   refine fin _ ?_
   rw[e]
   unfold cx
   rw[if_neg (by simp)]
  ·rw[e]at hp Af ⊢
   have CY:m.length<=1000:=by simp at Af;omega
   rw[<-eP]at hp ⊢
   refine dZ (by simp) ?_
   refine ⟨_,rfl,_,rfl,p1,_,_,_,rfl,rfl,aJ.of hp,zC _ _,_,rfl,c,rfl,h8,[a],[aX c],rfl,rfl,_,rfl,dH (fun z=>?_) (fun z=>?_)⟩
   ·have ea:a=aX c:=by simpa using of_decide_eq_true z
    refine ⟨_,rfl, .inl ⟨rfl,_,aJ.of hp⟩,p1,_,V.str (S [a]),rfl,rfl,hp,by simp,?_⟩
    rw[List.dropLast_concat]
    refine fin _ ?_
    rw[e]
    unfold cx
    rw[if_pos (by simp[ea]),List.dropLast_concat]
   ·have ea:a≠aX c:=fun w=>z (decide_eq_true (by rw[w]))
    refine ⟨_,rfl, .inl ⟨rfl,_,aJ.of hp⟩,_,rfl,p1,_,_,rfl,rfl,hp,by rw[List.length_append,aT];show m.length+1<sizeLine;omega,?_⟩
    rw[eP,eP]
    refine fin _ ?_
    rw[e]
    unfold cx
    rw[if_neg (by simpa using ea)]
 ·rintro σ H1 ⟨lv,rfl,hp,s1⟩
  rw[mG]at hp
  refine ⟨rfl,_,rfl,p1,(red l).map fun c=>[c],rfl,rfl,aJ.of (by rw[<-fq];exact hp),?_,?_⟩
  ·rw[Ak]
   have:=gL l
   omega
  ·rw[sH]
   exact q _ (fun b o e=>s1 b o e (aq e n1))
theorem fX:cf P w K mg base gc 3 ED M7 ["word"] (kR K):=by
 have eY:=gU (P:=P) (w:=w) (base:=base) T
 have bT:=dG (P:=P) (w:=w) (base:=base) T
 refine T.qU.fn.ok dE (fun vs H Q E h=>qx h) (fun dw A outer s H vs Q E hr h=>?_)
 refine ⟨_,(af (ar (i:=1) dE.nd rfl (Or.inl rfl) (ao eY (hr.mono (by decide)) rfl T.F9.mg T.F9.fn.kp T.F9.bd .nil aC (aa (pv 0) ab)))
   (af (ar (i:=2) dE.nd rfl (Or.inl rfl) ag)
   (af (ar (i:=3) dE.nd rfl (Or.inl rfl) (ax bg rfl T.z_len PySem.boot_len (aa (pv 1) ab)))
   (af (fm PassesOwn.never (PW.pt (lR (aH Eg (aB cB (pv 3) (pv 2)) ag (bb _)) (jC (aH dY (au kq (pv 1) (pv 2) (fun _ _=>rfl)) (ao bT (hr.mono (by decide)) rfl T.F0.mg T.F0.fn.kp T.F0.bd .nil aC (aa (au kq (pv 1) (aB cB (pv 3) ag) (fun _ _=>rfl)) ab)) (bb _))))) (af (lT (i:=2) dE.nd rfl (Or.inl rfl) ag ug)
   (ai (lT (i:=3) dE.nd rfl (Or.inl rfl) ag zq))))
   (ai (aD (bj gk (pv 1) (bw (pv 2)) (bw (pv 3))))))))),?_⟩
 obtain ⟨l,rfl,hl,hz,q⟩:=h
 have hs:(100000:Nat)<sizeLine:=by decide
 refine ⟨_,rfl,l,rfl,hl,hz,fun H1 s1=>?_⟩
 have Y3:=gL l
 have cN:=uZ hl
 generalize red l=r at Y3 cN q ⊢
 have WJ:r.length<=sizeLine:=by omega
 (repeat (first | refine ⟨_,rfl,?_⟩ | refine ⟨_,_,rfl,rfl,?_⟩ | refine ⟨rfl,?_⟩ | refine And.intro (by first | decide | omega | assumption | exact Nat.le_of_ble_eq_true rfl | exact .inl ⟨by decide,by decide⟩ | exact .inr ⟨by decide,by decide⟩ | exact ⟨by decide,by decide⟩ | exact ⟨by omega,by omega⟩) ?_))
 refine ⟨fun m σ H'=> ∃(a e:Nat),σ=[some (.str (S l)),some (.str (S r)),some (.int a),some (.int e)]/\m=e - a/\a<=e/\e<=r.length/\core (yZ r a e)=core r/\H'=H1,⟨_,0,r.length,rfl,rfl,Nat.zero_le _,Nat.le_refl _,by rw[C6],rfl⟩,?_⟩
 rintro m σ H2 ⟨a,e,rfl,rfl,h1,h2,hc,rfl⟩
 have fin:core (yZ r a e)=yZ r a e->Q (.str (S (cut r (some (a:Int)) (some (e:Int))))) H2:=fun z=>by
  have e1:cut r (some (a:Int)) (some (e:Int))=yZ r a e:=by
   unfold cut yZ
   rw[HT.lE,HT.lE]
   have e1:min a r.length=a:=by omega
   have e2:min e r.length=e:=by omega
   rw[e1,e2]
  rw[e1, <-z,hc]
  exact q H2 s1
 (repeat (first | refine ⟨_,rfl,?_⟩ | refine ⟨_,_,rfl,rfl,?_⟩ | refine ⟨rfl,?_⟩ | refine And.intro (by first | decide | omega | assumption | exact Nat.le_of_ble_eq_true rfl | exact .inl ⟨by decide,by decide⟩ | exact .inr ⟨by decide,by decide⟩ | exact ⟨by decide,by decide⟩ | exact ⟨by omega,by omega⟩) ?_))
 refine dH (fun z=>?_) (fun z=>?_)
 ·have z1:(2:Int)<=(e:Int) - (a:Int):=of_decide_eq_true z
  have ha:a<r.length:=by omega
  have he:e - 1<r.length:=by omega
  have g0:oK r (a:Int)=some r[a]:=aQ (List.getElem?_eq_getElem ha)
  have g1:oK r ((e:Int) - 1)=some r[e - 1]:=by
   have:(e:Int) - 1=((e - 1:Nat):Int):=by omega
   rw[this];exact aQ (List.getElem?_eq_getElem he)
  have h8:r[e - 1]<128:=(cN _ (List.getElem_mem he)).lt
  have hw:=GS (l:=r) (s:=a) (e:=e) (by omega) h2
  refine ⟨_,rfl,_,rfl,r,_,_,rfl,rfl,WJ,g0,?_⟩
  (repeat (first | refine ⟨_,rfl,?_⟩ | refine ⟨_,_,rfl,rfl,?_⟩ | refine ⟨rfl,?_⟩ | refine And.intro (by first | decide | omega | assumption | exact Nat.le_of_ble_eq_true rfl | exact .inl ⟨by decide,by decide⟩ | exact .inr ⟨by decide,by decide⟩ | exact ⟨by decide,by decide⟩ | exact ⟨by omega,by omega⟩) ?_))
  refine ⟨r,_,_,rfl,rfl,WJ,g1,?_⟩
  (repeat (first | refine ⟨_,rfl,?_⟩ | refine ⟨_,_,rfl,rfl,?_⟩ | refine ⟨rfl,?_⟩ | refine And.intro (by first | decide | omega | assumption | exact Nat.le_of_ble_eq_true rfl | exact .inl ⟨by decide,by decide⟩ | exact .inr ⟨by decide,by decide⟩ | exact ⟨by decide,by decide⟩ | exact ⟨by omega,by omega⟩) ?_))
  refine dH (fun y=>?_) (fun y=>?_)
  ·have ey:r[a]=aX r[e - 1]:=by simpa using of_decide_eq_true y
   (repeat (first | refine ⟨_,rfl,?_⟩ | refine ⟨_,_,rfl,rfl,?_⟩ | refine ⟨rfl,?_⟩ | refine And.intro (by first | decide | omega | assumption | exact Nat.le_of_ble_eq_true rfl | exact .inl ⟨by decide,by decide⟩ | exact .inr ⟨by decide,by decide⟩ | exact ⟨by decide,by decide⟩ | exact ⟨by omega,by omega⟩) ?_))
   refine ⟨(e - 1) - (a+1),by omega,a+1,e - 1,?_,rfl,by omega,by omega,?_,rfl⟩
   ·have e1:(a:Int)+1=((a+1:Nat):Int):=by omega
    have e2:(e:Int) - 1=((e - 1:Nat):Int):=by omega
    rw[<-e1, <-e2]
    rfl
   ·rw[<-hc,hw,iS ey]
  ·have ey:r[a]≠aX r[e - 1]:=fun w=>y (decide_eq_true (by rw[w]))
   (repeat (first | refine ⟨_,rfl,?_⟩ | refine ⟨_,_,rfl,rfl,?_⟩ | refine ⟨rfl,?_⟩ | refine And.intro (by first | decide | omega | assumption | exact Nat.le_of_ble_eq_true rfl | exact .inl ⟨by decide,by decide⟩ | exact .inr ⟨by decide,by decide⟩ | exact ⟨by decide,by decide⟩ | exact ⟨by omega,by omega⟩) ?_))
   exact fin (by rw[hw,d_ ey])
 ·have z1: ¬(2:Int)<=(e:Int) - (a:Int):=fun w=>z (decide_eq_true w)
  (repeat (first | refine ⟨_,rfl,?_⟩ | refine ⟨_,_,rfl,rfl,?_⟩ | refine ⟨rfl,?_⟩ | refine And.intro (by first | decide | omega | assumption | exact Nat.le_of_ble_eq_true rfl | exact .inl ⟨by decide,by decide⟩ | exact .inr ⟨by decide,by decide⟩ | exact ⟨by decide,by decide⟩ | exact ⟨by omega,by omega⟩) ?_))
  exact fin (eh (by rw[C5 h2];omega))
theorem DI:cf P w K mg base gc 4 EE M8 ["word"] (wj K):=by
 have cR:=fX (P:=P) (w:=w) (base:=base) T
 refine T.BP.fn.ok i7 (fun vs H Q E h=>Aq h) (fun dw A outer s H vs Q E hr h=>?_)
 refine ⟨_,(af (ar (i:=1) i7.nd rfl (Or.inl rfl) (ao cR (hr.mono (by decide)) rfl T.qU.mg T.qU.fn.kp T.qU.bd .nil aC (aa (pv 0) ab)))
   (af (ar (i:=2) i7.nd rfl (Or.inl rfl) (pv 1))
   (af (bI PassesOwn.never rfl (xb rfl T.z_range (aa ag (aa (ax bg rfl T.z_len PySem.boot_len (aa (pv 1) ab)) ab))) (ay (i:=3) i7.nd rfl (Or.inl rfl)) (af (ar (i:=4) i7.nd rfl (Or.inl rfl) (aB cJ (bj gk (pv 1) (bw (pv 3)) bG) (bj gk (pv 1) bG (bw (pv 3)))))
   (ai (bE (aH Gj (pv 4) (pv 2) (bb _)) (ai (ar (i:=2) i7.nd rfl (Or.inl rfl) (pv 4))) a_))))
   (ai (aD (pv 2)))))),?_⟩
 obtain ⟨l,rfl,hl,hz,q⟩:=h
 have hs:(100000:Nat)<sizeLine:=by decide
 refine ⟨_,rfl,l,rfl,hl,hz,fun H1 s1=>?_⟩
 have Y4:(core (red l)).length<=1000:=Nat.le_trans (iF _) (Nat.le_trans (gL l) hz)
 unfold aU gZ at q
 generalize core (red l)=c at Y4 q ⊢
 have hcz:c.length<=sizeLine:=by omega
 (repeat (first | refine ⟨_,rfl,?_⟩ | refine ⟨_,_,rfl,rfl,?_⟩ | refine ⟨rfl,?_⟩ | refine And.intro (by first | decide | omega | assumption | exact Nat.le_of_ble_eq_true rfl | exact .inl ⟨by decide,by decide⟩ | exact .inr ⟨by decide,by decide⟩ | exact ⟨by decide,by decide⟩ | exact ⟨by omega,by omega⟩) ?_))
 refine ⟨_,_,rfl,⟨by decide,by decide,by omega,by omega⟩,?_⟩
 refine gh (fun i σ H'=>H'=H1/\ ∃sv bv,σ=[some (.str (S l)),some (.str (S c)),some (.str (S (cj c (jX c i)))),sv,bv]) ⟨rfl,none,none,rfl⟩ ?_ ?_
 ·rintro i σ H2 hi ⟨rfl,sv,bv,rfl⟩
  have e1:(1:Int)+(i:Int)=((i+1:Nat):Int):=by omega
  rw[e1]
  have hlen:(cut c (some ((i+1:Nat):Int)) none).length+(cut c none (some ((i+1:Nat):Int))).length<=sizeLine:=by rw[gM,cm,List.length_drop,List.length_take];omega
  have QB:cut c (some ((i+1:Nat):Int)) none++cut c none (some ((i+1:Nat):Int))=fe c (i+1):=by rw[gM,cm];rfl
  (repeat (first | refine ⟨_,rfl,?_⟩ | refine ⟨_,_,rfl,rfl,?_⟩ | refine ⟨rfl,?_⟩ | refine And.intro (by first | decide | omega | assumption | exact Nat.le_of_ble_eq_true rfl | exact .inl ⟨by decide,by decide⟩ | exact .inr ⟨by decide,by decide⟩ | exact ⟨by decide,by decide⟩ | exact ⟨by omega,by omega⟩) ?_))
  rw[QB]
  refine dH (fun z=>?_) (fun z=>?_)
  ·have z':fe c (i+1)<cj c (jX c i):=of_decide_eq_true z
   have hle:cj c (jX c (i+1))=fe c (i+1):=by rw[o_,gN];unfold cG;rw[if_pos z']
   refine ⟨_,rfl,?_⟩
   rw[hle]
   exact ⟨rfl,_,_,rfl⟩
  ·have z': ¬fe c (i+1)<cj c (jX c i):=fun y=>z (decide_eq_true y)
   have hle:cj c (jX c (i+1))=cj c (jX c i):=by rw[o_,gN];unfold cG;rw[if_neg z']
   rw[hle]
   exact ⟨rfl,_,_,rfl⟩
 ·rintro σ H2 ⟨rfl,sv,bv,rfl⟩
  have e:((c.length:Int) - 1).toNat=c.length - 1:=by omega
  rw[e]
  exact ⟨_,rfl,q _ s1⟩
theorem vz:cf P w K mg base gc 5 EF M9 ["one","other"] (mP K):=by
 have Bs:=DI (P:=P) (w:=w) (base:=base) T
 refine T.Hd.fn.ok vv (fun vs H Q E h=>sN h) (fun dw A outer s H vs Q E hr h=>?_)
 refine ⟨_,(ai (aD (jE dY (ao Bs (hr.mono (by decide)) rfl T.BP.mg T.BP.fn.kp T.BP.bd .nil aC (aa (pv 0) ab)) (ao Bs (hr.mono (by decide)) rfl T.BP.mg T.BP.fn.kp T.BP.bd .nil aC (aa (pv 1) ab)) (bb _)))),?_⟩
 obtain ⟨a,b,rfl,ha,za,hb,zb,q⟩:=h
 refine ⟨_,rfl,a,rfl,ha,za,fun H1 s1=>?_⟩
 refine ⟨_,rfl,b,rfl,hb,zb,fun H2 s2=>?_⟩
 exact ⟨_,_,rfl,rfl,q _ (s1.trans s2)⟩
theorem oA:cf P w K mg base gc 6 EM Nh ["one","other"] (jl K):=by
 have yE:=vz (P:=P) (w:=w) (base:=base) T
 refine T.Hj.fn.ok ou (fun vs H Q E h=>nj h) (fun dw A outer s H vs Q E hr h=>?_)
 refine ⟨_,(ai (aD (zo (jE qk (ax (aG K rfl) rfl T.z_len PySem.boot_len (aa (pv 0) ab)) (ax (aG K rfl) rfl T.z_len PySem.boot_len (aa (pv 1) ab)) (bb _)) (uf (ax (oT K rfl rfl) rfl T.z_all boot_all (aa (cg ["pair"] [none] (xU K rfl rfl T.z_zip (aa (pv 0) (aa (pv 1) ab))) trivial (fun _ _ _ _=>(ay (i:=0) (by decide+kernel:List.Nodup (["pair"]:List Str)) rfl (Or.inl rfl))) (fun _ _ _ _=>fD) (fun _ _ _ _=>(ao yE (hr.mono (by decide)) rfl T.Hd.mg T.Hd.fn.kp T.Hd.bd .nil aC (aa (au (aw K rfl) (pv 0) ag (fun _ _=>rfl)) (aa (au (aw K rfl) (pv 0) ag (fun _ _=>rfl)) ab))))) ab)))))),?_⟩
 obtain ⟨t,u,ws,vs',rfl,ht,hu,DA,Y5,hw,hv,q⟩:=h
 have hs:(100000:Nat)<sizeLine:=by decide
 refine ⟨_,rfl,t,_,rfl, .inr (aY.of ht),_,rfl,u,_,rfl, .inr (aY.of hu),_,_,rfl,rfl,?_⟩
 refine ⟨_,rfl,dH (fun z=>?_) (fun z=>?_)⟩
 rotate_left
 ·have hU:ws.map aU≠vs'.map aU:=fun g=>by
   have hl:=congrArg List.length g
   rw[List.length_map,List.length_map]at hl
   rw[bt,bt,hl]at z
   exact z (decide_eq_true rfl)
  have:=q H (ah.refl H)
  rw[decide_eq_false hU]at this
  exact this
 have hl:ws.length=vs'.length:=by
  have:=of_decide_eq_true z
  rw[bt,bt]at this
  omega
 refine ⟨_,rfl,_,rfl,t,u,rfl,⟨_,aY.of ht⟩,⟨_,aY.of hu⟩,?_⟩
 refine z9 (Sq1:=xH K t) (Sq2:=xH K u) (xs:=cD ws) (ys:=cD vs') (fun i acc H'=>acc=((ws.zip vs').take i).map (fun p=>V.bl (decide (aU p.1=aU p.2)))/\ah H H') (by rw[bt,bt];exact hl) (by rw[bt];omega) (fun i acc H' ⟨_,s⟩=>⟨aY.of (s _ _ ht),aY.of (s _ _ hu)⟩) ⟨rfl,ah.refl H⟩ ?_ ?_
 ·rintro i x y acc H' T Nx hx hy hac ⟨rfl,s1⟩ nT hN
  have hi:i<ws.length:=by
   have:=(List.getElem?_eq_some_iff.mp hx).1
   rwa [bt]at this
  have Dg:i<vs'.length:=by omega
  rw[mI hi]at hx
  rw[mI Dg]at hy
  cases hx
  cases hy
  have sT:=ah.upd (o:=HO.tup [.str (S ws[i]), .str (S vs'[i])]) nT
  refine ⟨trivial,?_⟩
  simp only[Ge,if_true]
  obtain ⟨w1,w2⟩:=hw _ (List.getElem_mem hi)
  obtain ⟨v1,v2⟩:=hv _ (List.getElem_mem Dg)
  refine ⟨_,rfl,_,_,0,_,rfl,rfl,aY.of ae,rfl,_,rfl,_,_,1,_,rfl,rfl,aY.of ae,rfl,?_⟩
  refine ⟨ws[i],vs'[i],rfl,w1,by omega,v1,by omega,fun H2 s2=>?_⟩
  refine hN _ _ (by rw[List.length_append,List.length_map,List.length_take];simp only[List.length_cons,List.length_nil];omega) ⟨?_,s1.trans (sT.trans s2)⟩
  have hz:(ws.zip vs')[i]? =some (ws[i],vs'[i]):=by rw[List.getElem?_zip_eq_some];exact ⟨List.getElem?_eq_getElem hi,List.getElem?_eq_getElem Dg⟩
  rw[List.take_add_one,hz,List.map_append]
  rfl
 ·rintro acc H' D iM ⟨rfl,s1⟩ nD
  have e1:(ws.zip vs').take (cD ws).length=ws.zip vs':=List.take_of_length_le (by rw[bt,List.length_zip];omega)
  rw[e1]
  refine ⟨D,(ws.zip vs').map (fun p=>decide (aU p.1=aU p.2)),rfl,?_,?_⟩
  ·rw[List.map_map]
   exact aJ.of ae
  ·have e2:((ws.zip vs').map (fun p=>decide (aU p.1=aU p.2))).all id=decide (ws.map aU=vs'.map aU):=tE hl
   rw[e2]
   exact q _ (s1.trans (ah.upd nD))
theorem kL:cf P w K mg base gc 1 EJ Nd ["one","other"] (gn K):=by
 refine T.Hg.fn.ok eG (fun vs H Q E h=>j8 h) (fun dw A outer s H vs Q E hr h=>?_)
 refine ⟨_,(af (ar (i:=2) eG.nd rfl (Or.inl rfl) ag)
   (af (fm PassesOwn.never (aH uG (aB cJ (bj gk (pv 0) (bw (pv 2)) bG) (bj gk (pv 0) bG (bw (pv 2)))) (pv 1) (bb _)) (ai (lT (i:=2) eG.nd rfl (Or.inl rfl) ag ug)))
   (ai (aD (pv 2))))),?_⟩
 obtain ⟨a,b,rfl,hz,⟨t0,h0,e0⟩,q⟩:=h
 have hs:(100000:Nat)<sizeLine:=by decide
 (repeat (first | refine ⟨_,rfl,?_⟩ | refine ⟨_,_,rfl,rfl,?_⟩ | refine ⟨_,_,_,rfl,rfl,by first | assumption | omega,by assumption,?_⟩ | refine ⟨rfl,?_⟩ | refine And.intro (by first | decide | omega | assumption | exact Nat.le_of_ble_eq_true rfl | exact .inl ⟨by decide,by decide⟩ | exact .inr ⟨by decide,by decide⟩ | exact ⟨by decide,by decide⟩ | exact ⟨by omega,by omega⟩) ?_))
 refine ⟨fun m σ H'=> ∃t:Nat,σ=[some (.str (S a)),some (.str (S b)),some (.int t)]/\m=t0 - t/\t<=t0/\H'=H,⟨_,0,rfl,rfl,Nat.zero_le _,rfl⟩,?_⟩
 rintro m σ H2 ⟨t,rfl,rfl,ht,rfl⟩
 have hl:(fe a t).length=a.length:=jY a t
 have WK:a.length<=sizeLine:=by omega
 refine ⟨_,rfl,_,rfl,_,rfl,a,rfl,WK,_,rfl,_,rfl,_,rfl,a,rfl,WK,_,_,rfl,rfl,by rw[cm,gM];unfold fe at hl;rw[<-List.length_append,hl];omega,?_⟩
 rw[cm,gM]
 refine ⟨_,rfl,fe a t,b,rfl,rfl,_,rfl,dH (fun z=>?_) (fun z=>?_)⟩
 ·have z1:fe a t≠b:=by simpa using z
  have Hx:t≠t0:=fun g=>z1 (by rw[g];exact e0)
  refine ⟨_,rfl,_,_,rfl,rfl,_,?_,t+1,by rw[show ((t+1:Nat):Int)=(t:Int)+1 by omega];rfl,rfl,by omega,rfl⟩
  omega
 ·have z1:fe a t=b:=by
   by_cases g:fe a t=b
   ·exact g
   ·exact absurd (by simpa using g) z
  exact ⟨_,rfl,q t (by omega) z1⟩
theorem tZ:cf P w K mg base gc 4 EH Na ["cord","word"] (k_ K):=by
 have iN:=kd (P:=P) (w:=w) (base:=base) T
 have eY:=gU (P:=P) (w:=w) (base:=base) T
 have cR:=fX (P:=P) (w:=w) (base:=base) T
 refine T.He.fn.ok fW (fun vs H Q E h=>qJ h) (fun dw A outer s H vs Q E hr h=>?_)
 refine ⟨_,(af (rL (i:=2) ["pair","cord"] [none,some 0] fW.nd rfl (Or.inl rfl) (cO K rfl (ao iN (hr.mono (by decide)) rfl T.BQ.mg T.BQ.fn.kp T.BQ.bd .nil aC (aa (pv 1) ab))) ⟨⟨rfl,rfl,by first | exact .inl rfl | exact .inr rfl⟩,trivial⟩ (fun _ _ _ _=>(ay (i:=0) (by decide+kernel:List.Nodup (["pair","cord"]:List Str)) rfl (Or.inl rfl))) (fun _ _ _ _=>fD) (fun _ _ _ _=>(bY (aa (cE [111,117,116] (by decide+kernel)) (aa (pv 1) (aa (au (aw K rfl) (pv 0) ag (fun _ _=>rfl)) ab))))))
   (af (ar (i:=3) fW.nd rfl (Or.inl rfl) (ax bg rfl T.z_len PySem.boot_len (aa (ao eY (hr.mono (by decide)) rfl T.F9.mg T.F9.fn.kp T.F9.bd .nil aC (aa (pv 1) ab)) ab)))
   (af (fm PassesOwn.never (aH oE (pv 3) (ax bg rfl T.z_len PySem.boot_len (aa (ao cR (hr.mono (by decide)) rfl T.qU.mg T.qU.fn.kp T.qU.bd .nil aC (aa (pv 1) ab)) ab)) (bb _)) (af (ba (aS K rfl PySem.F.plainAttrs_list PySem.F.slot_list_append PySem.F.type_list_append bu (pv 2) (aa (bY (aa (cE [116,117,114,110] (by decide+kernel)) (aa (pv 0) ab))) ab)))
   (af (ba (aS K rfl PySem.F.plainAttrs_list PySem.F.slot_list_append PySem.F.type_list_append bu (pv 2) (aa (bY (aa (cE [111,117,116] (by decide+kernel)) (aa (pv 0) (aa (aB cB (pv 3) ag) ab)))) ab)))
   (ai (lT (i:=3) fW.nd rfl (Or.inl rfl) ag zq)))))
   (ai (aD (pv 2)))))),?_⟩
 obtain ⟨y,c,w,rfl,hw,hz,q⟩:=h
 have hs:(100000:Nat)<sizeLine:=by decide
 refine ⟨_,rfl,w,rfl,hw,hz,fun t ps H1 nt ht tX ho s1=>?_⟩
 have jd:ps.length<=6:=by have:=ho.len;rw[List.length_map]at this;omega
 refine ⟨t,rfl,⟨_,aJ.of ht⟩,?_⟩
 refine fk (K:=K) (a:=t) (xs:=pI ps) (fun i acc H'=>ah H1 H'/\ ∃ds:List Dd,acc=dM ds/\(∀x∈ds,dq H' x.a x.e)/\ds.map Dd.e=(ps.take i).map fun p=> .out c p.k) (by rw[lJ];omega) (fun i acc H' h=>aJ.of (h.1 _ _ ht)) ⟨ah.refl _,[],rfl,fun _ h=>absurd h List.not_mem_nil,rfl⟩ ?_ ?_
 ·rintro i x acc H2 Nx hi hx iM ⟨s2,ds,rfl,E9,nN⟩ nx
  obtain ⟨p,hp,rfl⟩:=AO hx
  have QC:H2 p.t=_:=s2 _ _ (tX p (List.mem_of_getElem? hp))
  refine ⟨⟨rfl,trivial⟩,eK ?_⟩
  refine ⟨_,rfl,_,rfl,p.t,_,0,_,rfl,rfl,aY.of QC,rfl,by show 3<=sizeLine;decide,fun d nd=>?_⟩
  have s3:=ah.upd (o:=HO.tup [V.str (S [111,117,116]),V.int c,V.int p.k]) nd
  refine nx _ _ (by simpa using iM) ⟨s2.trans s3,ds++[⟨d, .out c p.k⟩],fM ds ⟨d, .out c p.k⟩,fun x hx=>?_,?_⟩
  ·rcases List.mem_append.mp hx with g | g
   ·exact (E9 x g).ts (aF.of s3)
   ·rw[List.mem_singleton.mp g];exact ae
  ·rw[List.map_append,nN,List.take_succ,hp]
   show _=((ps.take i)++[p]).map _
   rw[List.map_append];rfl
 ·rintro acc H2 D iM ⟨s2,ds,rfl,E9,nN⟩ hD
  rw[lJ,List.take_length]at nN
  have s3:=ah.upd (o:=HO.lst (dM ds)) hD
  have nD:H D=none:=ah.free (s1.trans s2) hD
  have pU:gp H (upd H2 D (HO.lst (dM ds))) D ds:=⟨ae,fun x hx=>(E9 x hx).ts (aF.of s3),(s1.trans s2).trans s3⟩
  have HI:WP y c w (ds.map Dd.e) (red w):=by
   rw[nN]
   have:=ho.down (y:=y) (c:=c)
   rwa [List.map_map]at this
  have BZ:ds.length<=6:=by
   have:=congrArg List.length nN
   rw[List.length_map,List.length_map]at this
   omega
  generalize upd H2 D (HO.lst (dM ds))=H3 at pU ⊢
  clear s2 E9 hD iM s3
  have Af:=gL w
  refine ⟨_,rfl,w,rfl,hw,by omega,fun H4 s4=>⟨red w,rfl,by omega,?_⟩⟩
  refine ⟨fun m σ H'=> ∃(u:List Nat) (es:List Dd),σ=[some (.int c),some (.str (S w)),some (.ref D),some (.int (u.length:Nat))]/\m=u.length/\core u=core (red w)/\u.length<=12/\gp H H' D es/\WP y c w (es.map Dd.e) u/\es.length+u.length<=20,
   ⟨_,red w,ds,rfl,rfl,rfl,by omega,pU.same s4,HI,by omega⟩,?_⟩
  rintro m σ H5 ⟨u,es,rfl,rfl,hc,hu,ud,vA,E_⟩
  have kB:=iF (red w)
  refine ⟨_,rfl,_,rfl,w,rfl,hw,by omega,fun H6 s6=>⟨core (red w),rfl,by omega,_,_,rfl,rfl,_,rfl,dH (fun z=>?_) (fun z=>?_)⟩⟩
  ·have z1:(core u).length<u.length:=by rw[hc];have:(u.length:Int)>((core (red w)).length:Int):=of_decide_eq_true z;omega
   obtain ⟨a,mm,zz,rfl,ez,kD⟩:=yg z1
   have yX:(a::(mm++[zz])).length=mm.length+2:=by simp
   have vB:=ud.same s6
   refine ⟨_,rfl, .inl ⟨rfl,_,aJ.of vB.ls⟩,_,rfl,by show 2<=sizeLine;decide,fun d1 n1=>?_⟩
   have e1:=ah.upd (o:=HO.tup [V.str (S [116,117,114,110]),V.int c]) n1
   refine ⟨D,_,_,rfl,rfl,e1 _ _ vB.ls,by rw[bW];omega,?_⟩
   rw[show dM es++[V.ref d1]=dM (es++[⟨d1, .turn c⟩]) from fM es ⟨d1, .turn c⟩]
   have B0:=vB.push (e:= .turn c) nD e1 ae
   generalize upd (upd H6 d1 (HO.tup [V.str (S [116,117,114,110]),V.int c])) D (HO.lst (dM (es++[⟨d1, .turn c⟩])))=H7 at B0 ⊢
   have em:(((a::(mm++[zz])).length:Nat):Int) - 2=((mm.length:Nat):Int):=by rw[yX];omega
   refine ⟨_,rfl, .inl ⟨rfl,_,aJ.of B0.ls⟩,_,rfl,_,rfl,_,_,rfl,rfl,by show 3<=sizeLine;decide,fun d2 n2=>?_⟩
   have e2:=ah.upd (o:=HO.tup [V.str (S [111,117,116]),V.int c,V.int ((((a::(mm++[zz])).length:Nat):Int) - 2)]) n2
   refine ⟨D,_,_,rfl,rfl,e2 _ _ B0.ls,by rw[bW,List.length_append];show es.length+1<_;omega,?_⟩
   rw[show dM (es++[⟨d1, .turn c⟩])++[V.ref d2]=dM ((es++[⟨d1, .turn c⟩])++[⟨d2, .out c mm.length⟩]) from fM _ ⟨d2, .out c mm.length⟩]
   have I_:=B0.push (e:= .out c mm.length) nD e2 (by show upd H7 d2 _ d2=_;rw[ae,em];rfl)
   refine ⟨_,rfl,_,_,rfl,rfl,mm.length,by rw[yX];omega,mm,_,by rw[<-em];rfl,rfl,kD.trans hc,by rw[yX]at hu;omega,I_,?_,by rw[yX]at E_;rw[List.length_append,List.length_append];show es.length+1+1+_<=20;omega⟩
   rw[List.map_append,List.map_append,List.append_assoc]
   exact vA.app (WP.ends ez)
  ·have z1: ¬(core u).length<u.length:=fun g=>z (decide_eq_true (by rw[hc]at g;show (u.length:Int)>_;omega))
   have Y6:core u=u:=by
    by_cases h2:2<=u.length
    ·obtain ⟨a,mm,zz,rfl⟩:=sJ h2
     by_cases ez:a=aX zz
     ·have:=iF mm
      rw[iS ez]at z1
      simp at z1
      omega
     ·exact d_ ez
    ·exact eh (by omega)
   refine ⟨_,rfl,q D es H6 nD (ud.same s6).ls (ud.same s6).de ?_ (by omega) (ud.same s6).sm⟩
   show WP y c w (es.map Dd.e) (core (red w))
   rw[<-hc,Y6]
   exact vA
theorem yF:cf P w K mg base gc 4 EI Nb ["cord","word"] (pJ K):=by
 have eY:=gU (P:=P) (w:=w) (base:=base) T
 have cR:=fX (P:=P) (w:=w) (base:=base) T
 have bT:=dG (P:=P) (w:=w) (base:=base) T
 have iN:=kd (P:=P) (w:=w) (base:=base) T
 refine T.Hf.fn.ok gD (fun vs H Q E h=>vj h) (fun dw A outer s H vs Q E hr h=>?_)
 refine ⟨_,(af (ar (i:=2) gD.nd rfl (Or.inl rfl) (bC ab))
   (af (ar (i:=3) gD.nd rfl (Or.inl rfl) (ao eY (hr.mono (by decide)) rfl T.F9.mg T.F9.fn.kp T.F9.bd .nil aC (aa (pv 1) ab)))
   (af (bI PassesOwn.never rfl (Gh rfl T.z_reversed (aa (bj gk (pv 3) bG (bw (aB pZ (aB cB (ax bg rfl T.z_len PySem.boot_len (aa (pv 3) ab)) (ax bg rfl T.z_len PySem.boot_len (aa (ao cR (hr.mono (by decide)) rfl T.qU.mg T.qU.fn.kp T.qU.bd .nil aC (aa (pv 1) ab)) ab))) ag))) ab)) (ay (i:=4) gD.nd rfl (Or.inl rfl)) (af (ba (aS K rfl PySem.F.plainAttrs_list PySem.F.slot_list_append PySem.F.type_list_append bu (pv 2) (aa (bY (aa (cE [105,110] (by decide+kernel)) (aa (pv 0) (aa ag (aa (ao bT (hr.mono (by decide)) rfl T.F0.mg T.F0.fn.kp T.F0.bd .nil aC (aa (pv 4) ab)) (aa ag ab)))))) ab)))
   (ai (ba (aS K rfl PySem.F.plainAttrs_list PySem.F.slot_list_append PySem.F.type_list_append bu (pv 2) (aa (bY (aa (cE [116,117,114,110] (by decide+kernel)) (aa (pv 0) ab))) ab))))))
   (af (bI PassesOwn.never rfl (CZ K rfl rfl T.z_reversed (aa (ao iN (hr.mono (by decide)) rfl T.BQ.mg T.BQ.fn.kp T.BQ.bd .nil aC (aa (pv 1) ab)) ab)) (ay (i:=5) gD.nd rfl (Or.inl rfl)) (ai (ba (aS K rfl PySem.F.plainAttrs_list PySem.F.slot_list_append PySem.F.type_list_append bu (pv 2) (aa (bY (aa (cE [105,110] (by decide+kernel)) (aa (pv 0) (aa (au (aw K rfl) (pv 5) ag (fun _ _=>rfl)) (aa (au (aw K rfl) (pv 5) ag (fun _ _=>rfl)) (aa ag ab)))))) ab)))))
   (ai (aD (pv 2))))))),?_⟩
 obtain ⟨y,c,w,rfl,hy,zc,hz,q⟩:=h
 have hs:(100000:Nat)<sizeLine:=by decide
 have hw: ∀c∈w,Lt c:=fun c hc=>hy.lt c (zc c hc)
 have Af:=gL w
 have kB:=iF (red w)
 (repeat (first | refine ⟨_,rfl,?_⟩ | refine ⟨_,_,rfl,rfl,?_⟩ | refine ⟨_,_,_,rfl,rfl,by first | assumption | omega,by assumption,?_⟩ | refine ⟨rfl,?_⟩ | refine And.intro (by first | decide | omega | assumption | exact Nat.le_of_ble_eq_true rfl | exact .inl ⟨by decide,by decide⟩ | exact .inr ⟨by decide,by decide⟩ | exact ⟨by decide,by decide⟩ | exact ⟨by omega,by omega⟩) ?_))
 intro D nD
 have s1:=ah.upd (o:=HO.lst []) nD
 have HJ:gp H (upd H D (HO.lst [])) D []:=⟨ae,fun _ h=>absurd h List.not_mem_nil,s1⟩
 generalize upd H D (HO.lst [])=H1 at HJ ⊢
 refine ⟨_,rfl,w,rfl,hw,by omega,fun H2 s2=>?_⟩
 have Fb:=HJ.same s2
 obtain ⟨p,jd,lz⟩:=u6 (show AllLt (red w) from uZ hw)
 have hlen:(red w).length=2*p.length+(core (red w)).length:=by
  have:=congrArg List.length lz
  rw[List.length_append,List.length_append]at this
  unfold su at this
  simp at this
  omega
 have Qf:(red w).take p.length=p:=by conv=>lhs;rw[lz];rw[List.append_assoc,List.take_left]
 have jj: ∀x∈p,x∈y:=fun x hx=>zc x (Dk (by rw[lz,List.append_assoc];exact List.mem_append_left _ hx))
 refine ⟨_,rfl,_,rfl,red w,rfl,by omega,?_⟩
 refine ⟨_,rfl,w,rfl,hw,by omega,fun H3 s3=>⟨core (red w),rfl,by omega,_,_,rfl,rfl,?_⟩⟩
 have pU:=Fb.same s3
 clear HJ Fb s1 s2 s3
 refine ⟨_,_,rfl,rfl,⟨by decide,by decide⟩,_,rfl,red w,rfl,by omega,?_⟩
 have Lo:(((red w).length:Int) - ((core (red w)).length:Int)) / 2=((p.length:Nat):Int):=by omega
 rw[Lo,j5,Qf]
 refine ⟨p,rfl,by omega,?_⟩
 have QD:(bX p).reverse=bX p.reverse:=by unfold bX;rw[List.map_reverse]
 rw[QD]
 have P5: ∀x∈p.reverse,Lt x:=fun x hx=>jd x (List.mem_reverse.mp hx)
 refine vV (xs:=bX p.reverse) (fun i σ H'=> ∃(ds:List Dd) (lv:Option V),σ=[some (.int c),some (.str (S w)),some (.ref D),some (.str (S (red w))),lv,none]/\gp H H' D ds/\ds.map Dd.e=ng c (p.reverse.take i))
  ⟨[],none,rfl,pU,rfl⟩ ?_ ?_
 ·rintro i v σ H4 hv ⟨ds,lv,rfl,rg,nN⟩
  obtain ⟨x,hx,rfl⟩:=eI hv
  have y6:=P5 x (List.mem_of_getElem? hx)
  have hi:i<p.reverse.length:=(List.getElem?_eq_some_iff.mp hx).1
  have BZ:ds.length<=24:=by
   have:=congrArg List.length nN
   rw[List.length_map,nk,List.length_take]at this
   rw[List.length_reverse]at this hi
   omega
  refine ⟨_,rfl, .inl ⟨rfl,_,aJ.of rg.ls⟩,_,rfl,_,rfl,x,rfl,y6.lt,by show 5<=sizeLine;decide,fun d1 n1=>?_⟩
  have e1:=ah.upd (o:=HO.tup [V.str (S [105,110]),V.int c,V.int 0,V.str (S [aX x]),V.int 0]) n1
  refine ⟨D,_,_,rfl,rfl,e1 _ _ rg.ls,by rw[bW];omega,?_⟩
  rw[show dM ds++[V.ref d1]=dM (ds++[⟨d1, .ins c 0 (aX x) 0⟩]) from fM ds ⟨d1, .ins c 0 (aX x) 0⟩]
  have ue:=rg.push (e:= .ins c 0 (aX x) 0) nD e1 ae
  generalize upd (upd H4 d1 (HO.tup [V.str (S [105,110]),V.int c,V.int 0,V.str (S [aX x]),V.int 0])) D (HO.lst (dM (ds++[⟨d1, .ins c 0 (aX x) 0⟩])))=H5 at ue ⊢
  refine ⟨_,rfl, .inl ⟨rfl,_,aJ.of ue.ls⟩,_,rfl,by show 2<=sizeLine;decide,fun d2 n2=>?_⟩
  have e2:=ah.upd (o:=HO.tup [V.str (S [116,117,114,110]),V.int c]) n2
  refine ⟨D,_,_,rfl,rfl,e2 _ _ ue.ls,by rw[bW,List.length_append];show ds.length+1<_;omega,?_⟩
  rw[show dM (ds++[⟨d1, .ins c 0 (aX x) 0⟩])++[V.ref d2]=dM ((ds++[⟨d1, .ins c 0 (aX x) 0⟩])++[⟨d2, .turn c⟩]) from fM _ ⟨d2, .turn c⟩]
  refine ⟨_,_,rfl,ue.push (e:= .turn c) nD e2 ae,?_⟩
  rw[List.map_append,List.map_append,nN,List.take_succ,hx,List.append_assoc]
  show ng c _++_=ng c (p.reverse.take i++[x])
  rw[kC]
  rfl
 ·rintro σ H4 ⟨ds,lv,rfl,rg,nN⟩
  rw[aT,List.take_length]at nN
  have QE:WP y c (core (red w)) (ds.map Dd.e) (red w):=by
   rw[nN]
   have:=WP.EA (y:=y) (c:=c) p (core (red w)) (fun x hx=>⟨jd x hx,hy.cl x (jj x hx)⟩) (by omega)
   rw[<-lz]at this
   exact this
  have BZ:ds.length<=24:=by
   have:=congrArg List.length nN
   rw[List.length_map,nk,List.length_reverse]at this
   omega
  refine ⟨_,rfl,w,rfl,hw,hz,fun t ps H5 nt ht tX ho s5=>?_⟩
  have Y7:ps.length<=6:=by have:=ho.len;rw[List.length_map]at this;omega
  have ue:=rg.same s5
  refine ⟨t,_,rfl,aJ.of ht,?_⟩
  refine Ag (K:=K) (a:=t) (xs:=pI ps) (fun i σ H'=> ∃(es:List Dd) (pv:Option V),σ=[some (.int c),some (.str (S w)),some (.ref D),some (.str (S (red w))),lv,pv]/\gp H H' D es/\es.map Dd.e=ds.map Dd.e++((ps.reverse.take i).map fun p=> .ins c p.k p.x 0)/\aE D H5 H')
   ⟨ds,none,rfl,ue,by simp,aE.refl _ _⟩ (fun i σ H' _ ⟨_,_,_,_,_,h⟩=>aJ.of (h _ _ ht (aq rg.ls nt).symm)) ?_ ?_
  ·rintro i v σ H6 hv ⟨es,pv,rfl,yG,zd,s6⟩
   have Y8:(pI ps.reverse)[i]? =some v:=by unfold pI at hv ⊢; rw[<-List.map_reverse]at hv;exact hv
   obtain ⟨r,HK,rfl⟩:=AO Y8
   have Y9:r∈ps:=List.mem_reverse.mp (List.mem_of_getElem? HK)
   have WL:=tX r Y9
   have NM:H6 r.t=_:=s6 _ _ WL (fun z=>by have:=ue.ls;rw[<-z,show H5 r.t=_ from WL]at this;cases this)
   have x8:es.length<=30:=by
    have:=congrArg List.length zd
    rw[List.length_map,List.length_append,List.length_map,List.length_map,List.length_take,List.length_reverse]at this
    omega
   refine ⟨_,rfl, .inl ⟨rfl,_,aJ.of yG.ls⟩,_,rfl,_,rfl,r.t,_,0,_,rfl,rfl,aY.of NM,rfl,_,rfl,r.t,_,1,_,rfl,rfl,aY.of NM,rfl,by show 5<=sizeLine;decide,fun d1 n1=>?_⟩
   have e1:=ah.upd (o:=HO.tup [V.str (S [105,110]),V.int c,V.int r.k,V.str (S [r.x]),V.int 0]) n1
   refine ⟨D,_,_,rfl,rfl,e1 _ _ yG.ls,by rw[bW];omega,?_⟩
   rw[show dM es++[V.ref d1]=dM (es++[⟨d1, .ins c r.k r.x 0⟩]) from fM es ⟨d1, .ins c r.k r.x 0⟩]
   refine ⟨_,_,rfl,yG.push (e:= .ins c r.k r.x 0) nD e1 ae,?_,fun a u ea na=>by rw[aj na];exact e1 _ _ (s6 a u ea na)⟩
   rw[List.map_append,zd,List.take_succ,HK,List.append_assoc]
   show _=_++((ps.reverse.take i++[r]).map _)
   rw[List.map_append]
   rfl
  ·rintro σ H6 ⟨es,pv,rfl,yG,zd,s6⟩
   rw[lJ, <-List.length_reverse,List.take_length]at zd
   have x8:es.length<=100:=by
    have:=congrArg List.length zd
    rw[List.length_map,List.length_append,List.length_map,List.length_map,List.length_reverse]at this
    omega
   refine ⟨_,rfl,q D es H6 nD yG.ls yG.de ?_ x8 yG.sm⟩
   show WP y c (core (red w)) (es.map Dd.e) w
   rw[zd]
   refine QE.app ?_
   have:=ho.up (y:=y) (c:=c) zc hz
   rw[<-List.map_reverse,List.map_map]at this
   exact this
theorem qW:cf P w K mg base gc 5 EK Nf ["cord","one","other"] (j9 K):=by
 have lA:=kL (P:=P) (w:=w) (base:=base) T
 have cR:=fX (P:=P) (w:=w) (base:=base) T
 have vC:=tZ (P:=P) (w:=w) (base:=base) T
 have Bt:=yF (P:=P) (w:=w) (base:=base) T
 refine T.Hh.fn.ok ka (fun vs H Q E h=>oj h) (fun dw A outer s H vs Q E hr h=>?_)
 refine ⟨_,(af (bE (aH dY (pv 1) (pv 2) (bb _)) (ai (aD (bC ab))) a_)
   (af (ar (i:=3) ka.nd rfl (Or.inl rfl) (ao lA (hr.mono (by decide)) rfl T.Hg.mg T.Hg.fn.kp T.Hg.bd .nil aC (aa (ao cR (hr.mono (by decide)) rfl T.qU.mg T.qU.fn.kp T.qU.bd .nil aC (aa (pv 1) ab)) (aa (ao cR (hr.mono (by decide)) rfl T.qU.mg T.qU.fn.kp T.qU.bd .nil aC (aa (pv 2) ab)) ab))))
   (ai (aD (aB iq (aB iq (ao vC (hr.mono (by decide)) rfl T.He.mg T.He.fn.kp T.He.bd .nil aC (aa (pv 0) (aa (pv 1) ab))) (aB FX (bC (aa (bY (aa (cE [116,117,114,110] (by decide+kernel)) (aa (pv 0) ab))) ab)) (pv 3))) (ao Bt (hr.mono (by decide)) rfl T.Hf.mg T.Hf.fn.kp T.Hf.bd .nil aC (aa (pv 0) (aa (pv 2) ab)))))))),?_⟩
 obtain ⟨y,c,w,v,rfl,hy,zc,vw,Lp,NN,Bu,q⟩:=h
 have hs:(100000:Nat)<sizeLine:=by decide
 have hw: ∀c∈w,Lt c:=fun c hc=>hy.lt c (zc c hc)
 have hv: ∀c∈v,Lt c:=fun c hc=>hy.lt c (Lp c hc)
 refine ⟨_,rfl,_,rfl,w,v,rfl,rfl,_,rfl,dH (fun z=>?_) (fun z=>?_)⟩
 ·have e:w=v:=of_decide_eq_true z
  subst e
  refine ⟨Nat.zero_le _,fun t nt=>?_⟩
  exact q t [] _ nt ae (fun _ h=>absurd h List.not_mem_nil) .nil (Nat.zero_le _) (ah.upd nt)
 ·refine ⟨_,rfl,w,rfl,hw,by omega,fun H1 s1=>?_⟩
  refine ⟨_,rfl,v,rfl,hv,by omega,fun H2 s2=>?_⟩
  have kB:(core (red w)).length<=12:=Nat.le_trans (iF _) (Nat.le_trans (gL w) vw)
  refine ⟨core (red w),core (red v),rfl,by omega,vh Bu,fun t ht et=>?_⟩
  refine ⟨_,rfl,_,rfl,y,c,w,rfl,hw,vw,fun a ds H3 na ha E9 HI BZ s3=>?_⟩
  refine ⟨_,rfl,by show 2<=sizeLine;decide,fun d1 n1=>?_⟩
  have e1:=ah.upd (o:=HO.tup [V.str (S [116,117,114,110]),V.int c]) n1
  refine ⟨by show 1<=sizeLine;decide,fun l1 Y_=>?_⟩
  have e2:=ah.upd (o:=HO.lst [V.ref d1]) Y_
  refine ⟨_,rfl,l1,(t:Int),[V.ref d1],rfl,rfl,ae,by omega,by omega,by simp;omega,fun l2 Za=>?_⟩
  rw[Int.toNat_natCast,tG d1 c t]
  have e3:=ah.upd (o:=HO.lst (dM (List.replicate t ⟨d1, .turn c⟩))) Za
  have HL:=(e1.trans e2).trans e3
  refine ⟨a,l2,_,_,rfl,rfl,HL _ _ ha,ae,by rw[bW,bW,List.length_replicate];omega,fun l3 Zb=>?_⟩
  rw[lK]
  have e4:=ah.upd (o:=HO.lst (dM (ds++List.replicate t ⟨d1, .turn c⟩))) Zb
  have Bv:=HL.trans e4
  have qV:upd (upd (upd (upd H3 d1 (HO.tup [V.str (S [116,117,114,110]),V.int c])) l1 (HO.lst [V.ref d1])) l2 (HO.lst (dM (List.replicate t ⟨d1, .turn c⟩)))) l3 (HO.lst (dM (ds++List.replicate t ⟨d1, .turn c⟩))) l3=some (HO.lst (dM (ds++List.replicate t ⟨d1, .turn c⟩))):=ae
  have Lq:upd (upd (upd (upd H3 d1 (HO.tup [V.str (S [116,117,114,110]),V.int c])) l1 (HO.lst [V.ref d1])) l2 (HO.lst (dM (List.replicate t ⟨d1, .turn c⟩)))) l3 (HO.lst (dM (ds++List.replicate t ⟨d1, .turn c⟩))) d1=some (HO.tup [V.str (S [116,117,114,110]),V.int c]):=((e2.trans e3).trans e4) _ _ ae
  generalize upd (upd (upd (upd H3 d1 (HO.tup [V.str (S [116,117,114,110]),V.int c])) l1 (HO.lst [V.ref d1])) l2 (HO.lst (dM (List.replicate t ⟨d1, .turn c⟩)))) l3 (HO.lst (dM (ds++List.replicate t ⟨d1, .turn c⟩)))=H4 at Bv qV Lq ⊢
  clear e1 e2 e3 e4 HL
  have DC:=((s1.trans s2).trans s3).trans Bv
  refine ⟨_,rfl,_,rfl,y,c,v,rfl,hy,Lp,NN,fun b es H5 nb hb Lr QE x8 s5=>?_⟩
  refine ⟨l3,b,_,_,rfl,rfl,s5 _ _ qV,hb,by rw[bW,bW,List.length_append,List.length_replicate];omega,fun r nr=>?_⟩
  rw[lK]
  have e6:=ah.upd (o:=HO.lst (dM (ds++List.replicate t ⟨d1, .turn c⟩++es))) nr
  refine q r (ds++List.replicate t ⟨d1, .turn c⟩++es) _ (ah.free (DC.trans s5) nr) ae (fun x hx=>?_) ?_ (by rw[List.length_append,List.length_append,List.length_replicate];omega) ((DC.trans s5).trans e6)
  ·rcases List.mem_append.mp hx with g | g
   ·rcases List.mem_append.mp g with g | g
    ·exact (E9 x g).ts (aF.of ((Bv.trans s5).trans e6))
    ·rw[(List.mem_replicate.mp g).2]
     exact (s5.trans e6) _ _ Lq
   ·exact (Lr x g).ts (aF.of e6)
  ·show WP y c w ((ds++List.replicate t (⟨d1, .turn c⟩:Dd)++es).map Dd.e) v
   rw[List.map_append,List.map_append,List.map_replicate]
   refine (HI.app ?_).app QE
   rw[<-et]
   exact WP.turns t ht
theorem t4:cf P w K mg base gc 1 f1 d1 ["yard"] (sR K):=by
 refine T.F1.fn.ok Bg (fun vs H Q E h=>x_ h) (fun dw A outer s H vs Q E hr h=>?_)
 refine ⟨_,(ai (aD (aS K rfl PySem.F.plainAttrs_str PySem.F.slot_str_join PySem.F.type_str_join (jN K rfl) (cE [] (by decide+kernel)) (aa (ax (jQ K rfl) rfl T.z_sorted boot_sorted (aa (cg ["letter"] [none] (qh (pv 0)) trivial (fun _ _ _ _=>(ay (i:=0) (by decide+kernel:List.Nodup (["letter"]:List Str)) rfl (Or.inl rfl))) (fun _ _ _ _=>(me (ib (fR K rfl PySem.F.plainAttrs_str PySem.F.slot_str_islower PySem.F.type_str_islower mh (pv 0))))) (fun _ _ _ _=>(pv 0))) ab)) ab)))),?_⟩
 obtain ⟨l,rfl,hl,hz,q⟩:=h
 have hs:(1000:Nat)<sizeLine:=by decide
 refine ⟨rfl,_,rfl,l,rfl,?_⟩
 refine mv (xs:=bX l) (fun i acc H'=>ah H H'/\acc=bX ((l.take i).filter cF)) (by rw[aT];omega) ⟨ah.refl H,rfl⟩ ?_ ?_
 ·rintro i x acc H1 Nx hi hx iM ⟨s1,rfl⟩ nx
  obtain ⟨c,hc,rfl⟩:=eI hx
  have e:=kT (p:=cF) hc
  refine ⟨trivial,?_⟩
  refine ⟨_,rfl,rfl,c,rfl,rfl,hl c (List.mem_of_getElem? hc),_,rfl,?_⟩
  refine dH (fun z=>?_) (fun z=>?_)
  ·rw[if_pos z]at e
   exact ⟨_,rfl,nx _ _ (by simpa using iM) ⟨s1,by rw[e, <-eP]⟩⟩
  ·rw[if_neg z,List.append_nil]at e
   exact nx _ _ (Nat.le_succ_of_le iM) ⟨s1,by rw[e]⟩
 ·rintro acc H1 D iM ⟨s1,rfl⟩ hD
  rw[mG,fq]
  have Qn:(l.filter cF).length<=l.length:=List.length_filter_le _ _
  refine ⟨D,(l.filter cF).map fun c=>[c],rfl,aJ.of ae,by rw[List.length_map];omega,fun p ls hp jj IH=>?_⟩
  obtain ⟨l',rfl,pl⟩:=v5 jj
  have jA:=pl.length_eq
  refine ⟨p,l'.map fun c=>[c],rfl,rfl,aJ.of ae,by rw[Ak];omega,?_⟩
  rw[sH]
  exact q l' _ pl (v7 IH) ((s1.trans (ah.upd hD)).trans (ah.upd hp))
theorem vD:cf P w K mg base gc 1 f3 d3 ["orders","band","number"] (mZ K):=by
 refine T.F3.fn.ok jy (fun vs H Q E h=>sZ h) (fun dw A outer s H vs Q E hr h=>?_)
 refine ⟨_,(af (bE (PW.pt (kN (Fv (xE (cI hr) (pv 1) (pv 0)) (by with_unfolding_all rfl)) (ic (cZ (c_ fc lW ag (pv 2) (aB cB (ax (aG K rfl) rfl T.z_len PySem.boot_len (aa (bV (cI hr) (pv 0) (pv 1) (fun _ _=>rfl)) ab)) ag)))))) (ai (aD cX)) a_)
   (af (ar (i:=3) jy.nd rfl (Or.inl rfl) (bV (cI hr) (pv 0) (pv 1) (fun _ _=>rfl)))
   (af (ar (i:=4) jy.nd rfl (Or.inl rfl) (au (aP K rfl) (pv 3) (pv 2) (fun _ _=>rfl)))
   (af (ij (au (aP K rfl) (pv 3) (aB bB (pv 2) ag) (fun _ _=>rfl)) (ig (pv 3) (pv 2) set_list))
   (af (ij (pv 4) (ig (pv 3) (aB bB (pv 2) ag) set_list))
   (ai (aD cX))))))),?_⟩
 obtain ⟨d,bs,os,b,j,n,o,rfl,hO,nd,Di,hb,ho,hn,q⟩:=h
 have hs:(100000:Nat)<sizeLine:=by decide
 have hV:=List.mem_of_getElem? ho
 have pG:=hO.ok o hV
 have QF:=pG.fw
 have QG:=eT nd hb ho
 have dg:df H d (V.str (S [b])) (some (.ref o.o)):=by rw[<-QG];exact df.k (k:=kS [b]) hO.dk
 have h0:o.ps[n]? =some (o.ps[n]'(by omega)):=List.getElem?_eq_getElem _
 have h1:o.ps[n+1]? =some o.ps[n+1]:=List.getElem?_eq_getElem hn
 generalize hp0:(o.ps[n]'(by omega))=p0 at h0
 generalize gb:o.ps[n+1]=p1 at h1
 have g0:(cL o.ps)[n]? =some (V.ref p0.t):=by unfold cL;rw[List.getElem?_map,h0];rfl
 have g1:(cL o.ps)[n+1]? =some (V.ref p1.t):=by unfold cL;rw[List.getElem?_map,h1];rfl
 have Zc:swapAt n o.ps=(o.ps.set n p1).set (n+1) p0:=by unfold swapAt;rw[h0,h1]
 have en:(n:Int)+1=((n+1:Nat):Int):=by omega
 refine ⟨_,rfl,_,rfl,d,_,rfl,dg,_,rfl,ck rfl ?_⟩
 refine ⟨_,rfl,_,_,rfl,rfl,_,rfl,dZ (decide_eq_true (by omega)) ?_⟩
 refine ⟨_,rfl,_,rfl,d,_,rfl,dg,o.o,_,rfl, .inl (aJ.of pG.tp),_,_,rfl,rfl,_,_,rfl,rfl,_,rfl,ck ?_ ?_⟩
 ·rw[bK,decide_eq_true (by omega)];rfl
 refine ⟨_,rfl,_,rfl,d,_,rfl,dg,?_⟩
 refine ⟨_,rfl,_,rfl,o.o,_,_,_,rfl,rfl,aJ.of pG.tp,aQ g0,?_⟩
 refine ⟨_,rfl,_,rfl,_,_,rfl,rfl,o.o,_,_,_,rfl,rfl,aJ.of pG.tp,by rw[en];exact aQ g1,?_⟩
 refine ⟨_,rfl,_,rfl,o.o,_,_,n,rfl,rfl,pG.tp,?_,?_⟩
 ·rw[bK];exact iU (by omega)
 rw[wx]
 refine ⟨_,rfl,_,rfl,_,rfl,_,_,rfl,rfl,o.o,_,_,n+1,rfl,rfl,ae,?_,?_⟩
 ·rw[en,bK,List.length_set];exact iU (by omega)
 rw[wx,pV, <-Zc]
 have IB:=swap_perm n o.ps
 refine q _ (hO.mut ho (fun p hp=>pG.pr p (IB.mem_iff.mp hp)) (by rw[IB.length_eq];exact QF)) fun a u ea z=>by rw[aj z];exact ea
theorem iO:cf P w K mg base gc 1 f2 d2 ["orders","cord","places"] (kY K):=by
 refine T.F2.fn.ok fU (fun vs H Q E h=>qC h) (fun dw A outer s H vs Q E hr h=>?_)
 refine ⟨_,(ai (bI PassesOwn.never rfl (cO K rfl (aZ (uT rfl) rfl T.z_list boot_list (aa (pv 0) ab))) (ay (i:=3) fU.nd rfl (Or.inl rfl)) (af (ar (i:=4) fU.nd rfl (Or.inl rfl) (bC ab))
   (af (bI PassesOwn.never rfl (cO K rfl (bV (cI hr) (pv 0) (pv 3) (fun _ _=>rfl))) (ay (i:=5) fU.nd rfl (Or.inl rfl)) (ai (bE (aH Gi (au (aw K rfl) (pv 5) ag (fun _ _=>rfl)) (pv 1) (bb _)) (ai (ba (aS K rfl PySem.F.plainAttrs_list PySem.F.slot_list_append PySem.F.type_list_append bu (pv 4) (aa (pv 5) ab)))) (ai (bE (aH Cd (au (aP K rfl) (pv 2) (au (aw K rfl) (pv 5) ag (fun _ _=>rfl)) (fun _ _=>rfl)) pY (bb _)) (ai (ba (aS K rfl PySem.F.plainAttrs_list PySem.F.slot_list_append PySem.F.type_list_append bu (pv 4) (aa (bY (aa (pv 1) (aa (au (aP K rfl) (pv 2) (au (aw K rfl) (pv 5) ag (fun _ _=>rfl)) (fun _ _=>rfl)) ab))) ab)))) a_)))))
   (ai (jT (cI hr) (pv 0) (pv 3) (pv 4) rfl)))))),?_⟩
 obtain ⟨d,c,pp,bs,os,xs,f,rfl,hO,nd,Di,hc,NO,hx,hf,q⟩:=h
 have hs:(100000:Nat)<sizeLine:=by decide
 have QH:=hO.ln
 refine ⟨_,rfl,d,_,rfl,hO.dk,by rw[mY QH];omega,fun lp nl=>?_⟩
 rw[pA QH]
 have sL:=ah.upd (o:=HO.lst (bX bs)) nl
 have QI:upd H lp (HO.lst (bX bs)) lp=some (HO.lst (bX bs)):=ae
 have ze:=hO.same sL
 have DJ:=sL _ _ NO
 have QJ:lp≠d:=Ne.symm (aq hO.dk nl)
 generalize upd H lp (HO.lst (bX bs))=H1 at sL QI ze DJ ⊢
 have QK:pp≠d:=fun z=>by rw[z,ze.dk]at DJ;cases DJ
 refine ⟨lp,rfl,⟨_,aJ.of QI⟩,?_⟩
 refine il (K:=K) (a:=lp) (xs:=bX bs) (fun i σ H'=> ∃(bv kv sv:Option V) (cur:List Od),σ=[some (.ref d),some (.int c),some (.ref pp),bv,kv,sv]/\cur.length=os.length/\bS H' d bs cur/\cur.drop i=os.drop i/\(cur.take i).map br=(os.take i).map (fun o=>bZ c f (br o))/\(∀o∈cur.take i,H1 o.o=none)/\aE d H1 H')
  ⟨none,none,none,os,rfl,rfl,ze,rfl,rfl,by simp,aE.refl _ _⟩ (fun i σ H' _ ⟨_,_,_,_,_,_,_,_,_,_,s⟩=>aJ.of (s _ _ QI QJ)) ?_ ?_
 ·rintro i x σ H2 J6 ⟨bv,kv,sv,cur,rfl,kB,HM,QL,uo,qg,s2⟩
  obtain ⟨b,hb,rfl⟩:=eI J6
  have hi:i<bs.length:=(List.getElem?_eq_some_iff.mp hb).1
  have WM:i<cur.length:=by omega
  have Ja:i<os.length:=by omega
  have HN:cur[i]? =some os[i]:=by
   have e:=congrArg (fun l=>l[0]?) QL
   simp only[List.getElem?_drop,Nat.add_zero]at e
   rw[e,List.getElem?_eq_getElem Ja]
  have hV:os[i]∈os:=List.getElem_mem Ja
  have HP:os[i]∈cur:=List.mem_of_getElem? HN
  generalize DK:os[i]=o at HN hV HP
  have pG:=HM.ok o HP
  have y7:=HM.ne HP
  have Ls:=s2 _ _ DJ QK
  refine ⟨by show 0<=sizeLine;decide,fun p5 n5=>?_⟩
  have s5:=ah.upd (o:=HO.lst []) n5
  have h5:upd H2 p5 (HO.lst []) p5=some (HO.lst []):=ae
  have nR:=HM.same s5
  have DL:=pG.same s5
  have Lu:=s5 _ _ Ls
  have Zd:o.o≠p5:=aq pG.tp n5
  have Ze:pp≠p5:=aq Ls n5
  generalize upd H2 p5 (HO.lst [])=H5 at s5 h5 nR DL Lu ⊢
  refine ⟨_,rfl,_,rfl,d, .ref o.o,rfl,by rw[<-eT nd hb HN];exact df.k (k:=kS [b]) nR.dk,o.o,rfl,⟨_,aJ.of DL.tp⟩,?_⟩
  refine il (K:=K) (a:=o.o) (xs:=cL o.ps) (fun j σ H'=> ∃(sv:Option V) (us:List Pr),σ=[some (.ref d),some (.int c),some (.ref pp),some (.str (S [b])),some (.ref p5),sv]/\H' p5=some (.lst (cL us))/\(∀u∈us,fK H' u)/\us.map Pr.pair=bZ c f ((o.ps.take j).map Pr.pair)/\us.length<=j/\aE p5 H5 H')
   ⟨sv,[],rfl,h5,by simp,rfl,Nat.zero_le _,aE.refl _ _⟩ (fun j σ H' _ ⟨_,_,_,_,_,_,_,s⟩=>aJ.of (s _ _ DL.tp Zd)) ?_ ?_
  ·rintro j x σ H6 Lh ⟨sv,us,rfl,B1,FV,Jb,E7,s6⟩
   obtain ⟨p,QM,rfl⟩:=u9 Lh
   have jj:=List.mem_of_getElem? QM
   have hj:j<o.ps.length:=(List.getElem?_eq_some_iff.mp QM).1
   have QF:=pG.fw
   have DM:=DL.pr p jj
   have QN:p.t≠p5:=fun z=>by have:=DM.tp;rw[z,h5]at this;cases this
   have NP:=s6 _ _ DM.tp QN
   have es:bZ c f ((o.ps.take (j+1)).map Pr.pair)=bZ c f ((o.ps.take j).map Pr.pair)++(dU c f p.pair).toList:=by
    rw[<-take_snoc QM,List.map_append]
    exact yb _ _ _ _
   have tU: ∀{y:List V},aF H6 (upd H6 p5 (.lst y)):=fun {y}=>aF.hR B1
   have sU: ∀{y:List V},aE p5 H5 (upd H6 p5 (.lst y)):=fun {y} a u ea z=>by rw[aj z];exact s6 a u ea z
   refine ⟨_,rfl,p.t,_,0,_,rfl,rfl,aY.of NP,rfl,_,rfl,_,_,rfl,rfl,_,rfl,dH (fun z=>?_) (fun z=>?_)⟩
   ·have z': ¬p.c=c:=fun e=>by
     have z2:(!decide ((p.c:Int)=(c:Int)))=true:=z
     rw[decide_eq_true (by omega)]at z2;cases z2
    have er:dU c f p.pair=some p.pair:=if_neg z'
    refine ⟨_,rfl, .inl ⟨rfl,_,aJ.of B1⟩,_,rfl,p5,_,_,rfl,rfl,B1,by rw[bK];omega,?_⟩
    refine ⟨_,us++[p],rfl,by rw[ae,j0],fun u hu=>?_,by rw[List.map_append,Jb,es,er];rfl,by rw[List.length_append,List.length_singleton];omega,sU⟩
    rcases List.mem_append.mp hu with g | g
    ·exact (FV u g).ts tU
    ·rw[List.mem_singleton.mp g];exact (⟨NP,DM.cz,DM.iz⟩:fK H6 p).ts tU
   ·have z':p.c=c:=by
     have z2: ¬(!decide ((p.c:Int)=(c:Int)))=true:=z
     by_cases e:p.c=c
     ·exact e
     ·rw[decide_eq_false (by omega)]at z2;exact absurd rfl z2
    have QO:=hx o hV p jj z'
    have Lv:=s6 _ _ Lu Ze
    have er:dU c f p.pair=(f p.i).map fun j=>(c,j):=if_pos z'
    refine ⟨_,rfl,_,rfl,p.t,_,1,_,rfl,rfl,aY.of NP,rfl,pp,_,_,_,rfl,rfl,aJ.of Lv,aQ QO,rfl,_,rfl,?_⟩
    cases NQ:f p.i with
    | none=>
     refine ck (by rfl) ?_
     refine ⟨_,us,rfl,B1,FV,by rw[es,er,NQ,Jb];simp,by omega,s6⟩
    | some k=>
     rw[NQ]at QO
     have hk:=hf o hV p jj z' k NQ
     refine dZ (by rfl) ?_
     refine ⟨_,rfl, .inl ⟨rfl,_,aJ.of B1⟩,_,rfl,_,rfl,_,rfl,p.t,_,1,_,rfl,rfl,aY.of NP,rfl,pp,_,_,_,rfl,rfl,aJ.of Lv,aQ QO,by show 2<=sizeLine;decide,fun t nt=>?_⟩
     have st:=ah.upd (o:=HO.tup [V.int c,V.int (k:Nat)]) nt
     have Jc:=st _ _ B1
     refine ⟨p5,_,_,rfl,rfl,Jc,by rw[bK];omega,?_⟩
     have WO:=aF.hR (o:=HO.lst (cL us++[V.ref t])) Jc
     refine ⟨_,us++[⟨t,c,k⟩],rfl,by rw[ae];exact congrArg (fun x=>some (HO.lst x)) (j0 us ⟨t,c,k⟩),fun u hu=>?_,by rw[List.map_append,Jb,es,er,NQ];rfl,by rw[List.length_append,List.length_singleton];omega,fun a u ea z=>by rw[aj z];exact st _ _ (s6 a u ea z)⟩
     rcases List.mem_append.mp hu with g | g
     ·exact (FV u g).ts ((aF.of st).trans WO)
     ·rw[List.mem_singleton.mp g];exact ⟨WO _ _ ae,hc,hk⟩
  ·rintro σ H6 ⟨sv,us,rfl,B1,FV,Jb,E7,s6⟩
   rw[bK,List.take_length]at Jb
   rw[bK]at E7
   have QF:=pG.fw
   have ud:p5≠d:=Ne.symm (aq HM.dk n5)
   have Zf:aF H5 H6:=fun a ys e=>s6 a _ e fun z=>by rw[z,h5]at e;cases e
   have hU: ∀o'∈cur,o'.o≠p5:=fun o' gG=>aq (HM.ok o' gG).tp n5
   have wQ:bS H6 d bs cur:=⟨s6 _ _ nR.dk (Ne.symm ud),nR.ln,nR.nd,fun o' gG=>(nR.ok o' gG).KP s6 (hU o' gG) Zf⟩
   have new:=wQ.put nd hb (o':=⟨p5,us⟩) ⟨B1,FV,by show us.length<=100;omega⟩ ud hU
   refine ⟨_,rfl,_,rfl,_,rfl,d,_,rfl,mB.k (k:=kS [b]) wQ.dk (by rw[mY wQ.ln];omega),?_⟩
   have Hz:os[i]? =some o:=by rw[List.getElem?_eq_getElem Ja,DK]
   refine ⟨_,_,_,cur.set i ⟨p5,us⟩,rfl,by rw[List.length_set];exact kB,new,?_,?_,fun o' gG=>?_,fun a u ea z=>?_⟩
   ·rw[set_drop]
    have:=congrArg (List.drop 1) QL
    rw[List.drop_drop,List.drop_drop]at this
    exact this
   ·rw[sY _ _ _ WM,List.map_append,uo, <-take_snoc Hz,List.map_append]
    show _++[us.map Pr.pair]=_++[bZ c f (br o)]
    rw[Jb]
    rfl
   ·rw[sY _ _ _ WM]at gG
    rcases List.mem_append.mp gG with g | g
    ·exact qg o' g
    ·rw[List.mem_singleton.mp g];exact s2.none n5 ud
   ·rw[aj z]
    have ez:=s2 a u ea z
    exact s6 _ _ (s5 _ _ ez) (aq ez n5)
 ·rintro σ H2 ⟨bv,kv,sv,cur,rfl,kB,HM,QL,uo,qg,s2⟩
  rw[aT, <-QH]at uo qg
  rw[<-kB,List.take_length]at qg
  rw[List.take_length, <-kB,List.take_length]at uo
  exact q cur H2 HM uo (fun o ho=>ah.free sL (qg o ho)) (fun a u ea z=>s2 a u (sL a u ea) z)
theorem yH:cf P w K mg base gc 2 f4 d4 ["words","orders","cord","place"] (pF K):=by
 have bT:=dG (P:=P) (w:=w) (base:=base) T
 have fN:=iO (P:=P) (w:=w) (base:=base) T
 refine T.F4.fn.ok pQ (fun vs H Q E h=>vd h) (fun dw A outer s H vs Q E hr h=>?_)
 refine ⟨_,(af (ar (i:=4) pQ.nd rfl (Or.inl rfl) (au (aP K rfl) (pv 0) (pv 2) (fun _ _=>rfl)))
   (af (bE (PW.pt (kN (cZ (c_ fc lW ag (pv 3) (aB cB (ax bg rfl T.z_len PySem.boot_len (aa (pv 4) ab)) ag))) (ic (aH uG (au kq (pv 4) (aB bB (pv 3) ag) (fun _ _=>rfl)) (ao bT (hr.mono (by decide)) rfl T.F0.mg T.F0.fn.kp T.F0.bd .nil aC (aa (au kq (pv 4) (pv 3) (fun _ _=>rfl)) ab)) (bb _))))) (ai (aD cX)) a_)
   (af (ij (aB cJ (bj gk (pv 4) bG (bw (pv 3))) (bj gk (pv 4) (bw (aB bB (pv 3) ag)) bG)) (ig (pv 0) (pv 2) set_list))
   (af (ba (ao fN (hr.mono (by decide)) rfl T.F2.mg T.F2.fn.kp T.F2.bd .nil aC (aa (pv 1) (aa (pv 2) (aa (aB iq (aB iq (iE rfl rfl T.z_list rfl T.z_range (aa (pv 3) ab)) (bC (aa pY (aa pY ab)))) (kP rfl rfl T.z_list rfl T.z_range (aa (pv 3) (aa (aB cB (ax bg rfl T.z_len PySem.boot_len (aa (pv 4) ab)) ag) ab)))) ab)))))
   (ai (aD cX)))))),?_⟩
 obtain ⟨d,wl,bs,os,ws,c,k,w,x,rfl,hH,hw,NR,Dm,q⟩:=h
 have hs:(100000:Nat)<sizeLine:=by decide
 have Lw:(cD ws)[c]? =some (.str (S w)):=by unfold cD;rw[List.getElem?_map,hw];rfl
 obtain ⟨QP,vw⟩:=hH.wo w (List.mem_of_getElem? hw)
 have lL:c<ws.length:=(List.getElem?_eq_some_iff.mp hw).1
 have QQ:=hH.wz
 have IW:k+1<w.length:=(List.getElem?_eq_some_iff.mp Dm).1
 have y6:=QP x (List.mem_of_getElem? NR)
 have ek:(k:Int)+1=((k+1:Nat):Int):=by omega
 have WQ:(k:Int)+2=((k+2:Nat):Int):=by omega
 refine ⟨_,rfl,_,rfl,wl,_,_,_,rfl,rfl,aJ.of hH.wd,aQ Lw,?_⟩
 refine ⟨_,rfl,_,_,rfl,rfl,_,rfl,dZ (decide_eq_true (by omega)) ⟨_,rfl,w,rfl,by omega,_,_,rfl,rfl,_,_,rfl,rfl,_,rfl,ck (by rw[decide_eq_true (by omega)];rfl) ?_⟩⟩
 refine ⟨_,rfl,_,rfl,_,_,rfl,rfl,w,_,aX x,rfl,rfl,by omega,by rw[ek];exact aQ Dm,?_⟩
 refine ⟨_,rfl,_,rfl,w,_,x,rfl,rfl,by omega,aQ NR,x,rfl,y6.lt,_,_,rfl,rfl,_,rfl,ck (by rw[decide_eq_true rfl];rfl) ?_⟩
 refine ⟨_,rfl,_,rfl,_,rfl,w,rfl,by omega,?_⟩
 refine ⟨_,rfl,_,rfl,_,_,rfl,rfl,_,rfl,w,rfl,by omega,_,_,rfl,rfl,by rw[WQ,j5,cm];simp;omega,_,rfl,_,rfl,wl,_,_,c,rfl,rfl,hH.wd,by rw[bt];exact iU lL,?_⟩
 rw[WQ,j5,cm,qD]
 have ze:bS (upd H wl (.lst (cD (ws.set c (w.take k++w.drop (k+2)))))) d bs os:=hH.od.GY hH.ne hH.wd
 have fin: ∀H3,ah (upd H wl (.lst (cD (ws.set c (w.take k++w.drop (k+2)))))) H3->_:=fun H3 s3=>tq hH q s3
 generalize upd H wl (.lst (cD (ws.set c (w.take k++w.drop (k+2)))))=H1 at ze fin ⊢
 refine ⟨_,rfl,_,rfl,_,rfl,_,rfl,by omega,by omega,fun p1 n1=>?_⟩
 have s1:=ah.upd (o:=HO.lst ((List.range ((k:Int)).toNat).map fun (j:Nat)=>V.int (0+(j:Int)))) n1
 have h1:upd H1 p1 (HO.lst ((List.range ((k:Int)).toNat).map fun (j:Nat)=>V.int (0+(j:Int)))) p1=_:=ae
 generalize upd H1 p1 (HO.lst ((List.range ((k:Int)).toNat).map fun (j:Nat)=>V.int (0+(j:Int))))=H2 at s1 h1 ⊢
 refine ⟨by show 2<=sizeLine;decide,fun p2 n2=>?_⟩
 have s2:=ah.upd (o:=HO.lst [V.cy,V.cy]) n2
 refine ⟨p1,p2,_,_,rfl,rfl,s2 _ _ h1,ae,by simp;omega,fun p3 n3=>?_⟩
 have s3:=ah.upd (o:=HO.lst (((List.range ((k:Int)).toNat).map fun (j:Nat)=>V.int (0+(j:Int)))++[V.cy,V.cy])) n3
 have wR:=(s1.trans s2).trans s3
 have h3:upd (upd H2 p2 (HO.lst [V.cy,V.cy])) p3 (HO.lst (((List.range ((k:Int)).toNat).map fun (j:Nat)=>V.int (0+(j:Int)))++[V.cy,V.cy])) p3=_:=ae
 generalize upd (upd H2 p2 (HO.lst [V.cy,V.cy])) p3 (HO.lst (((List.range ((k:Int)).toNat).map fun (j:Nat)=>V.int (0+(j:Int)))++[V.cy,V.cy]))=H3 at wR h3 ⊢
 refine ⟨_,rfl,_,rfl,w,rfl,by omega,_,_,rfl,rfl,_,_,rfl,by omega,by omega,fun p4 n4=>?_⟩
 have s4:=ah.upd (o:=HO.lst ((List.range ((w.length:Int) - 2 - (k:Int)).toNat).map fun (j:Nat)=>V.int ((k:Int)+(j:Int)))) n4
 refine ⟨p3,p4,_,_,rfl,rfl,s4 _ _ h3,ae,by simp;omega,fun p5 n5=>?_⟩
 have s5:=ah.upd (o:=HO.lst (((List.range ((k:Int)).toNat).map fun (j:Nat)=>V.int (0+(j:Int)))++[V.cy,V.cy]++(List.range ((w.length:Int) - 2 - (k:Int)).toNat).map fun (j:Nat)=>V.int ((k:Int)+(j:Int)))) n5
 have CP:=(wR.trans s4).trans s5
 refine ⟨d,c,p5,bs,os,_,outF k,rfl,ze.same CP,hH.nd,hH.bl,by omega,ae,hH.pl hw fun i hi=>GZ IW hi,hH.pb hw fun i j hi e=>?_,fin _ CP⟩
 unfold outF at e
 split at e
 ·cases e;omega
 ·split at e
  ·cases e
  ·cases e;omega
theorem vE:cf P w K mg base gc 2 f6 d6 ["words","orders","cord"] (m4 K):=by
 have fN:=iO (P:=P) (w:=w) (base:=base) T
 refine T.F6.fn.ok nK (fun vs H Q E h=>s_ h) (fun dw A outer s H vs Q E hr h=>?_)
 refine ⟨_,(af (ar (i:=3) nK.nd rfl (Or.inl rfl) (au (aP K rfl) (pv 0) (pv 2) (fun _ _=>rfl)))
   (af (ij (aB cJ (bj gk (pv 3) (bw ag) bG) (bj gk (pv 3) bG (bw ag))) (ig (pv 0) (pv 2) set_list))
   (af (ba (ao fN (hr.mono (by decide)) rfl T.F2.mg T.F2.fn.kp T.F2.bd .nil aC (aa (pv 1) (aa (pv 2) (aa (aB iq (bC (aa (aB cB (ax bg rfl T.z_len PySem.boot_len (aa (pv 3) ab)) ag) ab)) (iE rfl rfl T.z_list rfl T.z_range (aa (aB cB (ax bg rfl T.z_len PySem.boot_len (aa (pv 3) ab)) ag) ab))) ab)))))
   (ai (aD cX))))),?_⟩
 obtain ⟨d,wl,bs,os,ws,c,w,rfl,hH,hw,q⟩:=h
 have hs:(100000:Nat)<sizeLine:=by decide
 have Lw:(cD ws)[c]? =some (.str (S w)):=by unfold cD;rw[List.getElem?_map,hw];rfl
 refine ⟨_,rfl,_,rfl,wl,_,_,_,rfl,rfl,aJ.of hH.wd,aQ Lw,?_⟩
 obtain ⟨QP,vw⟩:=hH.wo w (List.mem_of_getElem? hw)
 have lL:c<ws.length:=(List.getElem?_eq_some_iff.mp hw).1
 have QQ:=hH.wz
 refine ⟨_,rfl,_,rfl,w,rfl,by omega,_,rfl,_,rfl,w,rfl,by omega,_,_,rfl,rfl,by rw[wA,tm];simp;omega,_,rfl,_,rfl,wl,_,_,c,rfl,rfl,hH.wd,by rw[bt];exact iU lL,?_⟩
 rw[wA,tm,qD]
 have ze:bS (upd H wl (.lst (cD (ws.set c (w.drop 1++w.take 1))))) d bs os:=hH.od.GY hH.ne hH.wd
 have fin: ∀H3,ah (upd H wl (.lst (cD (ws.set c (w.drop 1++w.take 1))))) H3->_:=fun H3 s3=>tq hH q s3
 generalize upd H wl (.lst (cD (ws.set c (w.drop 1++w.take 1))))=H1 at ze fin ⊢
 refine ⟨_,rfl,_,rfl,_,rfl,w,rfl,by omega,_,_,rfl,rfl,by show 1<=sizeLine;decide,fun p1 n1=>?_⟩
 have s1:=ah.upd (o:=HO.lst [V.int ((w.length:Int) - 1)]) n1
 have h1:upd H1 p1 (HO.lst [V.int ((w.length:Int) - 1)]) p1=some (HO.lst [V.int ((w.length:Int) - 1)]):=ae
 generalize upd H1 p1 (HO.lst [V.int ((w.length:Int) - 1)])=H2 at s1 h1 ⊢
 refine ⟨_,rfl,w,rfl,by omega,_,_,rfl,rfl,_,rfl,by omega,by omega,fun p2 n2=>?_⟩
 have s2:=ah.upd (o:=HO.lst ((List.range ((w.length:Int) - 1).toNat).map fun (k:Nat)=>V.int (0+(k:Int)))) n2
 refine ⟨p1,p2,_,_,rfl,rfl,s2 _ _ h1,ae,by simp;omega,fun p3 n3=>?_⟩
 have s3:=ah.upd (o:=HO.lst ([V.int ((w.length:Int) - 1)]++(List.range ((w.length:Int) - 1).toNat).map fun (k:Nat)=>V.int (0+(k:Int)))) n3
 have wR:=(s1.trans s2).trans s3
 refine ⟨d,c,p3,bs,os,_,ff w.length,rfl,ze.same wR,hH.nd,hH.bl,by omega,ae,hH.pl hw fun i hi=>De hi,hH.pb hw fun i j hi e=>?_,fin _ wR⟩
 unfold ff at e
 split at e<;>(cases e;omega)
theorem Bw:cf P w K mg base gc 2 f5 d5 ["words","orders","cord","place","letter","number"] (tu K):=by
 have bT:=dG (P:=P) (w:=w) (base:=base) T
 have fN:=iO (P:=P) (w:=w) (base:=base) T
 refine T.F5.fn.ok nJ (fun vs H Q E h=>yc h) (fun dw A outer s H vs Q E hr h=>?_)
 refine ⟨_,(af (ar (i:=6) nJ.nd rfl (Or.inl rfl) (au (aP K rfl) (pv 0) (pv 2) (fun _ _=>rfl)))
   (af (ar (i:=7) nJ.nd rfl (Or.inl rfl) (bV (cI hr) (pv 1) (fR K rfl PySem.F.plainAttrs_str PySem.F.slot_str_lower PySem.F.type_str_lower jL (pv 4)) (fun _ _=>rfl)))
   (af (bE (PW.pt (kN (cZ (c_ fc fc ag (pv 3) (ax bg rfl T.z_len PySem.boot_len (aa (pv 6) ab)))) (ic (cZ (c_ fc fc ag (pv 5) (ax (aG K rfl) rfl T.z_len PySem.boot_len (aa (pv 7) ab))))))) (ai (aD cX)) a_)
   (af (ij (aB cJ (aB cJ (aB cJ (bj gk (pv 6) bG (bw (pv 3))) (pv 4)) (ao bT (hr.mono (by decide)) rfl T.F0.mg T.F0.fn.kp T.F0.bd .nil aC (aa (pv 4) ab))) (bj gk (pv 6) (bw (pv 3)) bG)) (ig (pv 0) (pv 2) set_list))
   (af (ba (ao fN (hr.mono (by decide)) rfl T.F2.mg T.F2.fn.kp T.F2.bd .nil aC (aa (pv 1) (aa (pv 2) (aa (aB iq (iE rfl rfl T.z_list rfl T.z_range (aa (pv 3) ab)) (kP rfl rfl T.z_list rfl T.z_range (aa (aB bB (pv 3) ag) (aa (aB bB (ax bg rfl T.z_len PySem.boot_len (aa (pv 6) ab)) ag) ab)))) ab)))))
   (af (ba (aS K rfl PySem.F.plainAttrs_list PySem.F.slot_list_insert PySem.F.type_list_insert fo (bV (cI hr) (pv 1) (fR K rfl PySem.F.plainAttrs_str PySem.F.slot_str_lower PySem.F.type_str_lower jL (pv 4)) (fun _ _=>rfl)) (aa (pv 5) (aa (bY (aa (pv 2) (aa (aB bB (pv 3) ag) ab))) ab))))
   (af (ba (aS K rfl PySem.F.plainAttrs_list PySem.F.slot_list_insert PySem.F.type_list_insert fo (bV (cI hr) (pv 1) (fR K rfl PySem.F.plainAttrs_str PySem.F.slot_str_lower PySem.F.type_str_lower jL (pv 4)) (fun _ _=>rfl)) (aa (pv 5) (aa (bY (aa (pv 2) (aa (pv 3) ab))) ab))))
   (ai (aD cX))))))))),?_⟩
 obtain ⟨d,wl,bs,os,ws,c,k,n,j,w,x,o,rfl,hH,hw,hk,hx,hb,ho,hn,uc,q⟩:=h
 have hs:(100000:Nat)<sizeLine:=by decide
 have Lw:(cD ws)[c]? =some (.str (S w)):=by unfold cD;rw[List.getElem?_map,hw];rfl
 obtain ⟨QP,vw⟩:=hH.wo w (List.mem_of_getElem? hw)
 have lL:c<ws.length:=(List.getElem?_eq_some_iff.mp hw).1
 have QQ:=hH.wz
 have pG:=hH.od.ok o (List.mem_of_getElem? ho)
 have dg:df H d (V.str (S [PyProof.Rows.lo1 x])) (some (.ref o.o)):=by rw[<-eT hH.nd hb ho];exact df.k (k:=kS [PyProof.Rows.lo1 x]) hH.od.dk
 refine ⟨_,rfl,_,rfl,wl,_,_,_,rfl,rfl,aJ.of hH.wd,aQ Lw,?_⟩
 refine ⟨_,rfl,_,rfl,rfl,?_⟩
 refine ⟨x,rfl,rfl,hx.lt,d,_,rfl,dg,?_⟩
 refine ⟨_,rfl,_,_,rfl,rfl,_,rfl,dZ (decide_eq_true (by omega)) ⟨_,rfl,w,rfl,by omega,_,_,rfl,rfl,_,rfl,ck (by rw[decide_eq_true (by omega)];rfl) ?_⟩⟩
 refine ⟨_,rfl,_,_,rfl,rfl,_,rfl,dZ (decide_eq_true (by omega)) ⟨_,rfl,o.o,_,rfl, .inl (aJ.of pG.tp),_,_,rfl,rfl,_,rfl,ck (by rw[bK,decide_eq_true (by omega)];rfl) ?_⟩⟩
 refine ⟨_,rfl,_,rfl,_,rfl,w,rfl,by omega,_,rfl,_,[x],rfl,rfl,by rw[j5];simp;omega,?_⟩
 refine ⟨_,rfl,x,rfl,hx.lt,_,[aX x],rfl,rfl,by rw[j5];simp;omega,?_⟩
 refine ⟨_,rfl,_,rfl,_,rfl,w,rfl,by omega,_,_,rfl,rfl,by rw[j5,cm];simp;omega,_,rfl,_,rfl,wl,_,_,c,rfl,rfl,hH.wd,by rw[bt];exact iU lL,?_⟩
 rw[j5,cm,qD]
 have ze:bS (upd H wl (.lst (cD (ws.set c (w.take k++[x]++[aX x]++w.drop k))))) d bs os:=hH.od.GY hH.ne hH.wd
 have WR: ∀H3,ah (upd H wl (.lst (cD (ws.set c (w.take k++[x]++[aX x]++w.drop k))))) H3-> ∀(os':List Od) (H':Hp),_->_->_:=fun H3 s3 os' H'=>vf (os':=os') (H':=H') hH s3
 generalize upd H wl (.lst (cD (ws.set c (w.take k++[x]++[aX x]++w.drop k))))=H1 at ze WR ⊢
 refine ⟨_,rfl,_,rfl,_,rfl,_,rfl,by omega,by omega,fun p1 n1=>?_⟩
 have s1:=ah.upd (o:=HO.lst ((List.range ((k:Int)).toNat).map fun (j:Nat)=>V.int (0+(j:Int)))) n1
 have h1:upd H1 p1 (HO.lst ((List.range ((k:Int)).toNat).map fun (j:Nat)=>V.int (0+(j:Int)))) p1=_:=ae
 generalize upd H1 p1 (HO.lst ((List.range ((k:Int)).toNat).map fun (j:Nat)=>V.int (0+(j:Int))))=H2 at s1 h1 ⊢
 refine ⟨_,rfl,_,_,rfl,rfl,_,rfl,w,rfl,by omega,_,_,rfl,rfl,_,_,rfl,by omega,by omega,fun p4 n4=>?_⟩
 have s4:=ah.upd (o:=HO.lst ((List.range ((w.length:Int)+2 - ((k:Int)+2)).toNat).map fun (j:Nat)=>V.int ((k:Int)+2+(j:Int)))) n4
 refine ⟨p1,p4,_,_,rfl,rfl,s4 _ _ h1,ae,by simp;omega,fun p5 n5=>?_⟩
 have s5:=ah.upd (o:=HO.lst (((List.range ((k:Int)).toNat).map fun (j:Nat)=>V.int (0+(j:Int)))++(List.range ((w.length:Int)+2 - ((k:Int)+2)).toNat).map fun (j:Nat)=>V.int ((k:Int)+2+(j:Int)))) n5
 have CP:=(s1.trans s4).trans s5
 refine ⟨d,c,p5,bs,os,_,ji k,rfl,ze.same CP,hH.nd,hH.bl,by omega,ae,hH.pl hw fun i hi=>KQ hk hi,hH.pb hw fun i j hi e=>?_,fun Jd H6 wQ qt qg s6=>?_⟩
 ·unfold ji at e
  split at e<;>(cases e;omega)
 obtain ⟨f1,f2,f3⟩:=WR _ CP Jd H6 qg s6
 have qG:j<Jd.length:=by
  have:=congrArg List.length qt
  rw[List.length_map,List.length_map]at this
  rw[this]
  exact (List.getElem?_eq_some_iff.mp ho).1
 have GX:Jd[j]? =some Jd[j]:=List.getElem?_eq_getElem qG
 generalize hoj:Jd[j]=o1 at GX
 have gb:br o1=bZ c (ji k) (br o):=by
  have:=congrArg (fun l=>l[j]?) qt
  simp only[List.getElem?_map,GX,ho]at this
  exact Option.some.inj this
 have HQ:o1.ps.length=o.ps.length:=by
  have:=congrArg List.length gb
  rw[kZ]at this
  unfold br at this
  rwa [List.length_map,List.length_map]at this
 have Bx:=List.mem_of_getElem? GX
 have Lx:=wQ.ok o1 Bx
 have Zg:df H6 d (V.str (S [PyProof.Rows.lo1 x])) (some (.ref o1.o)):=by rw[<-eT hH.nd hb GX];exact df.k (k:=kS [PyProof.Rows.lo1 x]) wQ.dk
 refine ⟨_,rfl,_,rfl,rfl,x,rfl,rfl,hx.lt,d,_,rfl,Zg, .inl ⟨rfl,_,aJ.of Lx.tp⟩,?_⟩
 refine ⟨_,rfl,_,rfl,_,rfl,_,_,rfl,rfl,by show 2<=sizeLine;decide,fun t1 IS=>?_⟩
 have ek:(k:Int)+1=((k+1:Nat):Int):=by omega
 rw[show (fun i j:Int=>V.int (i+j)) (k:Int) 1=V.int ((k+1:Nat):Int) from congrArg V.int ek]
 have my:=ah.upd (o:=HO.tup [V.int c,V.int ((k+1:Nat):Int)]) IS
 have Hx:upd H6 t1 (HO.tup [V.int c,V.int ((k+1:Nat):Int)]) t1=some (HO.tup [V.int c,V.int ((k+1:Nat):Int)]):=ae
 have Ly:=wQ.same my
 have WS:=my _ _ Lx.tp
 generalize upd H6 t1 (HO.tup [V.int c,V.int ((k+1:Nat):Int)])=H7 at my Hx Ly WS ⊢
 refine ⟨o1.o,_,n,_,rfl,rfl,WS,by rw[bK];omega,by rw[bK];omega,?_⟩
 rw[show (cL o1.ps).take n++V.ref t1::(cL o1.ps).drop n=cL (o1.ps.take n++(⟨t1,c,k+1⟩:Pr)::o1.ps.drop n) from wB o1.ps n ⟨t1,c,k+1⟩]
 generalize DN:o1.ps.take n++(⟨t1,c,k+1⟩:Pr)::o1.ps.drop n=nS
 have Zh:nS.length=o1.ps.length+1:=by rw[<-DN];simp;omega
 have Lz: ∀p∈nS,p∈o1.ps\/p=⟨t1,c,k+1⟩:=fun p hp=>by
  rw[<-DN]at hp
  rcases List.mem_append.mp hp with g | g
  ·exact .inl (List.mem_of_mem_take g)
  ·rcases List.mem_cons.mp g with g | g
   ·exact .inr g
   ·exact .inl (List.mem_of_mem_drop g)
 have QR: ∀p∈nS,fK H7 p:=fun p hp=>by
  rcases Lz p hp with g | g
  ·exact (Ly.ok o1 Bx).pr p g
  ·rw[g];exact ⟨Hx,by show c<1000;omega,by show k+1<1000;omega⟩
 have Je:=Ly.mut GX QR (by omega)
 have h8:upd H7 o1.o (HO.lst (cL nS)) o1.o=some (HO.lst (cL nS)):=ae
 have QS:aE o1.o H7 (upd H7 o1.o (HO.lst (cL nS))):=fun a u ea z=>by rw[aj z];exact ea
 generalize upd H7 o1.o (HO.lst (cL nS))=H8 at Je h8 QS ⊢
 have yI:(Jd.set j ⟨o1.o,nS⟩)[j]? =some ⟨o1.o,nS⟩:=List.getElem?_set_self qG
 have Zi:df H8 d (V.str (S [PyProof.Rows.lo1 x])) (some (.ref o1.o)):=by rw[<-eT hH.nd hb yI];exact df.k (k:=kS [PyProof.Rows.lo1 x]) Je.dk
 refine ⟨_,rfl,_,rfl,rfl,x,rfl,rfl,hx.lt,d,_,rfl,Zi, .inl ⟨rfl,_,aJ.of h8⟩,?_⟩
 refine ⟨_,rfl,_,rfl,_,rfl,by show 2<=sizeLine;decide,fun t2 HG=>?_⟩
 have gW:=ah.upd (o:=HO.tup [V.int c,V.int k]) HG
 have BX:upd H8 t2 (HO.tup [V.int c,V.int k]) t2=some (HO.tup [V.int c,V.int k]):=ae
 have QT:=Je.same gW
 have h9:=gW _ _ h8
 generalize upd H8 t2 (HO.tup [V.int c,V.int k])=H9 at gW BX QT h9 ⊢
 refine ⟨o1.o,_,n,_,rfl,rfl,h9,by rw[bK];omega,by rw[bK];omega,?_⟩
 rw[show (cL nS).take n++V.ref t2::(cL nS).drop n=cL (nS.take n++(⟨t2,c,k⟩:Pr)::nS.drop n) from wB nS n ⟨t2,c,k⟩]
 have DO: ∀p∈nS.take n++(⟨t2,c,k⟩:Pr)::nS.drop n,fK H9 p:=fun p hp=>by
  have old: ∀p∈nS,fK H9 p:=fun p hp=>(QT.ok ⟨o1.o,nS⟩ (List.mem_of_getElem? yI)).pr p hp
  rcases List.mem_append.mp hp with g | g
  ·exact old p (List.mem_of_mem_take g)
  ·rcases List.mem_cons.mp g with g | g
   ·rw[g];exact ⟨BX,by show c<1000;omega,by show k<1000;omega⟩
   ·exact old p (List.mem_of_mem_drop g)
 have WT:=QT.mut yI DO (by simp;omega)
 rw[List.set_set]at WT
 have e1:nS.take n=o1.ps.take n:=by rw[<-DN,List.take_append_of_le_length (by rw[List.length_take];omega),List.take_take,Nat.min_self]
 have e2:nS.drop n=(⟨t1,c,k+1⟩:Pr)::o1.ps.drop n:=by
  rw[<-DN,List.drop_append_of_le_length (by rw[List.length_take];omega),List.drop_of_length_le (by rw[List.length_take];omega)]
  rfl
 have LA:wl≠o1.o:=fun z=>by have:=f2 o1 Bx;rw[<-z,hH.wd]at this;cases this
 refine q _ _ WT ?_ ?_ (fun o' gG=>?_) fun a u ea za zb=>?_
 ·rw[List.map_set,qt]
  congr 1
  unfold br
  show (nS.take n++(⟨t2,c,k⟩:Pr)::nS.drop n).map Pr.pair=put2 n (c,k) (c,k+1) (bZ c (ji k) (br o))
  rw[<-gb,e1,e2]
  unfold put2 br
  rw[List.map_append,List.map_cons,List.map_cons,List.map_take,List.map_drop]
  rfl
 ·rw[aj LA];exact gW _ _ (QS _ _ (my _ _ f1) LA)
 ·rcases List.mem_or_eq_of_mem_set gG with g | g
  ·exact f2 o' g
  ·rw[g];exact f2 o1 Bx
 ·have hU:a≠o1.o:=aq ea (f2 o1 Bx)
  rw[aj hU]
  exact gW _ _ (QS _ _ (my _ _ (f3 a u ea za zb)) hU)
theorem vF:cf P w K mg base gc 3 f7 d7 ["yard","words","orders","deed"] (m5 K):=by
 have yJ:=vD (P:=P) (w:=w) (base:=base) T
 have By:=yH (P:=P) (w:=w) (base:=base) T
 have yK:=vE (P:=P) (w:=w) (base:=base) T
 have DP:=Bw (P:=P) (w:=w) (base:=base) T
 refine T.F7.fn.ok vt (fun vs H Q E h=>tD h) (fun dw A outer s H vs Q E hr h=>?_)
 refine ⟨_,(af (bE (aH dY (au (aw K rfl) (pv 3) ag (fun _ _=>rfl)) (cE [115,119,97,112] (by decide+kernel)) (bb _)) (ai (aD (ao yJ (hr.mono (by decide)) rfl T.F3.mg T.F3.fn.kp T.F3.bd .nil aC (aa (pv 2) (aa (au (aw K rfl) (pv 3) ag (fun _ _=>rfl)) (aa (au (aw K rfl) (pv 3) ag (fun _ _=>rfl)) ab)))))) a_)
   (af (bE (cZ (c_ fc lW ag (au (aw K rfl) (pv 3) ag (fun _ _=>rfl)) (ax (aG K rfl) rfl T.z_len PySem.boot_len (aa (pv 1) ab)))) (ai (aD cX)) a_)
   (af (bE (aH dY (au (aw K rfl) (pv 3) ag (fun _ _=>rfl)) (cE [111,117,116] (by decide+kernel)) (bb _)) (ai (aD (ao By (hr.mono (by decide)) rfl T.F4.mg T.F4.fn.kp T.F4.bd .nil aC (aa (pv 1) (aa (pv 2) (aa (au (aw K rfl) (pv 3) ag (fun _ _=>rfl)) (aa (au (aw K rfl) (pv 3) ag (fun _ _=>rfl)) ab))))))) a_)
   (af (bE (aH dY (au (aw K rfl) (pv 3) ag (fun _ _=>rfl)) (cE [116,117,114,110] (by decide+kernel)) (bb _)) (ai (aD (ao yK (hr.mono (by decide)) rfl T.F6.mg T.F6.fn.kp T.F6.bd .nil aC (aa (pv 1) (aa (pv 2) (aa (au (aw K rfl) (pv 3) ag (fun _ _=>rfl)) ab)))))) a_)
   (af (bE (PW.pt (lR (aH dY (au (aw K rfl) (pv 3) ag (fun _ _=>rfl)) (cE [105,110] (by decide+kernel)) (bb _)) (jC (aH (qm K rfl) (au (aw K rfl) (pv 3) ag (fun _ _=>rfl)) (aZ (gK rfl) rfl T.z_list boot_list (aa (pv 0) ab)) (by with_unfolding_all rfl))))) (ai (aD (ao DP (hr.mono (by decide)) rfl T.F5.mg T.F5.fn.kp T.F5.bd .nil aC (aa (pv 1) (aa (pv 2) (aa (au (aw K rfl) (pv 3) ag (fun _ _=>rfl)) (aa (au (aw K rfl) (pv 3) ag (fun _ _=>rfl)) (aa (au (aw K rfl) (pv 3) ag (fun _ _=>rfl)) (aa (au (aw K rfl) (pv 3) ag (fun _ _=>rfl)) ab))))))))) a_)
   (ai (aD cX))))))),?_⟩
 obtain ⟨y,d,wl,a,os,ws,e,rfl,hy,hz,hH,hlen,ha,bq,q⟩:=h
 have hs:(100000:Nat)<sizeLine:=by decide
 have QQ:=hH.wz
 cases e with
 | swap b n=>
  have h:H a=some (.tup [.str (S AD), .str (S [b]), .int n]):=ha
  obtain ⟨hb,hn⟩:=bq
  have hj:=List.idxOf_lt_length_of_mem hb
  have QU:(aA y)[(aA y).idxOf b]? =some b:=by rw[List.getElem?_eq_getElem hj,List.getElem_idxOf hj]
  have Fc:(aA y).idxOf b<os.length:=by rw[hH.od.ln];exact hj
  have ho:os[(aA y).idxOf b]? =some (os[(aA y).idxOf b]):=List.getElem?_eq_getElem Fc
  generalize os[(aA y).idxOf b]=o at ho
  have eL:(os.map br).getD ((aA y).idxOf b) []=br o:=aN (by rw[List.getElem?_map,ho];rfl)
  rw[eL]at hn
  refine ⟨_,rfl,a,_,0,_,rfl,rfl,aY.of h,rfl,_,_,rfl,rfl,_,rfl,dZ (by decide) ?_⟩
  refine ⟨_,rfl,_,rfl,a,_,1,_,rfl,rfl,aY.of h,rfl,_,rfl,a,_,2,_,rfl,rfl,aY.of h,rfl,?_⟩
  refine ⟨d,aA y,os,b,_,n,o,rfl,hH.od,hH.nd,hH.bl,QU,ho,by unfold br at hn;rwa [List.length_map]at hn,fun H' Zj s'=>?_⟩
  have hV:=List.mem_of_getElem? ho
  refine q _ H' Zj ?_ (s' _ _ hH.wd (Ne.symm (hH.ne o hV))) (fun o' gG=> .inr ?_) fun x u ex _ _ zx=>s' x u ex fun z=>zx (by rw[z];exact List.mem_map.mpr ⟨o,hV,rfl⟩)
  ·rw[List.map_set]
   show (os.map br).set _ ((swapAt n o.ps).map Pr.pair)=(os.map br).set _ (eU n ((os.map br).getD _ []))
   rw[eL,AF]
   rfl
  ·rcases List.mem_or_eq_of_mem_set gG with g | g
   ·exact List.mem_map.mpr ⟨o',g,rfl⟩
   ·rw[g];exact List.mem_map.mpr ⟨o,hV,rfl⟩
 | out c k=>
  have h:H a=some (.tup [.str (S G0), .int c, .int k]):=ha
  obtain ⟨hc,x,Fd,DQ⟩:=bq
  have hw:ws[c]? =some ws[c]:=List.getElem?_eq_getElem hc
  have ew:=aN (x:=[]) hw
  generalize WU:ws[c]=w at hw ew
  rw[ew]at Fd DQ
  refine ⟨_,rfl,a,_,0,_,rfl,rfl,aY.of h,rfl,_,_,rfl,rfl,_,rfl,ck (by decide) ?_⟩
  refine ⟨_,rfl,a,_,1,_,rfl,rfl,aY.of h,rfl,_,_,rfl,rfl,_,rfl,dZ (decide_eq_true (by omega)) ⟨_,rfl,wl,_,rfl, .inl (aJ.of hH.wd),_,_,rfl,rfl,_,rfl,ck (by rw[bt,decide_eq_true (by omega)];rfl) ?_⟩⟩
  refine ⟨_,rfl,a,_,0,_,rfl,rfl,aY.of h,rfl,_,_,rfl,rfl,_,rfl,dZ (by decide) ?_⟩
  refine ⟨_,rfl,_,rfl,_,rfl,a,_,1,_,rfl,rfl,aY.of h,rfl,_,rfl,a,_,2,_,rfl,rfl,aY.of h,rfl,?_⟩
  refine ⟨d,wl,aA y,os,ws,c,k,w,x,rfl,hH,hw,Fd,DQ,fun os' H' g1 g2 g3 g4 g5=>?_⟩
  refine q os' H' g1 ?_ ?_ (fun o ho=> .inl (g4 o ho)) fun x u ex z1 z2 _=>g5 x u ex z1 z2
  ·rw[g2];show _=(os.map br).map (bZ c (outF k));rw[List.map_map];rfl
  ·show _=some (HO.lst (cD (ws.set c ((ws.getD c []).take k++(ws.getD c []).drop (k+2)))));rw[ew];exact g3
 | turn c=>
  have h:H a=some (.tup [.str (S AE), .int c]):=ha
  have hc:c<ws.length:=bq
  have hw:ws[c]? =some ws[c]:=List.getElem?_eq_getElem hc
  have ew:=aN (x:=[]) hw
  generalize WU:ws[c]=w at hw ew
  refine ⟨_,rfl,a,_,0,_,rfl,rfl,aY.of h,rfl,_,_,rfl,rfl,_,rfl,ck (by decide) ?_⟩
  refine ⟨_,rfl,a,_,1,_,rfl,rfl,aY.of h,rfl,_,_,rfl,rfl,_,rfl,dZ (decide_eq_true (by omega)) ⟨_,rfl,wl,_,rfl, .inl (aJ.of hH.wd),_,_,rfl,rfl,_,rfl,ck (by rw[bt,decide_eq_true (by omega)];rfl) ?_⟩⟩
  refine ⟨_,rfl,a,_,0,_,rfl,rfl,aY.of h,rfl,_,_,rfl,rfl,_,rfl,ck (by decide) ?_⟩
  refine ⟨_,rfl,a,_,0,_,rfl,rfl,aY.of h,rfl,_,_,rfl,rfl,_,rfl,dZ (by decide) ?_⟩
  refine ⟨_,rfl,_,rfl,_,rfl,a,_,1,_,rfl,rfl,aY.of h,rfl,?_⟩
  refine ⟨d,wl,aA y,os,ws,c,w,rfl,hH,hw,fun os' H' g1 g2 g3 g4 g5=>?_⟩
  refine q os' H' g1 ?_ ?_ (fun o ho=> .inl (g4 o ho)) fun x u ex z1 z2 _=>g5 x u ex z1 z2
  ·rw[g2];show _=(os.map br).map (bZ c (ff (ws.getD c []).length));rw[ew,List.map_map];rfl
  ·show _=some (HO.lst (cD (ws.set c ((ws.getD c []).drop 1++(ws.getD c []).take 1))));rw[ew];exact g3
 | ins c k x n=>
  have h:H a=some (.tup [.str (S P_), .int c, .int k, .str (S [x]), .int n]):=ha
  obtain ⟨hc,hk,KS,y0,hn⟩:=bq
  have hw:ws[c]? =some ws[c]:=List.getElem?_eq_getElem hc
  have ew:=aN (x:=[]) hw
  generalize WU:ws[c]=w at hw ew
  rw[ew]at hk KS
  have hb:=wq hy y0
  have hj:=List.idxOf_lt_length_of_mem hb
  have QU:(aA y)[(aA y).idxOf (PyProof.Rows.lo1 x)]? =some (PyProof.Rows.lo1 x):=by rw[List.getElem?_eq_getElem hj,List.getElem_idxOf hj]
  have Fc:(aA y).idxOf (PyProof.Rows.lo1 x)<os.length:=by rw[hH.od.ln];exact hj
  have ho:os[(aA y).idxOf (PyProof.Rows.lo1 x)]? =some (os[(aA y).idxOf (PyProof.Rows.lo1 x)]):=List.getElem?_eq_getElem Fc
  generalize os[(aA y).idxOf (PyProof.Rows.lo1 x)]=o at ho
  have eL:(os.map br).getD ((aA y).idxOf (PyProof.Rows.lo1 x)) []=br o:=aN (by rw[List.getElem?_map,ho];rfl)
  rw[eL]at hn
  refine ⟨_,rfl,a,_,0,_,rfl,rfl,aY.of h,rfl,_,_,rfl,rfl,_,rfl,ck (by decide) ?_⟩
  refine ⟨_,rfl,a,_,1,_,rfl,rfl,aY.of h,rfl,_,_,rfl,rfl,_,rfl,dZ (decide_eq_true (by omega)) ⟨_,rfl,wl,_,rfl, .inl (aJ.of hH.wd),_,_,rfl,rfl,_,rfl,ck (by rw[bt,decide_eq_true (by omega)];rfl) ?_⟩⟩
  refine ⟨_,rfl,a,_,0,_,rfl,rfl,aY.of h,rfl,_,_,rfl,rfl,_,rfl,ck (by decide) ?_⟩
  refine ⟨_,rfl,a,_,0,_,rfl,rfl,aY.of h,rfl,_,_,rfl,rfl,_,rfl,ck (by decide) ?_⟩
  refine ⟨_,rfl,a,_,0,_,rfl,rfl,aY.of h,rfl,_,_,rfl,rfl,_,rfl,dZ (by decide) ?_⟩
  refine ⟨_,rfl,a,_,3,_,rfl,rfl,aY.of h,rfl,_,rfl,y,rfl,by omega,fun p np=>?_⟩
  refine ⟨p,_,rfl, .inl (aJ.of ae),rfl,nG _,_,rfl,dZ (by show zD (.str (S [x])) (bX y)=true;rw[qp];exact decide_eq_true y0) ?_⟩
  have sP:=ah.upd (o:=HO.lst (bX y)) np
  have h1:=sP _ _ h
  have Zk:=hH.same sP
  refine ⟨_,rfl,_,rfl,_,rfl,a,_,1,_,rfl,rfl,aY.of h1,rfl,_,rfl,a,_,2,_,rfl,rfl,aY.of h1,rfl,_,rfl,a,_,3,_,rfl,rfl,aY.of h1,rfl,_,rfl,a,_,4,_,rfl,rfl,aY.of h1,rfl,?_⟩
  have uc:=hlen o (List.mem_of_getElem? ho)
  refine ⟨d,wl,aA y,os,ws,c,k,n,_,w,x,o,rfl,Zk,hw,hk,hy.lt x y0,QU,ho,by unfold br at hn;rwa [List.length_map]at hn,uc,fun os' H' g1 g2 g3 g4 g5=>?_⟩
  refine q os' H' g1 ?_ ?_ (fun o ho=> .inl (ah.free sP (g4 o ho))) fun x u ex z1 z2 _=>g5 x u (sP x u ex) z1 z2
  ·rw[g2]
   show _=((os.map br).map (bZ c (ji k))).set _ (put2 n (c,k) (c,k+1) (bZ c (ji k) ((os.map br).getD _ [])))
   rw[eL,List.map_map]
   rfl
  ·show _=some (HO.lst (cD (ws.set c ((ws.getD c []).take k++[x]++[aX x]++(ws.getD c []).drop k))));rw[ew];exact g3
theorem wU:cf P w K mg base gc 4 f8 d8 ["yard","drawing","deeds"] (wF K):=by
 have lM:=t4 (P:=P) (w:=w) (base:=base) T
 have yL:=vF (P:=P) (w:=w) (base:=base) T
 refine T.F8.fn.ok gR (fun vs H Q E h=>AJ h) (fun dw A outer s H vs Q E hr h=>?_)
 refine ⟨_,(af (ar (i:=3) gR.nd rfl (Or.inl rfl) (aZ (eJ K rfl) rfl T.z_list boot_list (aa (au (aw K rfl) (pv 1) ag (fun _ _=>rfl)) ab)))
   (af (ar (i:=4) gR.nd rfl (Or.inr rfl) rZ)
   (af (bI PassesOwn.never rfl (Ab K rfl rfl T.z_zip (aa (ao lM (hr.mono (by decide)) rfl T.F1.mg T.F1.fn.kp T.F1.bd .nil aC (aa (pv 0) ab)) (aa (au (aw K rfl) (pv 1) ag (fun _ _=>rfl)) ab))) (cS (n:=2) K rfl rfl (aR (ay (i:=5) gR.nd rfl (Or.inl rfl)) (aR (ay (i:=6) gR.nd rfl (Or.inl rfl)) cA))) (ai (jT (cI hr) (pv 4) (pv 5) (aZ (eJ K rfl) rfl T.z_list boot_list (aa (pv 6) ab)) rfl)))
   (af (bI PassesOwn.never rfl (iB K rfl rfl T.z_enumerate (aa (pv 2) ab)) (cS (n:=2) K rfl rfl (aR (ay (i:=7) gR.nd rfl (Or.inl rfl)) (aR (ay (i:=8) gR.nd rfl (Or.inl rfl)) cA))) (ai (bE (cZ (ib (ao yL (hr.mono (by decide)) rfl T.F7.mg T.F7.fn.kp T.F7.bd .nil aC (aa (pv 0) (aa (pv 3) (aa (pv 4) (aa (pv 8) ab))))))) (ai zp) a_)))
   (ai (aD (bY (aa (aZ (bh K rfl) rfl T.z_tuple boot_tuple (aa (pv 3) ab)) (aa (aZ (bh K rfl) rfl T.z_tuple boot_tuple (aa (cg ["band","orders"] [none,some 4] (qh (ao lM (hr.mono (by decide)) rfl T.F1.mg T.F1.fn.kp T.F1.bd .nil aC (aa (pv 0) ab))) ⟨⟨rfl,rfl,by first | exact .inl rfl | exact .inr rfl⟩,trivial⟩ (fun _ _ _ _=>(ay (i:=0) (by decide+kernel:List.Nodup (["band","orders"]:List Str)) rfl (Or.inl rfl))) (fun _ _ _ _=>fD) (fun _ _ _ _=>(aZ (bh K rfl) rfl T.z_tuple boot_tuple (aa (bV (cI hr) (pv 1) (pv 0) (fun _ _=>rfl)) ab)))) ab)) ab))))))))),?_⟩
 obtain ⟨y,dr,ws,os,ep,ds,rfl,hy,hz,hg,hd,QV,E9,BZ,LB,q⟩:=h
 have hs:(100000:Nat)<sizeLine:=by decide
 have Di:=eS hy
 have Dh:=wD hy
 have uc:os.length=(aA y).length:=by have:=hg.lk.1;rwa [List.length_map]at this
 obtain ⟨⟨wt,ot,d1,d2,d3⟩,dO⟩:=id hd
 refine ⟨_,rfl,dr,_,0,_,rfl,rfl,aY.of d1,rfl,wt,_,rfl, .inr (aY.of d2),fun wl DR=>?_⟩
 have s1:=ah.upd (o:=HO.lst (cD ws)) DR
 have nY:upd H wl (HO.lst (cD ws)) wl=some (HO.lst (cD ws)):=ae
 generalize upd H wl (HO.lst (cD ws))=H1 at s1 nY ⊢
 intro d nd
 have s2:=ah.upd (o:=HO.dK []) nd
 have hd2:upd H1 d (HO.dK []) d=some (HO.dK []):=ae
 have LC:=s2 _ _ nY
 have Jf:H d=none:=ah.free s1 nd
 have Zl:d≠wl:=Ne.symm (aq nY nd)
 have DS:=s1.trans s2
 generalize upd H1 d (HO.dK [])=H2 at s2 hd2 LC DS ⊢
 refine ⟨_,rfl,y,rfl,fun c hc=>(hy.lt c hc).lt,by omega,fun l0 H3 qF Es s3=>?_⟩
 have el:=jZ qF Es
 subst el
 have wR:=DS.trans s3
 have HR:=s3 _ _ hd2
 have LD:=s3 _ _ LC
 refine ⟨_,rfl,dr,_,1,_,rfl,rfl,aY.of (wR _ _ d1),rfl,?_⟩
 refine ⟨_,ot,rfl,⟨_,aY.of (wR _ _ d3)⟩,?_⟩
 refine CS (Sq1:=KD (aA y)) (Sq2:=xH K ot) (xs:=bX (aA y)) (ys:=kU os) (fun i σ H'=> ∃(bv ov:Option V) (cur:List Od),σ=[some (.str (S y)),some (.ref dr),some (.ref ep),some (.ref wl),some (.ref d),bv,ov,none,none]/\cur.length=i/\H' d=some (.dK (dI ((aA y).take i) cur))/\(cur.map Od.o).Nodup/\(∀o∈cur,ju H' o)/\cur.map br=(os.take i).map br/\(∀o∈cur,H3 o.o=none)/\aE d H3 H') (by rw[aT,lG];exact uc.symm)
  ⟨none,none,[],rfl,rfl,HR,List.nodup_nil,by simp,rfl,by simp,aE.refl _ _⟩ (fun i σ H' _ ⟨_,_,_,_,_,_,_,_,_,_,s⟩=>⟨rfl,aY.of (s _ _ (wR _ _ d3) (aq d3 Jf))⟩) ?_ ?_
 ·rintro i x z σ H4 T hx WV ⟨bv,ov,cur,rfl,kB,tW,QW,LF,zf,NS,s4⟩ nT
  obtain ⟨b,hb,rfl⟩:=eI hx
  have hi:i<(aA y).length:=(List.getElem?_eq_some_iff.mp hb).1
  have Ja:i<os.length:=by omega
  have DK:os[i]? =some os[i]:=List.getElem?_eq_getElem Ja
  have Eo:z=V.ref os[i].o:=by rw[GV DK]at WV;exact (Option.some.inj WV).symm
  subst Eo
  have hV:os[i]∈os:=List.getElem_mem Ja
  generalize os[i]=o at DK hV
  have bq:=dO o hV
  have sT:=ah.upd (o:=HO.tup [V.str (S [b]),V.ref o.o]) nT
  have hTd:T≠d:=Ne.symm (aq tW nT)
  refine ⟨T,_,rfl,aY.of ae,rfl,_,_,rfl,_,_,rfl,rfl,?_⟩
  have Zm:jb H4 o:=⟨s4 _ _ (wR _ _ bq.tp) (aq bq.tp Jf),fun p hp=>⟨s4 _ _ (wR _ _ (bq.pr p hp).tp) (aq (bq.pr p hp).tp Jf),(bq.pr p hp).cz,(bq.pr p hp).iz⟩,bq.fw⟩
  have QX:=Zm.same sT
  have ud:=sT _ _ tW
  have Zn: ∀o∈cur,ju (upd H4 T (HO.tup [V.str (S [b]),V.ref o.o])) o->True:=fun _ _ _=>trivial
  refine ⟨_,rfl,o.o,_,rfl, .inr (aY.of QX.tp),fun p6 n6=>?_⟩
  have s6:=ah.upd (o:=HO.lst (cL o.ps)) n6
  have Ln:=sT.trans s6
  have vB:=s6 _ _ ud
  have WW:H4 p6=none:=ah.free sT n6
  have WX:p6≠d:=Ne.symm (aq ud n6)
  have LG:ju (upd (upd H4 T (HO.tup [V.str (S [b]),V.ref o.o])) p6 (HO.lst (cL o.ps))) ⟨p6,o.ps⟩:=⟨ae,fun p hp=>(QX.pr p hp).same s6,QX.fw⟩
  generalize upd (upd H4 T (HO.tup [V.str (S [b]),V.ref o.o])) p6 (HO.lst (cL o.ps))=H6 at s6 Ln vB LG ⊢
  have FY:cC (dI ((aA y).take i) cur) (kS [b])=none:=pB fun m=>by
   obtain ⟨k,hk,e⟩:=List.mem_iff_getElem.mp m
   rw[List.length_take]at hk
   rw[List.getElem_take]at e
   have:=List.pairwise_iff_getElem.mp Dh k i (by omega) hi (by omega)
   rw[e,(List.getElem?_eq_some_iff.mp hb).2]at this
   exact this rfl
  have htl:((aA y).take i).length=i:=by rw[List.length_take];omega
  refine ⟨_,rfl,_,rfl,d,_,rfl,mB.k (k:=kS [b]) vB (by rw[mY (by omega)];omega),?_⟩
  rw[iC _ FY]
  have eo:dI ((aA y).take i) cur++[(kS [b],V.ref p6)]=dI ((aA y).take (i+1)) (cur++[⟨p6,o.ps⟩]):=by
   rw[<-take_snoc hb]
   exact yf (o:=⟨p6,o.ps⟩) (by omega)
  rw[eo]
  have up: ∀{x:Od},ju H6 x->x.o≠d->ju (upd H6 d (.dK (dI ((aA y).take (i+1)) (cur++[⟨p6,o.ps⟩])))) x:=fun {x} hx hU=>
   ⟨by rw[aj hU];exact hx.tp,fun p hp=>⟨by rw[aj (fun z=>by have:=(hx.pr p hp).tp;rw[z,vB]at this;cases this)];exact (hx.pr p hp).tp,(hx.pr p hp).cz,(hx.pr p hp).iz⟩,hx.fw⟩
  refine ⟨_,_,cur++[⟨p6,o.ps⟩],rfl,by simp[kB],ae,?_,fun x hx=>?_,?_,fun x hx=>?_,fun a u ea zz=>?_⟩
  ·rw[List.map_append,List.nodup_append]
   refine ⟨QW,by simp,fun a ha b' Ex e=>?_⟩
   obtain ⟨o',gG,rfl⟩:=List.mem_map.mp ha
   have e2:b'=p6:=by simpa using Ex
   have:=(LF o' gG).tp
   rw[e,e2,WW]at this
   cases this
  ·rcases List.mem_append.mp hx with g | g
   ·exact up ((LF x g).same Ln) (fun zz=>by have:=(LF x g).tp;rw[zz,tW]at this;cases this)
   ·rw[List.mem_singleton.mp g];exact up LG WX
  ·rw[List.map_append,zf, <-take_snoc DK,List.map_append];rfl
  ·rcases List.mem_append.mp hx with g | g
   ·exact NS x g
   ·rw[List.mem_singleton.mp g];exact s4.none WW WX
  ·rw[aj zz];exact Ln _ _ (s4 a u ea zz)
 ·rintro σ H4 ⟨bv,ov,cur,rfl,kB,tW,QW,LF,zf,NS,s4⟩
  rw[aT]at kB tW zf
  rw[List.take_length]at tW
  rw[<-uc,List.take_length]at zf
  have Zo:bS H4 d (aA y) cur:=⟨tW,kB,QW,LF⟩
  have QY:H4 ep=some (.lst (dM ds)):=s4 _ _ (wR _ _ QV) (aq QV Jf)
  have Zp:ah H H4:=fun a u ea=>s4 _ _ (wR _ _ ea) (aq ea Jf)
  have QZ:=s4 _ _ LD (Ne.symm Zl)
  have Q0: ∀o∈cur,H o.o=none:=fun o ho=>ah.free wR (NS o ho)
  refine ⟨_,rfl,ep,rfl,⟨_,aJ.of QY⟩,?_⟩
  refine iR (K:=K) (a:=ep) (xs:=dM ds) (fun i σ H'=> ∃(nv dv:Option V) (cu:List Od) (nI:List (List Nat)),σ=[some (.str (S y)),some (.ref dr),some (.ref ep),some (.ref wl),some (.ref d),bv,ov,nv,dv]/\bS H' d (aA y) cu/\H' wl=some (.lst (cD nI))/\Good y nI (cu.map br)/\(∀o∈cu,o.o≠wl)/\(∀o∈cu,H o.o=none)/\Path y nI (cu.map br) ((ds.drop i).map Dd.e)/\fL y nI (cu.map br) ((ds.drop i).map Dd.e)=fL y ws (os.map br) (ds.map Dd.e)/\ah H H')
   ⟨none,none,cur,ws,rfl,Zo,QZ,by rw[zf];exact hg,fun o ho zz=>absurd (NS o ho) (by rw[zz,LD];exact Option.some_ne_none _),Q0,by rw[zf];exact LB,by rw[zf];rfl,Zp⟩ (fun i σ H' _ ⟨_,_,_,_,_,_,_,_,_,_,_,_,s⟩=>aJ.of (s _ _ QV)) ?_ ?_
  ·rintro i x σ H5 T hx ⟨nv,dv,cu,nI,rfl,nR,vA,Bz,HS,HU,Q1,wO,s5⟩ nT
   obtain ⟨dd,WY,rfl⟩:=G1 hx
   have Q2:=List.mem_of_getElem? WY
   have hi:=List.getElem?_eq_some_iff.mp WY
   have Zq:(ds.drop i).map Dd.e=dd.e::(ds.drop (i+1)).map Dd.e:=by rw[List.drop_eq_getElem_cons hi.1,hi.2];rfl
   rw[Zq]at Q1 wO
   obtain ⟨bq,B1⟩:=Q1
   have sT:=ah.upd (o:=HO.tup [V.int i,V.ref dd.a]) nT
   refine ⟨T,_,rfl,aY.of ae,rfl,_,_,rfl,_,_,rfl,rfl,?_⟩
   have hold:=(Bz.hold hy hz nR vA HS).same sT
   refine ⟨_,rfl,_,rfl,_,rfl,_,rfl,y,d,wl,dd.a,cu,nI,dd.e,rfl,hy,hz,hold,fun o ho=>Nat.le_trans (Bz.len o ho) (by decide),(E9 dd Q2).ts (aF.of (s5.trans sT)),bq,fun os' H' g1 g2 g3 g4 g5=>?_⟩
   refine ⟨_,rfl,ck rfl ?_⟩
   have Zr:H wl=none:=DR
   have Zs:Good y (dW nI dd.e) (os'.map br):=by rw[g2];exact Bz.step hy bq
   have qg: ∀o∈os',H o.o=none:=fun o ho=>by
    rcases g4 o ho with g | g
    ·exact ah.free (s5.trans sT) g
    ·obtain ⟨o',gG,e⟩:=List.mem_map.mp g
     rw[<-e];exact HU o' gG
   refine ⟨_,_,os',dW nI dd.e,rfl,g1,g3,Zs,fun o ho zz=>?_,qg,by rw[g2];exact B1,by rw[g2];exact wO,fun a u ea=>?_⟩
   ·rcases g4 o ho with g | g
    ·rw[zz,hold.wd]at g;cases g
    ·obtain ⟨o',gG,e⟩:=List.mem_map.mp g
     exact HS o' gG (e.trans zz)
   ·refine g5 a u (sT _ _ (s5 a u ea)) (aq ea Jf) (aq ea Zr) fun zz=>?_
    obtain ⟨o',gG,e⟩:=List.mem_map.mp zz
    have:=HU o' gG
    rw[e,ea]at this
    cases this
  ·rintro σ H5 ⟨nv,dv,cu,nI,rfl,nR,vA,Bz,HS,HU,Q1,wO,s5⟩
   rw[bW,List.drop_length]at wO
   have Zt:(nI,cu.map br)=fL y ws (os.map br) (ds.map Dd.e):=wO
   rw[<-Zt]at q
   have Q3:=nR.ln
   refine ⟨_,rfl,wl,_,rfl, .inl ⟨aJ.of vA,fun tw NC=>?_⟩⟩
   have sw:=ah.upd (o:=HO.tup (cD nI)) NC
   have K9:upd H5 tw (HO.tup (cD nI)) tw=some (HO.tup (cD nI)):=ae
   have wQ:=nR.same sw
   have s6:=s5.trans sw
   generalize upd H5 tw (HO.tup (cD nI))=H6 at sw K9 wQ s6 ⊢
   refine ⟨_,rfl,y,rfl,fun c hc=>(hy.lt c hc).lt,by omega,fun l0 H7 qF Es s7=>?_⟩
   have el:=jZ qF Es
   subst el
   have Ly:=wQ.same s7
   have Q4:=s7 _ _ K9
   have Zu:=s6.trans s7
   refine ⟨_,rfl,?_⟩
   refine mv (xs:=bX (aA y)) (fun i acc H'=>ah H7 H'/\ ∃oo:List Od,acc=kU oo/\(∀o∈oo,jb H' o)/\oo.map br=(cu.take i).map br) (by rw[aT];omega) ⟨ah.refl _,[],rfl,fun _ h=>absurd h List.not_mem_nil,rfl⟩ ?_ ?_
   ·rintro i x acc H8 Nx hi hx iM ⟨s8,oo,rfl,y7,q_⟩ nx
    obtain ⟨b,hb,rfl⟩:=eI hx
    have hib:i<(aA y).length:=(List.getElem?_eq_some_iff.mp hb).1
    have DK:cu[i]? =some cu[i]:=List.getElem?_eq_getElem (by omega)
    have hV:cu[i]∈cu:=List.getElem_mem (by omega)
    generalize cu[i]=o at DK hV
    have Je:=Ly.same s8
    refine ⟨⟨rfl,trivial⟩,eK ?_⟩
    refine ⟨_,rfl,_,rfl,d,_,rfl,by rw[<-eT Dh hb DK];exact df.k (k:=kS [b]) Je.dk,?_⟩
    have Ek:=Je.ok o hV
    refine ⟨o.o,_,rfl, .inl ⟨aJ.of Ek.tp,fun t nt=>?_⟩⟩
    refine nx _ _ (by simpa using iM) ⟨s8.trans (ah.upd nt),oo++[⟨t,o.ps⟩],mV oo ⟨t,o.ps⟩,fun o' ho=>?_,?_⟩
    ·rcases List.mem_append.mp ho with g | g
     ·exact (y7 o' g).same (ah.upd nt)
     ·have e:=List.mem_singleton.mp g
      subst e
      exact ⟨ae,fun p hp=>(Ek.pr p hp).same (ah.upd nt),Ek.fw⟩
    ·rw[List.map_append,q_, <-take_snoc DK,List.map_append]
     rfl
   ·rintro acc H8 D iM ⟨s8,oo,rfl,y7,q_⟩ hD
    rw[aT, <-Q3,List.take_length]at q_
    refine ⟨D,_,rfl, .inl ⟨aJ.of ae,fun t nt=>?_⟩⟩
    refine ⟨by show 2<=sizeLine;decide,fun Ez Bk=>?_⟩
    have sA:=(ah.upd (o:= .lst (kU oo)) hD).trans ((ah.upd (o:= .tup (kU oo)) nt).trans (ah.upd (o:= .tup [.ref tw, .ref t]) Bk))
    have La:t≠Ez:=fun z=>by rw[<-z,ae]at Bk;cases Bk
    exact q Ez oo _ ⟨⟨tw,t,ae,sA _ _ (s8 _ _ Q4),by rw[aj La,ae]⟩,fun o ho=>(y7 o ho).same sA⟩ q_ (by rw[q_];exact Bz) ((Zu.trans s8).trans sA)
theorem oB:cf P w K mg base gc 1 EL Ng ["band","one","other"] (jk K):=by
 refine T.Hi.fn.ok cq (fun vs H Q E h=>ni h) (fun dw A outer s H vs Q E hr h=>?_)
 refine ⟨_,(af (ar (i:=3) cq.nd rfl (Or.inl rfl) (bC ab))
   (af (ar (i:=4) cq.nd rfl (Or.inl rfl) (aZ (eJ K rfl) rfl T.z_list boot_list (aa (pv 1) ab)))
   (af (bI PassesOwn.never rfl (jR K rfl rfl T.z_enumerate (aa (pv 2) ab)) (cS (n:=2) K rfl rfl (aR (ay (i:=5) cq.nd rfl (Or.inl rfl)) (aR (ay (i:=6) cq.nd rfl (Or.inl rfl)) cA))) (af (ar (i:=7) cq.nd rfl (Or.inl rfl) (aS K rfl PySem.F.plainAttrs_list PySem.F.slot_list_index PySem.F.type_list_index (xQ K rfl hr) (pv 4) (aa (pv 6) ab)))
   (af (bI PassesOwn.never rfl (xO rfl T.z_range (aa (pv 7) (aa (pv 5) (aa (Ed zu ag) ab)))) (ay (i:=8) cq.nd rfl (Or.inl rfl)) (ai (ba (aS K rfl PySem.F.plainAttrs_list PySem.F.slot_list_append PySem.F.type_list_append bu (pv 3) (aa (bY (aa (cE [115,119,97,112] (by decide+kernel)) (aa (pv 0) (aa (aB cB (pv 8) ag) ab)))) ab)))))
   (ai (ba (aS K rfl PySem.F.plainAttrs_list PySem.F.slot_list_insert PySem.F.type_list_insert fo (pv 4) (aa (pv 5) (aa (aS K rfl PySem.F.plainAttrs_list PySem.F.slot_list_pop PySem.F.type_list_pop gj (pv 4) (aa (pv 7) ab)) ab))))))))
   (ai (aD (pv 3)))))),?_⟩
 obtain ⟨b,o,r,rfl,ho,HK,jj,Dh,q⟩:=h
 have hs:(100000:Nat)<sizeLine:=by decide
 have hof:=ho.fw
 have hrf:=HK.fw
 (repeat (first | refine ⟨_,rfl,?_⟩ | refine ⟨_,_,rfl,rfl,?_⟩ | refine ⟨_,_,_,rfl,rfl,by first | assumption | omega,by assumption,?_⟩ | refine ⟨rfl,?_⟩ | refine And.intro (by first | decide | omega | assumption | exact Nat.le_of_ble_eq_true rfl | exact .inl ⟨by decide,by decide⟩ | exact .inr ⟨by decide,by decide⟩ | exact ⟨by decide,by decide⟩ | exact ⟨by omega,by omega⟩) ?_))
 intro D nD
 have s1:=ah.upd (o:=HO.lst []) nD
 have HJ:gp H (upd H D (HO.lst [])) D []:=⟨ae,fun _ h=>absurd h List.not_mem_nil,s1⟩
 generalize upd H D (HO.lst [])=H1 at HJ s1 ⊢
 refine ⟨_,rfl,o.o,_,rfl, .inr (aY.of (s1 _ _ ho.tp)),fun l nl=>?_⟩
 have s2:=ah.upd (o:=HO.lst (cL o.ps)) nl
 have nQ:upd H1 l (HO.lst (cL o.ps)) l=some (HO.lst (cL o.ps)):=ae
 have Fb:=HJ.same s2
 have Zv:H l=none:=ah.free s1 nl
 have WZ:l≠D:=(aq HJ.ls nl).symm
 have DO: ∀p∈o.ps,fK (upd H1 l (HO.lst (cL o.ps))) p:=fun p hp=>(ho.pr p hp).same (s1.trans s2)
 generalize upd H1 l (HO.lst (cL o.ps))=H2 at nQ Fb DO s2 ⊢
 have NM:=(s1.trans s2) _ _ HK.tp
 refine ⟨_,rfl,r.o,rfl,⟨_,aY.of NM⟩,?_⟩
 refine iQ (K:=K) (a:=r.o) (xs:=cL r.ps) (fun i σ H'=> ∃(cur:List Pr) (ds:List Dd) (ks:List Nat) (nv sv pv bv:Option V),σ=[some (.str (S [b])),some (.ref o.o),some (.ref r.o),some (.ref D),some (.ref l),nv,sv,pv,bv]/\gp H H' D ds/\H' l=some (.lst (cL cur))/\(∀p∈cur,fK H' p)/\
   ds.map Dd.e=ks.map (fun k=> .swap b k)/\SP (br o) ks (cur.map Pr.pair)/\(cur.map Pr.pair).take i=(br r).take i/\ds.length<=100*i)
  ⟨o.ps,[],[],none,none,none,none,rfl,Fb,nQ,DO,rfl, .nil,rfl,Nat.zero_le _⟩ (fun i σ H' _ ⟨_,_,_,_,_,_,_,_,h,_⟩=>aY.of (h.sm _ _ HK.tp)) ?_ ?_
 ·rintro i x σ H3 T hx ⟨cur,ds,ks,nv,sv,pv,bv,rfl,pU,qV,HV,nN,t6,uo,BZ⟩ nT
  obtain ⟨p,hp,rfl⟩:=u9 hx
  have hi:i<r.ps.length:=(List.getElem?_eq_some_iff.mp hp).1
  have Q5:(br r)[i]? =some p.pair:=by unfold br;rw[List.getElem?_map,hp];rfl
  have LH:=(HK.pr p (List.mem_of_getElem? hp)).same pU.sm
  have zf:(cur.map Pr.pair).Perm (br r):=t6.perm.trans jj
  have kB:cur.length=r.ps.length:=by have:=zf.length_eq;unfold br at this;rwa [List.length_map,List.length_map]at this
  obtain ⟨j,hj,Zw⟩:=yh (zf.mem_iff.mpr (List.mem_of_getElem? Q5))
  have qG:j<cur.length:=by have:=(List.getElem?_eq_some_iff.mp hj).1;rwa [List.length_map]at this
  have Iq:i<=j:=by
   rcases Nat.lt_or_ge j i with g | g
   ·exfalso
    have h1:(br r)[j]? =some p.pair:=by
     have:=congrArg (fun l:List (Nat×Nat)=>l[j]?) uo
     simp only[List.getElem?_take,if_pos g]at this
     rw[<-this];exact hj
    obtain ⟨a1,a2⟩:=List.getElem?_eq_some_iff.mp h1
    obtain ⟨b1,b2⟩:=List.getElem?_eq_some_iff.mp Q5
    have:=(List.getElem_inj Dh).mp (a2.trans b2.symm)
    omega
   ·exact g
  obtain ⟨cp,W0,Zx⟩: ∃cp,cur[j]? =some cp/\cp.pair=p.pair:=by
   rw[List.getElem?_map]at hj
   cases e:cur[j]? with
   | none=>rw[e]at hj;cases hj
   | some cp=>rw[e]at hj;exact ⟨cp,rfl,Option.some.inj hj⟩
  refine ⟨T,_,rfl,aY.of ae,rfl,_,_,rfl,_,_,rfl,rfl,?_⟩
  have sT:=ah.upd (o:=HO.tup [.int i, .ref p.t]) nT
  have rg:=pU.same sT
  have Fe:=sT _ _ qV
  have DT: ∀p'∈cur,fK (upd H3 T (HO.tup [.int i, .ref p.t])) p':=fun p' Dc=>(HV p' Dc).same sT
  have LI:=LH.same sT
  generalize upd H3 T (HO.tup [.int i, .ref p.t])=H4 at rg Fe DT LI ⊢
  clear sT nT pU qV HV LH
  have Q6:=List.mem_of_getElem? W0
  have Q7:((cur.map Pr.pair).map ua)[j]? =some (ua p.pair):=by rw[List.getElem?_map,hj];rfl
  refine ⟨_,rfl, .inl ⟨rfl,_,aJ.of Fe⟩,_,rfl,?_⟩
  refine ⟨l,cL cur, .ref p.t,(cur.map Pr.pair).map ua,ua p.pair,j,rfl,rfl,Fe,mX DT, .tup (aY.of LI.tp) (.cons (.int _) (.cons (.int _) .nil)),⟨(wu (k:=0) DT).ly,rfl⟩,by show 1<=60;decide,⟨_,Q7,by rw[AR];exact decide_eq_true rfl⟩,fun m e hm he=>?_,?_⟩
  ·rw[List.getElem?_map]at he
   cases e2:(cur.map Pr.pair)[m]? with
   | none=>rw[e2]at he;cases he
   | some u=>
    rw[e2]at he
    cases he
    rw[AR]
    exact decide_eq_false (Zw m u hm e2)
  refine ⟨_,rfl,_,rfl,_,rfl,(j:Int),(i:Int),rfl,⟨by omega,by omega,by omega,by omega⟩,?_⟩
  have Zy:((j:Int) - (i:Int)).toNat=j - i:=by omega
  rw[Zy]
  refine uU (fun t σ H'=> ∃(es:List Dd) (bv:Option V),σ=[some (.str (S [b])),some (.ref o.o),some (.ref r.o),some (.ref D),some (.ref l),some (.int i),some (.ref p.t),some (.int j),bv]/\gp H H' D es/\H' l=some (.lst (cL cur))/\(∀p∈cur,fK H' p)/\es.map Dd.e=ks.map (fun k=> .swap b k)++(g_ j t).map (fun k=> .swap b k))
   ⟨ds,bv,rfl,rg,Fe,DT,by rw[nN];simp[g_]⟩ ?_ ?_
  ·rintro t σ H5 ht ⟨es,Zz,rfl,ue,E_,HW,zd⟩
   have IW:ks.length=ds.length:=by have:=congrArg List.length nN;rw[List.length_map,List.length_map]at this;exact this.symm
   have x8:es.length<=10100:=by
    have:=congrArg List.length zd
    rw[List.length_map,List.length_append,List.length_map,List.length_map,pK,IW]at this
    omega
   have ev:(j:Int) - (t:Int) - 1=((j - 1 - t:Nat):Int):=by omega
   refine ⟨_,rfl, .inl ⟨rfl,_,aJ.of ue.ls⟩,_,rfl,_,rfl,_,_,rfl,rfl,by show 3<=sizeLine;decide,fun d1 n1=>?_⟩
   have e1:=ah.upd (o:=HO.tup [V.str (S [115,119,97,112]),V.str (S [b]),V.int ((j:Int) - (t:Int) - 1)]) n1
   refine ⟨D,_,_,rfl,rfl,e1 _ _ ue.ls,by rw[bW];omega,?_⟩
   rw[show dM es++[V.ref d1]=dM (es++[⟨d1, .swap b (j - 1 - t)⟩]) from fM es ⟨d1, .swap b (j - 1 - t)⟩]
   have yG:=ue.push (e:= .swap b (j - 1 - t)) nD e1 (by show upd H5 d1 _ d1=_;rw[ae,ev];rfl)
   have tU:=aF.hR (o:=HO.lst (dM (es++[⟨d1, .swap b (j - 1 - t)⟩]))) (e1 _ _ ue.ls)
   refine ⟨_,_,rfl,yG,by rw[aj WZ];exact e1 _ _ E_,fun p' Dc=>((HW p' Dc).same e1).ts tU,?_⟩
   rw[List.map_append,zd,vk,List.map_append,List.append_assoc]
   rfl
  ·rintro σ H5 ⟨es,Zz,rfl,ue,E_,HW,zd⟩
   have ZC:(cL cur)[j]? =some (V.ref cp.t):=by unfold cL;rw[List.getElem?_map,W0];rfl
   refine ⟨_,rfl, .inl ⟨rfl,_,aJ.of E_⟩,_,rfl,_,rfl, .inl ⟨rfl,_,aJ.of E_⟩,_,rfl,?_⟩
   refine ⟨l,_,_,j,V.ref cp.t,rfl,rfl,E_,by omega,by omega,by rw[bK,seqIndex_of (by omega) (by omega),Int.toNat_natCast],ZC,?_⟩
   have hle:((cL cur).eraseIdx j).length=cur.length - 1:=by rw[List.length_eraseIdx,bK,if_pos qG]
   refine ⟨l,_,i,V.ref cp.t,rfl,rfl,ae,by rw[hle];omega,by rw[hle];omega,?_⟩
   rw[pV,tH]
   have tU:=aF.hR (o:=HO.lst (cL (fh cur i j cp))) E_
   obtain ⟨b1,b2⟩:=KU Iq hj
   have W3:(fh cur i j cp).map Pr.pair=(cur.map Pr.pair).take i++p.pair::((cur.map Pr.pair).drop i).take (j - i)++(cur.map Pr.pair).drop (j+1):=by rw[qK,Zx];exact b2
   have CY:(cur.map Pr.pair).length=cur.length:=List.length_map _
   have KW:((cur.map Pr.pair).take i).length=i:=by rw[List.length_take];omega
   refine ⟨fh cur i j cp,es,ks++g_ j (j - i),_,_,_,_,rfl,⟨by rw[aj WZ.symm];exact ue.ls,fun x hx=>(ue.de x hx).ts tU,fun x u ex=>by rw[aj (aq ex Zv)];exact ue.sm _ _ ex⟩,ae,fun p' Dc=>(HW p' (tI Q6 Dc)).ts tU,by rw[zd,List.map_append],?_,?_,?_⟩
   ·have sd:=SP.down ((cur.map Pr.pair).take i) p.pair (j - i) (((cur.map Pr.pair).drop i).take (j - i)) ((cur.map Pr.pair).drop (j+1)) (by rw[List.length_take,List.length_drop];omega)
    rw[KW,show i+(j - i)=j by omega, <-b1, <-W3]at sd
    exact t6.app sd
   ·rw[W3,List.append_assoc,List.take_append,KW,List.take_of_length_le (by omega),show i+1 - i=1 by omega,uo,List.take_succ (i:=i) (l:=br r),Q5]
    rfl
   ·have:=congrArg List.length zd
    have h2:=congrArg List.length nN
    rw[List.length_map,List.length_map]at h2
    rw[List.length_map,List.length_append,List.length_map,List.length_map,pK]at this
    omega
 ·rintro σ H3 ⟨cur,ds,ks,nv,sv,pv,bv,rfl,pU,qV,HV,nN,t6,uo,BZ⟩
  rw[bK]at uo BZ
  have zf:(cur.map Pr.pair).Perm (br r):=t6.perm.trans jj
  have Af:(br r).length=r.ps.length:=by unfold br;rw[List.length_map]
  have kB:=zf.length_eq
  rw[List.take_of_length_le (by omega),List.take_of_length_le (by omega)]at uo
  refine ⟨_,rfl,q D ds H3 nD pU.ls pU.de ⟨ks,nN,by rw[<-uo];exact t6⟩ (by omega) pU.sm⟩
theorem DU:cf P w K mg base gc 7 EN Ni ["yard","one","other"] (wG K):=by
 have qX:=oA (P:=P) (w:=w) (base:=base) T
 have t5:=qW (P:=P) (w:=w) (base:=base) T
 have qY:=wU (P:=P) (w:=w) (base:=base) T
 have lM:=t4 (P:=P) (w:=w) (base:=base) T
 have qZ:=oB (P:=P) (w:=w) (base:=base) T
 refine T.BR.fn.ok gT (fun vs H Q E h=>AQ h) (fun dw A outer s H vs Q E hr h=>?_)
 refine ⟨_,(af (bE (cZ (ib (ao qX (hr.mono (by decide)) rfl T.Hj.mg T.Hj.fn.kp T.Hj.bd .nil aC (aa (au (aw K rfl) (pv 1) ag (fun _ _=>rfl)) (aa (au (aw K rfl) (pv 2) ag (fun _ _=>rfl)) ab))))) (ai (aD pY)) a_)
   (af (ar (i:=3) gT.nd rfl (Or.inl rfl) (bC ab))
   (af (bI PassesOwn.never rfl (jR K rfl rfl T.z_enumerate (aa (au (aw K rfl) (pv 1) ag (fun _ _=>rfl)) ab)) (cS (n:=2) K rfl rfl (aR (ay (i:=4) gT.nd rfl (Or.inl rfl)) (aR (ay (i:=5) gT.nd rfl (Or.inl rfl)) cA))) (ai (ba (aS K rfl PySem.F.plainAttrs_list PySem.F.slot_list_extend PySem.F.type_list_extend km (pv 3) (aa (ao t5 (hr.mono (by decide)) rfl T.Hh.mg T.Hh.fn.kp T.Hh.bd .nil aC (aa (pv 4) (aa (pv 5) (aa (au (aw K rfl) (au (aw K rfl) (pv 2) ag (fun _ _=>rfl)) (pv 4) (fun _ _=>rfl)) ab)))) ab)))))
   (af (ar (i:=6) gT.nd rfl (Or.inl rfl) (ao qY (hr.mono (by decide)) rfl T.F8.mg T.F8.fn.kp T.F8.bd .nil aC (aa (pv 0) (aa (pv 1) (aa (pv 3) ab)))))
   (af (bI PassesOwn.never rfl (mz rfl T.z_enumerate (aa (ao lM (hr.mono (by decide)) rfl T.F1.mg T.F1.fn.kp T.F1.bd .nil aC (aa (pv 0) ab)) ab)) (cS (n:=2) K rfl rfl (aR (ay (i:=7) gT.nd rfl (Or.inl rfl)) (aR (ay (i:=8) gT.nd rfl (Or.inl rfl)) cA))) (ai (ba (aS K rfl PySem.F.plainAttrs_list PySem.F.slot_list_extend PySem.F.type_list_extend km (pv 3) (aa (ao qZ (hr.mono (by decide)) rfl T.Hi.mg T.Hi.fn.kp T.Hi.bd .nil aC (aa (pv 8) (aa (au (aw K rfl) (au (aw K rfl) (pv 6) ag (fun _ _=>rfl)) (pv 7) (fun _ _=>rfl)) (aa (au (aw K rfl) (au (aw K rfl) (pv 2) ag (fun _ _=>rfl)) (pv 7) (fun _ _=>rfl)) ab)))) ab)))))
   (ai (aD (pv 3)))))))),?_⟩
 obtain ⟨y,d,e,ws,vs',os,ps,rfl,hy,IK,HX,Ff,hd,he,qN,qS⟩:=h
 have hs:(100000:Nat)<sizeLine:=by decide
 obtain ⟨⟨Q8,ot1,a1,a2,a3⟩,aO⟩:=id hd
 obtain ⟨⟨W4,ZD,b1,b2,b3⟩,bO⟩:=id he
 have Di:=eS hy
 have ZE: ∀w∈ws,(∀c∈w,Lt c)/\w.length<=12:=fun w hw=>⟨fun c hc=>hy.lt c ((HX.iH w hw).1 c hc),(HX.iH w hw).2⟩
 have ZF: ∀w∈vs',(∀c∈w,Lt c)/\w.length<=12:=fun w hw=>⟨fun c hc=>hy.lt c ((Ff.iH w hw).1 c hc),(Ff.iH w hw).2⟩
 have DA:=HX.ke
 have Y5:=Ff.ke
 refine ⟨_,rfl,d,_,0,_,rfl,rfl,aY.of a1,rfl,_,rfl,e,_,0,_,rfl,rfl,aY.of b1,rfl,Q8,W4,ws,vs',rfl,a2,b2,HX.ke,Ff.ke,ZE,ZF,fun H1 s1=>⟨_,rfl,dH (fun z=>?_) (fun z=>?_)⟩⟩
 ·have hU:ws.map aU≠vs'.map aU:=fun g=>by rw[decide_eq_true g]at z;cases z
  exact qN hU H1 s1
 have heq:ws.map aU=vs'.map aU:=by
  by_cases g:ws.map aU=vs'.map aU
  ·exact g
  ·rw[decide_eq_false g]at z;exact absurd rfl z
 have q:=qS heq
 have hlen:ws.length=vs'.length:=by have:=congrArg List.length heq;rwa [List.length_map,List.length_map]at this
 (repeat (first | refine ⟨_,rfl,?_⟩ | refine ⟨_,_,rfl,rfl,?_⟩ | refine ⟨_,_,_,rfl,rfl,by first | assumption | omega,by assumption,?_⟩ | refine ⟨rfl,?_⟩ | refine And.intro (by first | decide | omega | assumption | exact Nat.le_of_ble_eq_true rfl | exact .inl ⟨by decide,by decide⟩ | exact .inr ⟨by decide,by decide⟩ | exact ⟨by decide,by decide⟩ | exact ⟨by omega,by omega⟩) ?_))
 intro D nD
 have s2:=s1.trans (ah.upd (o:=HO.lst []) nD)
 have Fb:gp H (upd H1 D (HO.lst [])) D []:=⟨ae,fun _ h=>absurd h List.not_mem_nil,s2⟩
 have LJ:H D=none:=ah.free s1 nD
 generalize upd H1 D (HO.lst [])=H2 at Fb s2 ⊢
 refine ⟨_,rfl,d,_,0,_,rfl,rfl,aY.of (s2 _ _ a1),rfl,Q8,rfl,⟨_,aY.of (s2 _ _ a2)⟩,?_⟩
 refine iQ (K:=K) (a:=Q8) (xs:=cD ws) (fun j σ H'=> ∃(ds:List Dd) (cv wv:Option V),σ=[some (.str (S y)),some (.ref d),some (.ref e),some (.ref D),cv,wv,none,none,none]/\gp H H' D ds/\Path y ws (os.map br) (ds.map Dd.e)/\(fL y ws (os.map br) (ds.map Dd.e)).1=vs'.take j++ws.drop j/\Good y (vs'.take j++ws.drop j) (fL y ws (os.map br) (ds.map Dd.e)).2/\ds.length<=1000*j)
  ⟨[],none,none,rfl,Fb,trivial,rfl,HX,Nat.zero_le _⟩ (fun j σ H' _ ⟨_,_,_,_,h,_⟩=>aY.of (h.sm _ _ a2)) ?_ ?_
 ·rintro j x σ H3 T hx ⟨ds,cv,wv,rfl,pU,Jg,B2,LK,qV⟩ nT
  have hj:j<ws.length:=by
   have:=(List.getElem?_eq_some_iff.mp hx).1
   rwa [bt]at this
  rw[mI hj]at hx
  cases hx
  have DH:ws[j]? =some ws[j]:=List.getElem?_eq_getElem hj
  have LL:vs'[j]? =some (vs'[j]'(by omega)):=List.getElem?_eq_getElem (by omega)
  obtain ⟨zc,vw⟩:=HX.iH _ (List.getElem_mem hj)
  have Bu:aU ws[j]=aU (vs'[j]'(by omega)):=by
   have:=congrArg (fun l:List (List Nat)=>l[j]?) heq
   simp only[List.getElem?_map,DH,LL]at this
   exact Option.some.inj this
  obtain ⟨Lp,NN⟩:=Ff.iH _ (List.mem_of_getElem? LL)
  generalize ws[j]=w at DH zc vw Bu ⊢
  generalize (vs'[j]'(by omega))=v at LL Lp NN Bu
  refine ⟨T,_,rfl,aY.of ae,rfl,_,_,rfl,_,_,rfl,rfl,?_⟩
  have sT:=ah.upd (o:=HO.tup [.int j, .str (S w)]) nT
  have rg:=pU.same sT
  generalize upd H3 T (HO.tup [.int j, .str (S w)])=H4 at rg ⊢
  clear sT nT pU
  refine ⟨_,rfl, .inl ⟨rfl,_,aJ.of rg.ls⟩,_,rfl,_,rfl,_,rfl,e,_,0,_,rfl,rfl,aY.of (rg.sm _ _ b1),rfl,_,rfl,W4,_,_,_,rfl,rfl,aY.of (rg.sm _ _ b2),aQ (AS LL),?_⟩
  refine ⟨y,j,w,v,rfl,hy,zc,vw,Lp,NN,Bu,fun b es H5 nb hb Lr HI x8 s5=>?_⟩
  have hmg:((fL y ws (os.map br) (ds.map Dd.e)).1)[j]? =some w:=by rw[B2];exact wH (by omega) DH
  rw[<-B2]at LK
  obtain ⟨l1,l2,l3⟩:=WP.lift hy HI LK hmg
  rw[B2,wI hj LL]at l2 l3
  refine ⟨D,b,_,_,rfl,rfl,s5 _ _ rg.ls,hb,by rw[bW,bW];omega,?_⟩
  rw[lK]
  refine ⟨ds++es,_,_,rfl,rg.ext (b:=b) LJ s5 Lr,?_,?_,?_,by rw[List.length_append];omega⟩
  ·rw[List.map_append];exact nc Jg l1
  ·rw[List.map_append,lH,B2];exact l2
  ·rw[List.map_append,lH,B2];exact l3
 ·rintro σ H3 ⟨ds,cv,wv,rfl,pU,Jg,B2,LK,qV⟩
  rw[bt]at B2 LK qV
  have e1:vs'.take ws.length++ws.drop ws.length=vs':=by rw[List.drop_length,List.append_nil,List.take_of_length_le (by omega)]
  rw[e1]at B2 LK
  refine ⟨_,rfl,_,rfl,_,rfl,y,d,ws,os,D,ds,rfl,hy,IK,HX,hd.same pU.sm,pU.ls,pU.de,by omega,Jg,fun m ms H4 hm Jh hmg s4=>?_⟩
  rw[B2]at hm hmg
  obtain ⟨⟨wt3,ZG,m1,m2,m3⟩,mO⟩:=hm
  have rg:=pU.same s4
  refine ⟨_,rfl,y,rfl,fun c hc=>(hy.lt c hc).lt,by omega,fun l0 H7 qF Es s7=>?_⟩
  have el:=jZ qF Es
  subst el
  have ZH:=rg.same s7
  refine ⟨_,rfl,?_⟩
  have Q9:fL y ws (os.map br) (ds.map Dd.e)=(vs',ms.map br):=by rw[Jh, <-B2]
  have ZI:aF H4 H7:=aF.of s7
  refine rP (l:=aA y) (fun k σ H'=> ∃(fs:List Dd) (nv bv:Option V),σ=[some (.str (S y)),some (.ref d),some (.ref e),some (.ref D),cv,wv,some (.ref m),nv,bv]/\gp H H' D fs/\aF H4 H'/\Path y ws (os.map br) (fs.map Dd.e)/\fL y ws (os.map br) (fs.map Dd.e)=(vs',(ps.map br).take k++(ms.map br).drop k)/\fs.length<=4000+10000*k)
   ⟨ds,none,none,rfl,ZH,ZI,Jg,Q9,by omega⟩ ?_ ?_
  ·rintro k b σ H8 T hk ⟨fs,nv,bv,rfl,Ji,t8,Q_,LM,ZJ⟩ nT
   have hkb:k<(aA y).length:=(List.getElem?_eq_some_iff.mp hk).1
   have lm:ms.length=(aA y).length:=by have:=hmg.lk.1;rwa [List.length_map]at this
   have lp:ps.length=(aA y).length:=by have:=Ff.lk.1;rwa [List.length_map]at this
   obtain ⟨o,ho⟩: ∃o,ms[k]? =some o:=⟨_,List.getElem?_eq_getElem (by omega)⟩
   obtain ⟨p,hp⟩: ∃p,ps[k]? =some p:=⟨_,List.getElem?_eq_getElem (by omega)⟩
   have MC:(ms.map br)[k]? =some (br o):=by rw[List.getElem?_map,ho];rfl
   have W5:(ps.map br)[k]? =some (br p):=by rw[List.getElem?_map,hp];rfl
   have Ra:=hmg.lk.2 k _ b MC hk
   have NT:=Ff.lk.2 k _ b W5 hk
   refine ⟨T,_,rfl,aY.of ae,rfl,_,_,rfl,_,_,rfl,rfl,?_⟩
   have sT:=ah.upd (o:=HO.tup [.int k, .str (S [b])]) nT
   have Br:=Ji.same sT
   have t9:aF H4 (upd H8 T (HO.tup [.int k, .str (S [b])])):=fun c xs x=>sT _ _ (t8 c xs x)
   generalize upd H8 T (HO.tup [.int k, .str (S [b])])=H9 at Br t9 ⊢
   clear sT nT Ji
   refine ⟨_,rfl, .inl ⟨rfl,_,aJ.of Br.ls⟩,_,rfl,_,rfl,m,_,1,_,rfl,rfl,aY.of (t9 _ _ m1),rfl,_,rfl,ZG,_,_,_,rfl,rfl,aY.of (t9 _ _ m3),aQ (wJ ho),_,rfl,e,_,1,_,rfl,rfl,aY.of (Br.sm _ _ b1),rfl,_,rfl,ZD,_,_,_,rfl,rfl,aY.of (Br.sm _ _ b3),aQ (wJ hp),?_⟩
   refine ⟨b,o,p,rfl,(mO o (List.mem_of_getElem? ho)).ts t9,(bO p (List.mem_of_getElem? hp)).same Br.sm,Ra.trans NT.symm,NT.nodup_iff.mpr (gP _ _ _),fun b2 es H5 nb hb Lr HI x8 s5=>?_⟩
   obtain ⟨ks,ek,t6⟩:=HI
   have LN:((ps.map br).take k++(ms.map br).drop k)[k]? =some (br o):=wH (by rw[List.length_map];omega) MC
   obtain ⟨l1,l2⟩:=SP.lift (ws:=vs') hy t6 hk LN
   rw[<-ek]at l1 l2
   rw[wI (by rw[List.length_map];omega) W5]at l2
   refine ⟨D,b2,_,_,rfl,rfl,s5 _ _ Br.ls,hb,by rw[bW,bW];omega,?_⟩
   rw[lK]
   refine ⟨fs++es,_,_,rfl,Br.ext (b:=b2) LJ s5 Lr,fun c xs x=>?_,?_,?_,by rw[List.length_append];omega⟩
   ·exact (aF.hR (s5 _ _ Br.ls)) c xs (s5 _ _ (t9 c xs x))
   ·rw[List.map_append];exact nc Q_ (by rw[LM];exact l1)
   ·rw[List.map_append,lH,LM];exact l2
  ·rintro σ H8 ⟨fs,nv,bv,rfl,Ji,t8,Q_,LM,ZJ⟩
   have lm:ms.length=(aA y).length:=by have:=hmg.lk.1;rwa [List.length_map]at this
   have lp:ps.length=(aA y).length:=by have:=Ff.lk.1;rwa [List.length_map]at this
   rw[List.take_of_length_le (by rw[List.length_map];omega),List.drop_eq_nil_of_le (by rw[List.length_map];omega),List.append_nil]at LM
   exact ⟨_,rfl,q D fs H8 LJ Ji.ls Ji.de ⟨Q_,LM⟩ (by omega) Ji.sm⟩
theorem vG:cf P w K mg base gc 1 EZ Nu ["_law_drawing_here"] (nA K):=by
 refine T.Ho.fn.ok du (fun vs H Q E h=>tL h) (fun dw A outer s H vs Q E hr h=>?_)
 refine ⟨_,(af (ar (i:=1) du.nd rfl (Or.inr rfl) zY)
   (af (ar (i:=2) du.nd rfl (Or.inl rfl) (bC ab))
   (af (bI PassesOwn.never rfl (jR K rfl rfl T.z_enumerate (aa (au (aw K rfl) (pv 0) ag (fun _ _=>rfl)) ab)) (cS (n:=2) K rfl rfl (aR (ay (i:=3) du.nd rfl (Or.inl rfl)) (aR (ay (i:=4) du.nd rfl (Or.inl rfl)) cA))) (af (ba (aS K rfl PySem.F.plainAttrs_list PySem.F.slot_list_append PySem.F.type_list_append bu (pv 2) (aa (bC ab) ab)))
   (ai (bI PassesOwn.never rfl (mz rfl T.z_enumerate (aa (pv 4) ab)) (cS (n:=2) K rfl rfl (aR (ay (i:=5) du.nd rfl (Or.inl rfl)) (aR (ay (i:=6) du.nd rfl (Or.inl rfl)) cA))) (af (jT (cI hr) (pv 1) (bY (aa (pv 3) (aa (pv 5) ab))) (ax o5 rfl T.z_len PySem.boot_len (aa (pv 1) ab)) rfl)
   (ai (ba (aS K rfl PySem.F.plainAttrs_list PySem.F.slot_list_append PySem.F.type_list_append bu (au (aP K rfl) (pv 2) (pv 3) (fun _ _=>rfl)) (aa (bC (aa (pv 6) (aa (bV (cI hr) (pv 1) (bY (aa (pv 3) (aa (pv 5) ab))) (fun _ _=>rfl)) ab))) ab)))))))))
   (ai (aD (CM (mC (cE [119,111,114,100,115] (by decide+kernel)) (pv 2) (mC (cE [111,114,100,101,114,115] (by decide+kernel)) (cg ["_law_order_here","_law_number"] [none,some 1] (ql K rfl (au (aw K rfl) (pv 0) ag (fun _ _=>rfl))) ⟨⟨rfl,rfl,by first | exact .inl rfl | exact .inr rfl⟩,trivial⟩ (fun _ _ _ _=>(ay (i:=0) (by decide+kernel:List.Nodup (["_law_order_here","_law_number"]:List Str)) rfl (Or.inl rfl))) (fun _ _ _ _=>fD) (fun _ _ _ _=>(cg ["_law_one","_law_number"] [none,some 1] (ql K rfl (pv 0)) ⟨⟨rfl,rfl,by first | exact .inl rfl | exact .inr rfl⟩,trivial⟩ (fun _ _ _ _=>(ay (i:=0) (by decide+kernel:List.Nodup (["_law_one","_law_number"]:List Str)) rfl (Or.inl rfl))) (fun _ _ _ _=>fD) (fun _ _ _ _=>(bV (cI hr) (pv 1) (pv 0) (fun _ _=>rfl)))))) (mC (cE [109,97,110,121] (by decide+kernel)) (ax o5 rfl T.z_len PySem.boot_len (aa (pv 1) ab)) CL))) rfl rfl (by simp) (by decide))))))),?_⟩
 obtain ⟨y,dr,ws,os,rfl,hy,IK,hg,hd,q⟩:=h
 have hs:(100000:Nat)<sizeLine:=by decide
 obtain ⟨⟨wt,ot,d1,d2,d3⟩,dO⟩:=id hd
 have DA:=hg.ke
 have jn:=hg.iH
 (repeat (first | refine ⟨_,rfl,?_⟩ | refine ⟨_,_,rfl,rfl,?_⟩ | refine ⟨_,_,_,rfl,rfl,by first | assumption | omega,by assumption,?_⟩ | refine ⟨rfl,?_⟩ | refine And.intro (by first | decide | omega | assumption | exact Nat.le_of_ble_eq_true rfl | exact .inl ⟨by decide,by decide⟩ | exact .inr ⟨by decide,by decide⟩ | exact ⟨by decide,by decide⟩ | exact ⟨by omega,by omega⟩) ?_))
 intro d nd
 have sd:=ah.upd (o:=HO.dT []) nd
 have LO:upd H d (HO.dT []) d=some (HO.dT []):=ae
 generalize upd H d (HO.dT [])=H1 at sd LO ⊢
 (repeat (first | refine ⟨_,rfl,?_⟩ | refine ⟨_,_,rfl,rfl,?_⟩ | refine ⟨_,_,_,rfl,rfl,by first | assumption | omega,by assumption,?_⟩ | refine ⟨rfl,?_⟩ | refine And.intro (by first | decide | omega | assumption | exact Nat.le_of_ble_eq_true rfl | exact .inl ⟨by decide,by decide⟩ | exact .inr ⟨by decide,by decide⟩ | exact ⟨by decide,by decide⟩ | exact ⟨by omega,by omega⟩) ?_))
 intro wl DR
 have n0:H wl=none:=ah.free sd DR
 have s1:=sd.trans (ah.upd (o:=HO.lst []) DR)
 have Lq:=(ah.upd (o:=HO.lst []) DR) _ _ LO
 have LP:iJ (upd H1 wl (HO.lst [])) wl []:=⟨ae,fun c h=>absurd h List.not_mem_nil,fun c h=>absurd h List.not_mem_nil,by simp,fun c h=>absurd h List.not_mem_nil⟩
 have hU:d≠wl:=fun z=>by rw[z]at LO;rw[LO]at DR;cases DR
 generalize upd H1 wl (HO.lst [])=H2 at s1 Lq LP ⊢
 clear sd LO DR
 refine ⟨_,rfl,dr,_,0,_,rfl,rfl,aY.of (s1 _ _ d1),rfl,?_⟩
 refine ⟨wt,rfl,⟨_,aY.of (s1 _ _ d2)⟩,?_⟩
 refine iQ (K:=K) (a:=wt) (xs:=cD ws) (fun j σ H'=> ∃(Ws:List Wc) (kvs:List (List Key×V)) (m:Nat) (cv wv iv lv:Option V),σ=[some (.ref dr),some (.ref d),some (.ref wl),cv,wv,iv,lv]/\H' d=some (.dT kvs)/\iJ H' wl Ws/\j_ (oW Ws) kvs m/\lets (oW Ws)=ws.take j/\m<=12*j/\(∀c∈Ws,H c.a=none)/\ah H H')
  ⟨[],[],0,none,none,none,none,rfl,Lq,LP,⟨rfl,rfl,fun n p ⟨_,_,h,_⟩=>by simp[oW]at h,fun p _=>rfl⟩,rfl,Nat.zero_le _,fun c h=>absurd h List.not_mem_nil,s1⟩ (fun j σ H' _ ⟨_,_,_,_,_,_,_,_,_,_,_,_,_,_,h⟩=>aY.of (h _ _ d2)) ?_ ?_
 ·rintro j x σ H3 T hx ⟨Ws,kvs,m,cv,wv,iv,lv,rfl,HR,BA,Jj,qV,HY,Rb,s3⟩ nT
  have hj:j<ws.length:=by
   have:=(List.getElem?_eq_some_iff.mp hx).1
   rwa [bt]at this
  rw[mI hj]at hx
  cases hx
  have DH:ws[j]? =some ws[j]:=List.getElem?_eq_getElem hj
  obtain ⟨zc,vw⟩:=jn _ (List.getElem_mem hj)
  generalize ws[j]=w at DH zc vw ⊢
  have yx:Ws.length=j:=by
   have:=congrArg List.length qV
   rw[cP,qM,List.length_take]at this
   omega
  refine ⟨T,_,rfl,aY.of ae,rfl,_,_,rfl,_,_,rfl,rfl,?_⟩
  have sT:=ah.upd (o:=HO.tup [.int j, .str (S w)]) nT
  have tW:=sT _ _ HR
  have kM:=BA.same sT
  have s4:=s3.trans sT
  generalize upd H3 T (HO.tup [.int j, .str (S w)])=H4 at tW kM s4 ⊢
  clear sT nT HR BA s3
  refine ⟨_,rfl, .inl ⟨rfl,_,aJ.of kM.wd⟩,Nat.zero_le _,fun t nt=>?_⟩
  have LQ:=kM.new nt
  have y8:H t=none:=ah.free s4 nt
  refine ⟨wl,_,_,rfl,rfl,(ah.upd (o:=HO.lst []) nt) _ _ kM.wd,by rw[fT];omega,?_⟩
  rw[show jw Ws++[V.ref t]=jw (Ws++[⟨t,[]⟩]) from AX Ws ⟨t,[]⟩]
  have ud:upd (upd H4 t (HO.lst [])) wl (HO.lst (jw (Ws++[⟨t,[]⟩]))) d=some (HO.dT kvs):=by rw[aj hU];exact (ah.upd nt) _ _ tW
  have s5:ah H (upd (upd H4 t (HO.lst [])) wl (HO.lst (jw (Ws++[⟨t,[]⟩])))):=gr (gr s4 y8) n0
  generalize upd (upd H4 t (HO.lst [])) wl (HO.lst (jw (Ws++[⟨t,[]⟩])))=H5 at ud LQ s5 ⊢
  clear tW kM s4 nt
  have ZK:=Jj.new
  refine ⟨_,rfl,w,rfl,?_⟩
  refine rP (l:=w) (fun k σ H'=> ∃(ls:List Lc) (kvs:List (List Key×V)) (m:Nat) (iv lv:Option V),σ=[some (.ref dr),some (.ref d),some (.ref wl),some (.int j),some (.str (S w)),iv,lv]/\H' d=some (.dT kvs)/\iJ H' wl (Ws++[⟨t,ls⟩])/\j_ (oW Ws++[(⟨t,ls⟩:Wc).w]) kvs m/\ls.map Lc.x=w.take k/\m<=12*j+k/\ah H H')
   ⟨[],kvs,m,iv,lv,rfl,ud,LQ,ZK,rfl,by omega,s5⟩ ?_ ?_
  ·rintro k l σ H6 T2 hk ⟨ls,q0,m6,ZL,ZM,rfl,vB,lB,NU,NV,ZN,s6⟩ Hu
   have hkw:k<w.length:=(List.getElem?_eq_some_iff.mp hk).1
   have yX:ls.length=k:=by
    have:=congrArg List.length NV
    rw[List.length_map,List.length_take]at this
    omega
   refine ⟨T2,_,rfl,aY.of ae,rfl,_,_,rfl,_,_,rfl,rfl,?_⟩
   have sT:=ah.upd (o:=HO.tup [.int k, .str (S [l])]) Hu
   have B0:=sT _ _ vB
   have HZ:=lB.same sT
   have s7:=s6.trans sT
   generalize upd H6 T2 (HO.tup [.int k, .str (S [l])])=H7 at B0 HZ s7 ⊢
   clear sT Hu vB lB s6
   have ZO:q0.length=m6:=NU.kl
   have ZP:(oW Ws).length=j:=by rw[qM];exact yx
   have BV:(⟨t,ls⟩:Wc).w.length=k:=by rw[Wc.KY];exact yX
   obtain ⟨Dn,W6⟩:=NU.push (x:=l)
   rw[ZP,BV]at Dn W6
   refine ⟨_,rfl,d,q0,rfl,B0,?_⟩
   rw[ZO]
   refine ⟨_,rfl,_,rfl,_,rfl,by show 2<=sizeLine;decide,fun t1 IS=>?_⟩
   have my:=ah.upd (o:=HO.tup [V.int j,V.int k]) IS
   refine ⟨d,_,rfl,mB.t (k:=gQ (j,k)) (my _ _ B0) ae (by omega),?_⟩
   have yM:=(HZ.same my).dict (k':=putK q0 (gQ (j,k)) (.int (m6:Nat))) (my _ _ B0)
   have s8:ah H (upd (upd H7 t1 (HO.tup [V.int j,V.int k])) d (.dT (putK q0 (gQ (j,k)) (.int (m6:Nat))))):=gr (s7.trans my) nd
   have I_:upd (upd H7 t1 (HO.tup [V.int j,V.int k])) d (.dT (putK q0 (gQ (j,k)) (.int (m6:Nat)))) d=_:=ae
   generalize upd (upd H7 t1 (HO.tup [V.int j,V.int k])) d (.dT (putK q0 (gQ (j,k)) (.int (m6:Nat))))=H8 at I_ yM s8 ⊢
   clear my IS B0 HZ s7
   have Rc:(⟨t,ls⟩:Wc)∈Ws++[(⟨t,ls⟩:Wc)]:=List.mem_append.mpr (.inr (List.mem_singleton.mpr rfl))
   have ZQ:(jw (Ws++[⟨t,ls⟩]))[j]? =some (V.ref t):=by
    unfold jw
    rw[List.map_append,List.getElem?_append_right (by rw[List.length_map];omega),List.length_map,yx,Nat.sub_self]
    rfl
   refine ⟨_,rfl,_,rfl,wl,_,_,_,rfl,rfl,aJ.of yM.wd,aQ ZQ,?_⟩
   refine ⟨.inl ⟨rfl,_,aJ.of (yM.wc _ Rc)⟩,?_⟩
   refine ⟨_,rfl,_,rfl,_,rfl,_,rfl,by show 2<=sizeLine;decide,fun t2 HG=>?_⟩
   have gW:=ah.upd (o:=HO.tup [V.int j,V.int k]) HG
   have ev:cC (putK q0 (gQ (j,k)) (.int (m6:Nat))) (gQ (j,k))=some (.int (m6:Nat)):=by rw[jS,if_pos rfl]
   refine ⟨d,_,rfl,by rw[<-ev];exact df.t (k:=gQ (j,k)) (gW _ _ I_) ae,by show 2<=sizeLine;decide,fun p np=>?_⟩
   have Rf:=(yM.same gW).push (x:=l) (n:=m6) np
   have yQ:=gW.trans (ah.upd (o:=HO.lst [V.str (S [l]),V.int (m6:Nat)]) np)
   refine ⟨t,di ls,_,rfl,rfl,yQ _ _ (yM.wc _ Rc),by rw[eN,yX];omega,?_⟩
   rw[show di ls++[V.ref p]=di (ls++[⟨p,l,m6⟩]) from AY ls ⟨p,l,m6⟩]
   refine ⟨ls++[⟨p,l,m6⟩],_,m6+1,_,_,rfl,?_,Rf,by rw[Wc.G6];exact W6,?_,by omega,gr (s8.trans yQ) y8⟩
   ·rw[aj fun z=>by have:=yM.wc _ Rc;rw[show (⟨t,ls⟩:Wc).a=d from z.symm,I_]at this;cases this]
    exact yQ _ _ I_
   ·rw[List.map_append,NV,List.take_succ,hk];rfl
  ·rintro σ H6 ⟨ls,q0,m6,ZL,ZM,rfl,vB,lB,NU,NV,ZN,s6⟩
   refine ⟨Ws++[⟨t,ls⟩],q0,m6,_,_,_,_,rfl,vB,lB,by rw[A0];exact NU,?_,by omega,fun c hc=>?_,s6⟩
   ·rw[A0,A1,qV,Wc.KZ,NV,List.take_length,List.take_succ,DH];rfl
   ·rcases List.mem_append.mp hc with g | g
    ·exact Rb c g
    ·rw[List.mem_singleton.mp g];exact y8
 ·rintro σ H3 ⟨Ws,kvs,m,cv,wv,iv,lv,rfl,HR,BA,Jj,qV,HY,Rb,s3⟩
  rw[bt,List.take_length]at qV
  rw[bt]at HY
  intro pd LR
  have NW:=ah.upd (o:=HO.dK []) LR
  have W7:upd H3 pd (HO.dK []) pd=some (HO.dK []):=ae
  have tW:=NW _ _ HR
  have kM:=BA.same NW
  have s4:=s3.trans NW
  have LS:H pd=none:=ah.free s3 LR
  generalize upd H3 pd (HO.dK [])=H4 at W7 tW kM s4 ⊢
  clear NW LR HR BA s3
  refine ⟨_,rfl,?_⟩
  refine ⟨_,rfl,dr,_,1,_,rfl,rfl,aY.of (s4 _ _ d1),rfl,?_⟩
  have uc:os.length=(os.map br).length:=by rw[List.length_map]
  have Di:os.length<=4:=by have:=eS hy;have:=hg.lk.1;rw[List.length_map]at this;omega
  have own:Own (oW Ws):=qL (by rw[Jj.nm];exact List.nodup_range)
  refine ⟨ot,rfl,⟨_,aY.of (s4 _ _ d3)⟩,?_⟩
  refine rS (K:=K) (a:=ot) (xs:=kU os) (fun i acc H'=> ∃Os:List Oc,acc=h_ Os/\Os.length=i/\A3 H4 H' (oW Ws) (os.map br) Os/\ah H4 H') (by rw[lG];omega) (fun i acc H' ⟨_,_,_,_,s⟩=>aY.of (s _ _ (s4 _ _ d3))) ⟨[],rfl,rfl,⟨fun _ h=>absurd h List.not_mem_nil,fun j o l h=>by simp at h,List.nodup_nil,fun _ h=>absurd h List.not_mem_nil⟩,ah.refl _⟩ ?_ ?_
  ·rintro i x acc H5 Nx hi hx iM ⟨Os,rfl,BW,nR,s5⟩ nx
   obtain ⟨o,ho,rfl⟩:=Dp hx
   have pG:=(dO o (List.mem_of_getElem? ho)).same (s4.trans s5)
   have E6:(os.map br)[i]? =some (br o):=by rw[List.getElem?_map,ho];rfl
   obtain ⟨zU,hpn⟩:=hg.has qV E6
   have ud:=s5 _ _ tW
   refine ⟨⟨rfl,trivial⟩,eK ?_⟩
   refine ⟨_,rfl,o.o,rfl,⟨_,aY.of pG.tp⟩,?_⟩
   refine rS (K:=K) (a:=o.o) (xs:=cL o.ps) (fun k acc H'=> ∃ns:List Nat,acc=fQ ns/\Al (h7 (oW Ws)) ns ((br o).take k)/\H'=H5) (by rw[bK];have:=pG.fw;omega) (fun k acc H' ⟨_,_,_,e⟩=>by rw[e];exact aY.of pG.tp) ⟨[],rfl, .nil,rfl⟩ ?_ ?_
   ·rintro k x acc H6 YJ hk hx Bj ⟨ns,rfl,Cq,rfl⟩ Qi
    obtain ⟨p,hp,rfl⟩:=u9 hx
    have jj:=List.mem_of_getElem? hp
    have QC:=pG.pr p jj
    have NO:(br o)[k]? =some p.pair:=by unfold br;rw[List.getElem?_map,hp];rfl
    obtain ⟨n,hn⟩:=zU p.pair (List.mem_of_getElem? NO)
    refine ⟨⟨rfl,trivial⟩,eK ?_⟩
    refine ⟨_,rfl,_,rfl,d,_,rfl,by rw[<-Jj.hit n _ hn];exact df.t (k:=gQ p.pair) ud QC.tp,?_⟩
    exact Qi _ _ (by simpa using Bj) ⟨ns++[n],ym ns n,by rw[List.take_succ,NO];exact Cq.snoc hn,rfl⟩
   ·rintro acc H6 D Bj ⟨ns,rfl,Cq,rfl⟩ hD
    rw[bK,show o.ps.length=(br o).length from by unfold br;rw[List.length_map],List.take_length]at Cq
    refine nx _ _ (by simpa using iM) ⟨Os++[⟨D,ns⟩],A2 Os ⟨D,ns⟩,by rw[List.length_append,BW];rfl,?_,s5.trans (ah.upd hD)⟩
    exact nR.snoc (l:=br o) (ah.upd hD) s5 hD ae (by rw[BW];exact E6) Cq
  ·rintro acc H5 D iM ⟨Os,rfl,BW,nR,s5⟩ hD
   rw[lG]at BW
   have s6:=s5.trans (ah.upd (o:=HO.lst (h_ Os)) hD)
   have vB:=s6 _ _ tW
   have H_:=s6 _ _ W7
   have lB:=kM.same s6
   have yG:upd H5 D (HO.lst (h_ Os)) D=some (HO.lst (h_ Os)):=ae
   have wQ: ∀o∈Os,upd H5 D (HO.lst (h_ Os)) o.a=some (.lst (fQ o.ns)):=fun o ho=>(ah.upd hD) _ _ (nR.oc o ho)
   have ZR: ∀o∈Os,o.a≠D:=fun o ho z=>by have:=nR.oc o ho;rw[z,hD]at this;cases this
   have Rg:H4 D=none:=ah.free s5 hD
   have LJ:H D=none:=ah.free s4 Rg
   have w6:=Dq hg qV Jj nR (by rw[BW];exact uc)
   generalize upd H5 D (HO.lst (h_ Os))=H6 at s6 vB H_ lB yG wQ ⊢
   refine ⟨_,rfl,d,kvs,rfl,vB,H_,[(kS dQ, .ref wl),(kS dj, .ref D),(kS gq, .int kvs.length)],rfl,by show 3<=15;decide,?_⟩
   have em:iD [] [(kS dQ,V.ref wl),(kS dj,V.ref D),(kS gq,V.int kvs.length)]=tK wl D m:=by rw[Jj.kl];exact yn wl D m
   rw[em]
   have LU: ∀{a:Addr} {xs:List V},H6 a=some (.lst xs)->a≠pd:=fun e z=>by rw[z,H_]at e;cases e
   have ndl: ∀o∈Os, ∀u:HO,H4 o.a≠some u:=fun o ho u e=>by rw[nR.fr o ho]at e;cases e
   refine q pd wl D Ws Os m _ ⟨ae,by rw[aj (LU lB.wd)];exact lB.wd,by rw[aj (LU yG)];exact yG,fun c hc=>by rw[aj (LU (lB.wc c hc))];exact lB.wc c hc,fun c hc l hl=>by rw[aj (LU (lB.lc c hc l hl))];exact lB.lc c hc l hl,fun o ho=>by rw[aj (LU (wQ o ho))];exact wQ o ho,?_,?_⟩ ?_ qV w6 (by omega) (gr (s4.trans s6) LS)
   ·exact A4 kM.nd (fun a ha=>kM.live ha) Rg nR.nd (fun a ha=>by obtain ⟨o,ho,e⟩:=List.mem_map.mp ha;rw[<-e];exact nR.fr o ho) fun ha=>by obtain ⟨o,ho,e⟩:=List.mem_map.mp ha;exact ZR o ho e
   ·intro c hc l hl z
    have Hv:=kM.lc c hc l hl
    rcases List.mem_cons.mp z with e | z
    ·exact kM.nl c hc l hl (by rw[e];exact List.mem_cons_self)
    rcases List.mem_cons.mp z with e | z
    ·rw[e,Rg]at Hv;cases Hv
    rcases List.mem_append.mp z with z | z
    ·exact kM.nl c hc l hl (List.mem_cons_of_mem _ z)
    ·obtain ⟨o,ho,e⟩:=List.mem_map.mp z
     rw[<-e,nR.fr o ho]at Hv;cases Hv
   ·intro a ha
    unfold om at ha
    rcases List.mem_cons.mp ha with e | ha
    ·rw[e];exact LS
    rcases List.mem_cons.mp ha with e | ha
    ·rw[e];exact n0
    rcases List.mem_cons.mp ha with e | ha
    ·rw[e];exact LJ
    rcases List.mem_append.mp ha with ha | ha
    ·obtain ⟨c,hc,e⟩:=List.mem_map.mp ha;rw[<-e];exact Rb c hc
    ·obtain ⟨o,ho,e⟩:=List.mem_map.mp ha;rw[<-e];exact ah.free s4 (nR.fr o ho)
theorem BB:cf P w K mg base gc 2 E2 Nw ["_law_yard_here","_law_world","_law_deed"] (tN K):=by
 have nM:=pS (P:=P) (w:=w) (base:=base) T
 have dh:=i9 (P:=P) (w:=w) (base:=base) T
 refine T.Hr.fn.ok cQ (fun vs H Q E h=>yl h) (fun dw A outer s H vs Q E hr h=>?_)
 refine ⟨_,(af (ar (i:=3) cQ.nd rfl (Or.inl rfl) (ao nM (hr.mono (by decide)) rfl T.BS.mg T.BS.fn.kp T.BS.bd .nil aC (aa (pv 0) ab)))
   (af (Fz (i:=4) (j:=5) rfl cQ.nd rfl rfl (by decide) rfl rfl (aa (bV (cI hr) (pv 1) (cE [119,111,114,100,115] (by decide+kernel)) (fun _ _=>rfl)) (aa (bV (cI hr) (pv 1) (cE [111,114,100,101,114,115] (by decide+kernel)) (fun _ _=>rfl)) ab)) rfl)
   (af (bE (aH dY (au (aw K rfl) (pv 2) ag (fun _ _=>rfl)) (cE [115,119,97,112] (by decide+kernel)) (bb _)) (af (bE (PW.pt (kN (aH (vX K rfl) (au (aw K rfl) (pv 2) ag (fun _ _=>rfl)) (pv 3) (by with_unfolding_all rfl)) (ic (cZ (c_ fc fc ag (au (aw K rfl) (pv 2) ag (fun _ _=>rfl)) (aB cB (ax (aG K rfl) rfl T.z_len PySem.boot_len (aa (au (aP K rfl) (pv 5) (aS K rfl PySem.F.plainAttrs_list PySem.F.slot_list_index PySem.F.type_list_index (oX K rfl) (pv 3) (aa (au (aw K rfl) (pv 2) ag (fun _ _=>rfl)) ab)) (fun _ _=>rfl)) ab)) ag)))))) (ai (aD cX)) a_)
   (af (ar (i:=6) cQ.nd rfl (Or.inl rfl) (au (aP K rfl) (pv 5) (aS K rfl PySem.F.plainAttrs_list PySem.F.slot_list_index PySem.F.type_list_index (oX K rfl) (pv 3) (aa (au (aw K rfl) (pv 2) ag (fun _ _=>rfl)) ab)) (fun _ _=>rfl)))
   (af (ba (aS K rfl PySem.F.plainAttrs_list PySem.F.slot_list_insert PySem.F.type_list_insert fo (pv 6) (aa (au (aw K rfl) (pv 2) ag (fun _ _=>rfl)) (aa (aS K rfl PySem.F.plainAttrs_list PySem.F.slot_list_pop PySem.F.type_list_pop gj (pv 6) (aa (aB bB (au (aw K rfl) (pv 2) ag (fun _ _=>rfl)) ag) ab)) ab))))
   (ai (aD cX))))) a_)
   (af (bE (cZ (c_ fc lW ag (au (aw K rfl) (pv 2) ag (fun _ _=>rfl)) (ax (aG K rfl) rfl T.z_len PySem.boot_len (aa (pv 4) ab)))) (ai (aD cX)) a_)
   (af (ar (i:=7) cQ.nd rfl (Or.inl rfl) (au (aP K rfl) (pv 4) (au (aw K rfl) (pv 2) ag (fun _ _=>rfl)) (fun _ _=>rfl)))
   (af (bE (aH dY (au (aw K rfl) (pv 2) ag (fun _ _=>rfl)) (cE [116,117,114,110] (by decide+kernel)) (bb _)) (af (ij (aB iq (bj (rM K rfl) (pv 7) (bw ag) bG) (bj (rM K rfl) (pv 7) bG (bw ag))) (ig (pv 4) (au (aw K rfl) (pv 2) ag (fun _ _=>rfl)) set_list))
   (ai (aD cX))) a_)
   (af (bE (aH dY (au (aw K rfl) (pv 2) ag (fun _ _=>rfl)) (cE [111,117,116] (by decide+kernel)) (bb _)) (af (bE (PW.pt (kN (cZ (c_ fc fc ag (au (aw K rfl) (pv 2) ag (fun _ _=>rfl)) (aB cB (ax (aG K rfl) rfl T.z_len PySem.boot_len (aa (pv 7) ab)) ag))) (ic (aH uG (au (aP K rfl) (au (aP K rfl) (pv 7) (au (aw K rfl) (pv 2) ag (fun _ _=>rfl)) (fun _ _=>rfl)) ag (fun _ _=>rfl)) (ao dh (hr.mono (by decide)) rfl T.lx.mg T.lx.fn.kp T.lx.bd .nil aC (aa (au (aP K rfl) (au (aP K rfl) (pv 7) (aB bB (au (aw K rfl) (pv 2) ag (fun _ _=>rfl)) ag) (fun _ _=>rfl)) ag (fun _ _=>rfl)) ab)) (bb _))))) (ai (aD cX)) a_)
   (af (bI PassesOwn.never rfl (fj rfl T.z_range (aa ag ab)) (ay (i:=8) cQ.nd rfl (Or.inl rfl)) (af (ar (i:=9) cQ.nd rfl (Or.inl rfl) (au (aP K rfl) (aS K rfl PySem.F.plainAttrs_list PySem.F.slot_list_pop PySem.F.type_list_pop gj (pv 7) (aa (au (aw K rfl) (pv 2) ag (fun _ _=>rfl)) ab)) ag (fun _ _=>rfl)))
   (ai (bI PassesOwn.never rfl (cO K rfl (pv 5)) (ay (i:=6) cQ.nd rfl (Or.inl rfl)) (ai (bE (aH (qm K rfl) (pv 9) (pv 6) (by with_unfolding_all rfl)) (ai (ba (aS K rfl PySem.F.plainAttrs_list PySem.F.slot_list_remove PySem.F.type_list_remove (CT K rfl hr) (pv 6) (aa (pv 9) ab)))) a_))))))
   (ai (aD cX)))) a_)
   (af (bE (PW.pt (kN (aH (vX K rfl) (au (aw K rfl) (pv 2) ag (fun _ _=>rfl)) (aZ (gK rfl) rfl T.z_list boot_list (aa (pv 0) ab)) (by with_unfolding_all rfl)) (ic (cZ (c_ fc fc ag (au (aw K rfl) (pv 2) ag (fun _ _=>rfl)) (ax (aG K rfl) rfl T.z_len PySem.boot_len (aa (pv 7) ab))))))) (ai (aD cX)) a_)
   (af (ar (i:=6) cQ.nd rfl (Or.inl rfl) (au (aP K rfl) (pv 5) (au (aP K rfl) (cg ["_law_k","_law_name","_law_deed"] [none,none,some 2] (iB K rfl rfl T.z_enumerate (aa (pv 3) ab)) ⟨⟨rfl,rfl,by first | exact .inl rfl | exact .inr rfl⟩,trivial⟩ (fun _ _ _ _=>(cS (n:=2) K rfl rfl (aR (ay (i:=0) (by decide+kernel:List.Nodup (["_law_k","_law_name","_law_deed"]:List Str)) rfl (Or.inl rfl)) (aR (ay (i:=1) (by decide+kernel:List.Nodup (["_law_k","_law_name","_law_deed"]:List Str)) rfl (Or.inl rfl)) cA)))) (fun _ _ _ _=>(me (aH (qm K rfl) (au (aw K rfl) (pv 2) ag (fun _ _=>rfl)) (bY (aa (pv 1) (aa (ao dh (hr.mono (by decide)) rfl T.lx.mg T.lx.fn.kp T.lx.bd .nil aC (aa (pv 1) ab)) ab))) (by with_unfolding_all rfl)))) (fun _ _ _ _=>(pv 0))) ag (fun _ _=>rfl)) (fun _ _=>rfl)))
   (af (bE (cZ (c_ fc fc ag (au (aw K rfl) (pv 2) ag (fun _ _=>rfl)) (ax (aG K rfl) rfl T.z_len PySem.boot_len (aa (pv 6) ab)))) (ai (aD cX)) a_)
   (af (bI PassesOwn.never rfl (iB K rfl rfl T.z_enumerate (aa (bC (aa (au (aw K rfl) (pv 2) ag (fun _ _=>rfl)) (aa (ao dh (hr.mono (by decide)) rfl T.lx.mg T.lx.fn.kp T.lx.bd .nil aC (aa (au (aw K rfl) (pv 2) ag (fun _ _=>rfl)) ab)) ab))) ab)) (cS (n:=2) K rfl rfl (aR (ay (i:=10) cQ.nd rfl (Or.inl rfl)) (aR (ay (i:=11) cQ.nd rfl (Or.inl rfl)) cA))) (af (ba (aS K rfl PySem.F.plainAttrs_list PySem.F.slot_list_insert PySem.F.type_list_insert fo (pv 7) (aa (aB bB (au (aw K rfl) (pv 2) ag (fun _ _=>rfl)) (pv 10)) (aa (bC (aa (pv 11) (aa (bV (cI hr) (pv 1) (cE [109,97,110,121] (by decide+kernel)) (fun _ _=>rfl)) ab))) ab))))
   (af (ba (aS K rfl PySem.F.plainAttrs_list PySem.F.slot_list_insert PySem.F.type_list_insert fo (pv 6) (aa (aB bB (au (aw K rfl) (pv 2) ag (fun _ _=>rfl)) (pv 10)) (aa (bV (cI hr) (pv 1) (cE [109,97,110,121] (by decide+kernel)) (fun _ _=>rfl)) ab))))
   (ai (jT (cI hr) (pv 1) (cE [109,97,110,121] (by decide+kernel)) (aB bB (bV (cI hr) (pv 1) (cE [109,97,110,121] (by decide+kernel)) (fun _ _=>rfl)) ag) rfl)))))
   (ai (aD cX))))))))))))),?_⟩
 obtain ⟨y,d,wl,ol,a,Ws,Os,L,m,e,rfl,hy,IK,hw,hW,hg,hm,ha,bq,q⟩:=h
 have hs:(100000:Nat)<sizeLine:=by decide
 have Di:=eS hy
 have DA:=hg.ke
 have jn:=hg.iH
 have yx:(oW Ws).length=Ws.length:=qM Ws
 have Qh:Ws.length<=4:=by rw[cP,yx]at DA;exact DA
 have BW:Os.length=L.length:=by have:=hW.ln;unfold oO at this;rwa [List.length_map]at this
 have hLl:=hg.ln
 refine bc fun N1 g1=>?_
 refine ⟨_,rfl,y,rfl,by omega,fun nm l2 H1 n1 Ia nQ rf s1=>?_⟩
 refine g1 _ _ ?_
 rw[mU hy.lt]at nQ
 have el:=jZ nQ rf
 subst el
 have pT:=hw.same s1
 have GO:=ha.ts (aF.of s1)
 have gw:df H1 d (V.str (S dQ)) (some (.ref wl)):=by rw[<-pL wl ol m];exact df.k (k:=kS dQ) pT.dk
 have go:df H1 d (V.str (S dj)) (some (.ref ol)):=by rw[<-nE wl ol m];exact df.k (k:=kS dj) pT.dk
 have LV:Fr (om d wl ol Ws Os) H H1:=Fr.of s1
 refine bc fun N2 g2=>?_
 refine ⟨_,rfl,d,_,rfl,gw,_,rfl,d,_,rfl,go,_,_,rfl,?_⟩
 refine g2 _ _ ?_
 change w9 _ _ _ [some (.str (S y)),some (.ref d),some (.ref a),some (.ref nm),some (.ref wl),some (.ref ol),none,none,none,none,none,none] H1
 cases e with
 | swap b n=>
  have h:H1 a=some (.tup [.str (S AD), .str (S [b]), .int n]):=GO
  obtain ⟨hb,hn⟩:=bq
  have hj:=List.idxOf_lt_length_of_mem hb
  have Fc:(aA y).idxOf b<Os.length:=by omega
  have ho:Os[(aA y).idxOf b]? =some Os[(aA y).idxOf b]:=List.getElem?_eq_getElem Fc
  generalize Os[(aA y).idxOf b]=o at ho
  have NX:(h_ Os)[(aA y).idxOf b]? =some (V.ref o.a):=by unfold h_;rw[List.getElem?_map,ho];rfl
  have hV:=List.mem_of_getElem? ho
  have zg:=pT.oc o hV
  have eo:(oO Os)[(aA y).idxOf b]? =some o.ns:=by unfold oO;rw[List.getElem?_map,ho];rfl
  have hlen:o.ns.length=(L.getD ((aA y).idxOf b) []).length:=by
   have B3:L[(aA y).idxOf b]? =some L[(aA y).idxOf b]:=List.getElem?_eq_getElem (by omega)
   rw[aN B3]
   exact (hW.al _ _ _ eo B3).len
  refine bc fun N3 g3=>?_
  refine ⟨_,rfl,a,_,0,_,rfl,rfl,aY.of h,rfl,_,_,rfl,rfl,_,rfl,dZ (by decide) ?_⟩
  refine bc fun N4 g4=>?_
  refine ⟨_,rfl,a,_,1,_,rfl,rfl,aY.of h,rfl,_,rfl,nm,_,rfl, .inl (aJ.of Ia),rfl,nG _,_,rfl,ck (by rw[if_pos rfl,qp,decide_eq_true hb];rfl) ?_⟩
  have uc:=pT.od
  have en:(n:Int)+1=((n+1:Nat):Int):=by omega
  have K_:o.ns.length<=48:=by
   rw[hlen]
   have B3:L[(aA y).idxOf b]? =some L[(aA y).idxOf b]:=List.getElem?_eq_getElem (by omega)
   rw[aN B3]
   exact hg.G8 B3
  have Rh:n+1<o.ns.length:=by omega
  refine ⟨_,rfl,a,_,2,_,rfl,rfl,aY.of h,rfl,_,_,rfl,rfl,_,rfl,dZ (decide_eq_true (by omega)) ?_⟩
  refine ⟨_,rfl,_,rfl, .inl ⟨rfl,_,aJ.of Ia⟩,_,rfl,a,_,1,_,rfl,rfl,aY.of h,rfl,nm,aA y,b,rfl,rfl,Ia,hb,?_⟩
  refine ⟨ol,_,_,_,rfl,rfl,aJ.of uc,aQ NX,o.a,_,rfl, .inl (aJ.of zg),_,_,rfl,rfl,_,_,rfl,rfl,_,rfl,ck (by rw[fb,decide_eq_true (by omega)];rfl) ?_⟩
  refine g4 _ _ ?_
  refine bc fun N5 g5=>?_
  refine ⟨_,rfl,_,rfl, .inl ⟨rfl,_,aJ.of Ia⟩,_,rfl,a,_,1,_,rfl,rfl,aY.of h,rfl,nm,aA y,b,rfl,rfl,Ia,hb,?_⟩
  refine ⟨ol,_,_,_,rfl,rfl,aJ.of uc,aQ NX,?_⟩
  refine g5 _ _ ?_
  refine bc fun N6 g6=>?_
  refine ⟨_,rfl, .inl ⟨rfl,_,aJ.of zg⟩,_,rfl,a,_,2,_,rfl,rfl,aY.of h,rfl,?_⟩
  refine ⟨_,rfl, .inl ⟨rfl,_,aJ.of zg⟩,_,rfl,a,_,2,_,rfl,rfl,aY.of h,rfl,_,_,rfl,rfl,?_⟩
  refine ⟨o.a,_,_,n+1,V.int (o.ns[n+1]:Nat),rfl,rfl,zg,by omega,by omega,by rw[en,fb,seqIndex_of (by omega) (by omega),Int.toNat_natCast],by unfold fQ;rw[List.getElem?_map,List.getElem?_eq_getElem Rh];rfl,?_⟩
  have hle:((fQ o.ns).eraseIdx (n+1)).length=o.ns.length - 1:=by rw[List.length_eraseIdx,fb,if_pos Rh]
  refine ⟨o.a,_,n,_,rfl,rfl,ae,by rw[hle];omega,by rw[hle];omega,?_⟩
  rw[pV,Ba n o.ns Rh]
  refine g6 _ _ ?_
  have eL:(oO Os).getD ((aA y).idxOf b) []=o.ns:=aN eo
  have ma:o.a∈om d wl ol Ws Os:=List.mem_cons_of_mem _ (List.mem_cons_of_mem _ (List.mem_cons_of_mem _ (List.mem_append_right _ (List.mem_map.mpr ⟨o,hV,rfl⟩))))
  refine q Ws (Os.set ((aA y).idxOf b) ⟨o.a,iI n o.ns⟩) _ (pT.CN ho) rfl ?_ (fun x hx=> .inr ?_) (LV.upd ma)
  ·show (Os.set _ _).map Oc.ns=(oO Os).set _ (iI n ((oO Os).getD _ []))
   rw[eL,List.map_set];rfl
  ·have em:(Os.set ((aA y).idxOf b) ⟨o.a,iI n o.ns⟩).map Oc.a=Os.map Oc.a:=by rw[List.map_set];exact set_same (by rw[List.getElem?_map,ho];rfl)
   unfold om at hx ⊢
   rw[em]at hx
   exact hx
 | out c k=>
  have h:H1 a=some (.tup [.str (S G0), .int c, .int k]):=GO
  obtain ⟨Ri,x,Fd,DQ⟩:=bq
  have hc:c<Ws.length:=by rwa [cP,yx]at Ri
  have q8:Ws[c]? =some Ws[c]:=List.getElem?_eq_getElem hc
  generalize Ws[c]=w at q8
  have kD:=List.mem_of_getElem? q8
  have LW:(jw Ws)[c]? =some (V.ref w.a):=by unfold jw;rw[List.getElem?_map,q8];rfl
  have lL:(oW Ws)[c]? =some w.w:=by unfold oW;rw[List.getElem?_map,q8];rfl
  have BC:=pT.wc w kD
  have nY:=pT.wd
  have vw:w.ls.length<=12:=by
   have:=(jn _ (List.mem_map.mpr ⟨w.w,List.mem_of_getElem? lL,rfl⟩)).2
   rwa [List.length_map,Wc.qP]at this
  rw[cT (by rw[yx];exact hc),aN lL]at Fd DQ
  have Dm:k+1<w.ls.length:=by have:=(List.getElem?_eq_some_iff.mp DQ).1;rwa [List.length_map,Wc.qP]at this
  have qF:w.ls[k]? =some (w.ls[k]'(by omega)):=List.getElem?_eq_getElem (by omega)
  have HQ:w.ls[k+1]? =some w.ls[k+1]:=List.getElem?_eq_getElem Dm
  generalize (w.ls[k]'(by omega))=l0 at qF
  generalize w.ls[k+1]=l1 at HQ
  have e0:l0.x=x:=by unfold Wc.w at Fd;rw[List.map_map,List.getElem?_map,qF]at Fd;exact Option.some.inj Fd
  have e1:l1.x=aX x:=by unfold Wc.w at DQ;rw[List.map_map,List.getElem?_map,HQ]at DQ;exact Option.some.inj DQ
  have y6:Lt x:=hy.lt x ((jn _ (List.mem_map.mpr ⟨w.w,List.mem_of_getElem? lL,rfl⟩)).1 x (List.mem_of_getElem? Fd))
  have PB:Lt (aX x):=hy.lt _ ((jn _ (List.mem_map.mpr ⟨w.w,List.mem_of_getElem? lL,rfl⟩)).1 _ (List.mem_of_getElem? DQ))
  have v0:(di w.ls)[k]? =some (V.ref l0.a):=by unfold di;rw[List.getElem?_map,qF];rfl
  have v1:(di w.ls)[k+1]? =some (V.ref l1.a):=by unfold di;rw[List.getElem?_map,HQ];rfl
  have a0:=pT.lc w kD l0 (List.mem_of_getElem? qF)
  have a1:=pT.lc w kD l1 (List.mem_of_getElem? HQ)
  have ek:(k:Int)+1=((k+1:Nat):Int):=by omega
  refine bc fun N7 g7=>?_
  refine ⟨_,rfl,a,_,0,_,rfl,rfl,aY.of h,rfl,_,_,rfl,rfl,_,rfl,ck (by decide) ?_⟩
  refine g7 _ _ ?_
  refine bc fun N8 g8=>?_
  refine ⟨_,rfl,a,_,1,_,rfl,rfl,aY.of h,rfl,_,_,rfl,rfl,_,rfl,dZ (decide_eq_true (by omega)) ⟨_,rfl,wl,_,rfl, .inl (aJ.of nY),_,_,rfl,rfl,_,rfl,ck (by rw[fT,decide_eq_true (by omega)];rfl) ?_⟩⟩
  refine g8 _ _ ?_
  refine bc fun N9 g9=>?_
  refine ⟨_,rfl,_,rfl,a,_,1,_,rfl,rfl,aY.of h,rfl,wl,_,_,_,rfl,rfl,aJ.of nY,aQ LW,?_⟩
  refine g9 _ _ ?_
  change w9 _ _ _ [some (.str (S y)),some (.ref d),some (.ref a),some (.ref nm),some (.ref wl),some (.ref ol),none,some (.ref w.a),none,none,none,none] H1
  refine bc fun N10 ZU=>?_
  refine ⟨_,rfl,a,_,0,_,rfl,rfl,aY.of h,rfl,_,_,rfl,rfl,_,rfl,ck (by decide) ?_⟩
  refine ZU _ _ ?_
  refine bc fun N11 g11=>?_
  refine ⟨_,rfl,a,_,0,_,rfl,rfl,aY.of h,rfl,_,_,rfl,rfl,_,rfl,dZ (by decide) ?_⟩
  refine bc fun N12 ZV=>?_
  refine ⟨_,rfl,a,_,2,_,rfl,rfl,aY.of h,rfl,_,_,rfl,rfl,_,rfl,dZ (decide_eq_true (by omega)) ⟨_,rfl,w.a,_,rfl, .inl (aJ.of BC),_,_,rfl,rfl,_,_,rfl,rfl,_,rfl,ck (by rw[eN,decide_eq_true (by omega)];rfl) ?_⟩⟩
  refine ⟨_,rfl,_,rfl,a,_,2,_,rfl,rfl,aY.of h,rfl,w.a,_,_,_,rfl,rfl,aJ.of BC,aQ v0,l0.a,_,0,_,rfl,rfl,aJ.of a0,rfl,?_⟩
  refine ⟨_,rfl,_,rfl,a,_,2,_,rfl,rfl,aY.of h,rfl,_,_,rfl,rfl,w.a,_,_,_,rfl,rfl,aJ.of BC,by rw[ek];exact aQ v1,l1.a,_,0,_,rfl,rfl,aJ.of a1,rfl,?_⟩
  refine ⟨l1.x,rfl,by rw[e1];exact PB,[l0.x],[aX l1.x],rfl,rfl,_,rfl,ck (by rw[e0,e1,bA y6];simp) ?_⟩
  refine ZV _ _ ?_
  refine bc fun N13 ZW=>?_
  refine ⟨_,rfl,by decide,by decide,?_⟩
  have mw:w.a∈om d wl ol Ws Os:=List.mem_cons_of_mem _ (List.mem_cons_of_mem _ (List.mem_cons_of_mem _ (List.mem_append_left _ (List.mem_map.mpr ⟨w,kD,rfl⟩))))
  have mo: ∀o∈Os,o.a∈om d wl ol Ws Os:=fun o ho=>List.mem_cons_of_mem _ (List.mem_cons_of_mem _ (List.mem_cons_of_mem _ (List.mem_append_right _ (List.mem_map.mpr ⟨o,ho,rfl⟩))))
  have NY: ∀ls,(Ws.set c ⟨w.a,ls⟩).map Wc.a=Ws.map Wc.a:=fun ls=>by rw[List.map_set];exact set_same (by rw[List.getElem?_map,q8];rfl)
  have eqB: ∀ls P,vn wl ol (Ws.set c ⟨w.a,ls⟩) (oF P Os)=vn wl ol Ws Os:=fun ls P=>by unfold vn;rw[NY,K3]
  refine gh (fun i σ H'=> ∃(ov tv nv:Option V),σ=[some (.str (S y)),some (.ref d),some (.ref a),some (.ref nm),some (.ref wl),some (.ref ol),ov,some (.ref w.a),tv,nv,none,none]/\dX H' d wl ol (Ws.set c ⟨w.a,w.ls.take k++w.ls.drop (k+i)⟩) (oF (cw w.ls k i) Os) m/\Fr (om d wl ol Ws Os) H H'/\aF H1 H')
   ⟨none,none,none,rfl,by rw[nH,Du,Nat.add_zero,List.take_append_drop,set_same q8];exact pT,LV,aF.of (ah.refl _)⟩ ?_ ?_
  ·rintro i σ H2 hi ⟨ov,tv,nv,rfl,rf,Fg,NZ⟩
   have Dg:i<2:=by omega
   have N0:w.ls[k+i]? =some (w.ls[k+i]'(by omega)):=List.getElem?_eq_getElem (by omega)
   generalize (w.ls[k+i]'(by omega))=l at N0
   have hlm:=List.mem_of_getElem? N0
   obtain ⟨Rj,W8⟩:=Dv N0
   have zh:(Ws.set c ⟨w.a,w.ls.take k++w.ls.drop (k+i)⟩)[c]? =some ⟨w.a,w.ls.take k++w.ls.drop (k+i)⟩:=List.getElem?_set_self hc
   have DV:=rf.wc _ (List.mem_of_getElem? zh)
   have h2:=NZ _ _ h
   have LX:=rf.lc _ (List.mem_of_getElem? zh) l (List.mem_of_getElem? Rj)
   have ZX:l.a∉vn wl ol (Ws.set c ⟨w.a,w.ls.take k++w.ls.drop (k+i)⟩) (oF (cw w.ls k i) Os):=rf.nl _ (List.mem_of_getElem? zh) l (List.mem_of_getElem? Rj)
   have Qp:(di (w.ls.take k++w.ls.drop (k+i)))[k]? =some (V.ref l.a):=by unfold di;rw[List.getElem?_map,Rj];rfl
   have hlen:(di (w.ls.take k++w.ls.drop (k+i))).length=w.ls.length - i:=by rw[eN,List.length_append,List.length_take,List.length_drop];omega
   refine bc fun N14 ZY=>?_
   refine ⟨_,rfl, .inl ⟨rfl,_,aJ.of DV⟩,_,rfl,a,_,2,_,rfl,rfl,aY.of h2,rfl,?_⟩
   refine ⟨w.a,_,_,k,V.ref l.a,rfl,rfl,DV,by omega,by omega,by rw[hlen,seqIndex_of (by omega) (by omega),Int.toNat_natCast],Qp,?_⟩
   have ee:(di (w.ls.take k++w.ls.drop (k+i))).eraseIdx k=di (w.ls.take k++w.ls.drop (k+(i+1))):=by
    unfold di
    rw[iV,W8]
   rw[ee]
   have sub: ∀x∈w.ls.take k++w.ls.drop (k+(i+1)),x∈w.ls.take k++w.ls.drop (k+i):=fun x hx=>by
    rw[<-W8]at hx
    exact List.mem_of_mem_eraseIdx hx
   have vH:=rf.K1 (ls:=w.ls.take k++w.ls.drop (k+(i+1))) zh fun x hx=>⟨rf.lc _ (List.mem_of_getElem? zh) x (sub x hx),rf.nl _ (List.mem_of_getElem? zh) x (sub x hx)⟩
   rw[set_set]at vH
   have yR:=Fg.upd (o:=HO.lst (di (w.ls.take k++w.ls.drop (k+(i+1))))) mw
   have W9:=NZ.trans (aF.hR (o:=HO.lst (di (w.ls.take k++w.ls.drop (k+(i+1))))) DV)
   have LY:upd H2 w.a (HO.lst (di (w.ls.take k++w.ls.drop (k+(i+1))))) l.a=some (.lst [.str (S [l.x]), .int l.n]):=by
    rw[aj fun z=>ZX (by rw[eqB,z];exact List.mem_cons_of_mem _ (List.mem_cons_of_mem _ (List.mem_append_left _ (List.mem_map.mpr ⟨w,kD,rfl⟩))))]
    exact LX
   generalize upd H2 w.a (HO.lst (di (w.ls.take k++w.ls.drop (k+(i+1)))))=H3 at vH yR W9 LY ⊢
   clear rf Fg NZ DV h2 LX
   refine ⟨l.a,_,1,_,rfl,rfl,aJ.of LY,rfl,?_⟩
   refine ZY _ _ ?_
   have LZ:=vH.od
   rw[Ha]at LZ
   refine ⟨_,rfl,ol,rfl,⟨_,aJ.of LZ⟩,?_⟩
   refine il (K:=K) (a:=ol) (xs:=h_ Os) (fun j σ H'=> ∃ov:Option V,σ=[some (.str (S y)),some (.ref d),some (.ref a),some (.ref nm),some (.ref wl),some (.ref ol),ov,some (.ref w.a),some (.int (0+i)),some (.int l.n),none,none]/\dX H' d wl ol (Ws.set c ⟨w.a,w.ls.take k++w.ls.drop (k+(i+1))⟩) ((oF (cw w.ls k (i+1)) Os).take j++(oF (cw w.ls k i) Os).drop j) m/\Fr (om d wl ol Ws Os) H H'/\aF H1 H')
    ⟨ov,rfl,vH,yR,W9⟩ (fun j σ H' _ ⟨_,_,h,_,_⟩=>aJ.of (by have:=h.od;rwa [K4]at this)) ?_ ?_
   ·rintro j x σ H4 hx ⟨ZZ,rfl,zi,Ib,N_⟩
    obtain ⟨o,ho,rfl⟩:=A9 hx
    have hjO:j<Os.length:=(List.getElem?_eq_some_iff.mp ho).1
    have hV:=List.mem_of_getElem? ho
    have LN:=Hb (a:=oF (cw w.ls k (i+1)) Os) (j:=j) (by rw[qQ];omega) (EB (P:=cw w.ls k i) ho)
    have zg:=zi.oc _ (List.mem_of_getElem? LN)
    have Rk:(o.ns.filter (cw w.ls k i)).Nodup:=(hW.on o.ns (by unfold oO;exact List.mem_map.mpr ⟨o,hV,rfl⟩)).filter _
    have ef:o.ns.filter (cw w.ls k (i+1))=(o.ns.filter (cw w.ls k i)).filter fun n=>decide (n≠l.n):=by
     rw[List.filter_filter]
     congr 1
     funext n
     rw[jx N0,Bool.and_comm]
    have yI:=oq (a:=oF (cw w.ls k (i+1)) Os) (b:=oF (cw w.ls k i) Os) (by rw[qQ];omega) (EB (P:=cw w.ls k (i+1)) ho)
    refine ⟨_,rfl,_,rfl,o.a,_,rfl, .inl (aJ.of zg),rfl,A_ _,_,rfl,?_⟩
    rw[Ds]
    refine dH (fun z=>?_) (fun z=>?_)
    ·have zm:l.n∈o.ns.filter (cw w.ls k i):=of_decide_eq_true z
     obtain ⟨r,r1,r2,r3⟩:=Be zm Rk
     refine ⟨_,rfl, .inl ⟨rfl,_,aJ.of zg⟩,_,rfl,?_⟩
     refine ⟨o.a,_,_,ids (o.ns.filter (cw w.ls k i)), .int l.n,r,rfl,rfl,zg,kz _, .int _,⟨lay_ints _,rfl⟩,by show 0<=60;decide,⟨.int l.n,by unfold ids;rw[List.getElem?_map,r1];rfl,?_⟩,fun m' e' Z0 Z1=>?_,?_⟩
     ·exact qR l.n
     ·obtain ⟨n',g1,g2⟩:=G_ Z1
      rw[g2]
      exact vo (r2 m' n' Z0 g1)
     ·have er:(fQ (o.ns.filter (cw w.ls k i))).eraseIdx r=fQ (o.ns.filter (cw w.ls k (i+1))):=by
       rw[ef, <-r3]
       unfold fQ
       rw[iV]
      rw[er]
      refine ⟨_,rfl,?_,Ib.upd (mo o hV),N_.trans (aF.hR zg)⟩
      rw[<-yI]
      exact zi.CN (o:=⟨o.a,o.ns.filter (cw w.ls k i)⟩) LN
    ·have zm:l.n∉o.ns.filter (cw w.ls k i):=fun g=>z (decide_eq_true g)
     rw[yr zm]at ef
     refine ⟨_,rfl,?_,Ib,N_⟩
     rw[<-yI,ef,set_same LN]
     exact zi
   ·rintro σ H4 ⟨ZZ,rfl,zi,Ib,N_⟩
    refine ⟨_,_,_,rfl,?_,Ib,N_⟩
    have t1:(oF (cw w.ls k (i+1)) Os).take Os.length=oF (cw w.ls k (i+1)) Os:=List.take_of_length_le (by rw[qQ];exact Nat.le_refl _)
    have t2:(oF (cw w.ls k i) Os).drop Os.length=[]:=List.drop_of_length_le (by rw[qQ];exact Nat.le_refl _)
    rw[qO,t1,t2,List.append_nil]at zi
    exact zi
  ·rintro σ H2 ⟨ov,tv,nv,rfl,rf,Fg,NZ⟩
   refine ZW _ _ ?_
   refine q _ _ H2 rf ?_ ?_ (fun x hx=> .inr ?_) Fg
   ·show (Ws.set c _).map Wc.w=(oW Ws).set c (((oW Ws).getD c []).take k++((oW Ws).getD c []).drop (k+2))
    rw[aN lL,List.map_set]
    show (Ws.map Wc.w).set c ((w.ls.take k++w.ls.drop (k+2)).map Lc.pr)=_
    rw[List.map_append,List.map_drop,List.map_take]
    rfl
   ·show (oF (cw w.ls k 2) Os).map Oc.ns=(oO Os).map _
    unfold oF oO
    rw[List.map_map,List.map_map,aN lL]
    refine List.map_congr_left fun o _=>?_
    show o.ns.filter (cw w.ls k 2)=o.ns.filter _
    congr 1
    funext n
    have g0:w.w.getD k (0,0)=(l0.x,l0.n):=aN (by unfold Wc.w;rw[List.getElem?_map,qF];rfl)
    have g1:w.w.getD (k+1) (0,0)=(l1.x,l1.n):=aN (by unfold Wc.w;rw[List.getElem?_map,HQ];rfl)
    rw[jx (l:=l1) HQ,jx (l:=l0) (by simpa using qF),nH,g0,g1,Bool.true_and]
   ·unfold om at hx ⊢
    rw[NY,K3]at hx
    exact hx
 | turn c=>
  have h:H1 a=some (.tup [.str (S AE), .int c]):=GO
  have hc:c<Ws.length:=by have:c<(lets (oW Ws)).length:=bq;rwa [cP,yx]at this
  have q8:Ws[c]? =some Ws[c]:=List.getElem?_eq_getElem hc
  generalize Ws[c]=w at q8
  have kD:=List.mem_of_getElem? q8
  have LW:(jw Ws)[c]? =some (V.ref w.a):=by unfold jw;rw[List.getElem?_map,q8];rfl
  have lL:(oW Ws)[c]? =some w.w:=by unfold oW;rw[List.getElem?_map,q8];rfl
  have BC:=pT.wc w kD
  have nY:=pT.wd
  refine bc fun N15 Z2=>?_
  refine ⟨_,rfl,a,_,0,_,rfl,rfl,aY.of h,rfl,_,_,rfl,rfl,_,rfl,ck (by decide) ?_⟩
  refine Z2 _ _ ?_
  refine bc fun N16 Z3=>?_
  refine ⟨_,rfl,a,_,1,_,rfl,rfl,aY.of h,rfl,_,_,rfl,rfl,_,rfl,dZ (decide_eq_true (by omega)) ⟨_,rfl,wl,_,rfl, .inl (aJ.of nY),_,_,rfl,rfl,_,rfl,ck (by rw[fT,decide_eq_true (by omega)];rfl) ?_⟩⟩
  refine Z3 _ _ ?_
  refine bc fun N17 Z4=>?_
  refine ⟨_,rfl,_,rfl,a,_,1,_,rfl,rfl,aY.of h,rfl,wl,_,_,_,rfl,rfl,aJ.of nY,aQ LW,?_⟩
  refine Z4 _ _ ?_
  change w9 _ _ _ [some (.str (S y)),some (.ref d),some (.ref a),some (.ref nm),some (.ref wl),some (.ref ol),none,some (.ref w.a),none,none,none,none] H1
  refine bc fun N18 g18=>?_
  refine ⟨_,rfl,a,_,0,_,rfl,rfl,aY.of h,rfl,_,_,rfl,rfl,_,rfl,dZ (by decide) ?_⟩
  refine bc fun N19 Z5=>?_
  refine ⟨_,rfl,_,rfl,w.a,_,rfl,aJ.of BC,fun p1 Rl=>?_⟩
  rw[Bd,Bb]
  have t1:=ah.upd (o:=HO.lst (di (w.ls.drop 1))) Rl
  have gb:upd H1 p1 (HO.lst (di (w.ls.drop 1))) p1=some (HO.lst (di (w.ls.drop 1))):=ae
  generalize upd H1 p1 (HO.lst (di (w.ls.drop 1)))=H2 at t1 gb ⊢
  refine ⟨_,rfl,_,rfl,w.a,_,rfl,aJ.of (t1 _ _ BC),fun p2 y9=>?_⟩
  rw[yq,Bc]
  have t2:=ah.upd (o:=HO.lst (di (w.ls.take 1))) y9
  have o3:upd H2 p2 (HO.lst (di (w.ls.take 1))) p2=some (HO.lst (di (w.ls.take 1))):=ae
  have DF:=t2 _ _ gb
  have Oa:=t1.trans t2
  generalize upd H2 p2 (HO.lst (di (w.ls.take 1)))=H3 at Oa DF o3 ⊢
  clear t1 t2 gb
  have vw:w.ls.length<=12:=by
   have:=(jn _ (List.mem_map.mpr ⟨w.w,List.mem_of_getElem? lL,rfl⟩)).2
   rwa [List.length_map,Wc.qP]at this
  refine ⟨p1,p2,_,_,rfl,rfl,DF,o3,by rw[eN,eN,List.length_drop,List.length_take];omega,fun p3 Rm=>?_⟩
  rw[Dt]
  have vH:=pT.same Oa
  have h3:=vH.Qg (ls:=w.ls.drop 1++w.ls.take 1) q8 Rm fun l hl=>by
   have:l∈w.ls:=(List.mem_append.mp hl).elim List.mem_of_mem_drop List.mem_of_mem_take
   exact ⟨vH.lc w kD l this,vH.nl w kD l this⟩
  have t3:=Oa.trans (ah.upd (o:=HO.lst (di (w.ls.drop 1++w.ls.take 1))) Rm)
  refine ⟨_,rfl,_,rfl,a,_,1,_,rfl,rfl,aY.of (t3 _ _ h),rfl,wl,_,_,c,rfl,rfl,t3 _ _ nY,by rw[fT];exact iU hc,?_⟩
  rw[show (jw Ws).set c (V.ref p3)=jw (Ws.set c ⟨p3,w.ls.drop 1++w.ls.take 1⟩) from by unfold jw;rw[List.map_set]]
  refine Z5 _ _ ?_
  refine q _ Os _ h3 ?_ rfl (fun x hx=>?_) ((LV.after t3).upd (List.mem_cons_of_mem _ List.mem_cons_self))
  ·show (Ws.set c _).map Wc.w=(oW Ws).set c (((oW Ws).getD c []).drop 1++((oW Ws).getD c []).take 1)
   rw[aN lL,List.map_set]
   show (Ws.map Wc.w).set c ((w.ls.drop 1++w.ls.take 1).map Lc.pr)=_
   rw[List.map_append,List.map_drop,List.map_take]
   rfl
  ·unfold om at hx ⊢
   rcases List.mem_cons.mp hx with z | z
   ·exact .inr (by rw[z];exact List.mem_cons_self)
   rcases List.mem_cons.mp z with z | z
   ·exact .inr (by rw[z];exact List.mem_cons_of_mem _ List.mem_cons_self)
   rcases List.mem_cons.mp z with z | z
   ·exact .inr (by rw[z];exact List.mem_cons_of_mem _ (List.mem_cons_of_mem _ List.mem_cons_self))
   rcases List.mem_append.mp z with z | z
   ·rw[List.map_set]at z
    rcases List.mem_or_eq_of_mem_set z with z | z
    ·exact .inr (List.mem_cons_of_mem _ (List.mem_cons_of_mem _ (List.mem_cons_of_mem _ (List.mem_append_left _ z))))
    ·exact .inl (by rw[z];exact ah.free (s1.trans Oa) Rm)
   ·exact .inr (List.mem_cons_of_mem _ (List.mem_cons_of_mem _ (List.mem_cons_of_mem _ (List.mem_append_right _ z))))
 | ins c k x n=>
  have h:H1 a=some (.tup [.str (S P_), .int c, .int k, .str (S [x]), .int n]):=GO
  obtain ⟨Ri,NR,Rn,y0,Z6⟩:=bq
  have hc:c<Ws.length:=by rwa [cP,yx]at Ri
  have q8:Ws[c]? =some Ws[c]:=List.getElem?_eq_getElem hc
  generalize Ws[c]=w at q8
  have kD:=List.mem_of_getElem? q8
  have LW:(jw Ws)[c]? =some (V.ref w.a):=by unfold jw;rw[List.getElem?_map,q8];rfl
  have lL:(oW Ws)[c]? =some w.w:=by unfold oW;rw[List.getElem?_map,q8];rfl
  have BC:=pT.wc w kD
  have nY:=pT.wd
  rw[cT (by rw[yx];exact hc),aN lL,List.length_map,Wc.qP]at NR Rn
  have y6:Lt x:=hy.lt x y0
  have Ek:=wq hy y0
  have W_:(aA y).idxOf (PyProof.Rows.lo1 x)<(aA y).length:=List.idxOf_lt_length_of_mem Ek
  have Dh:=wD hy
  have Fc:(aA y).idxOf (PyProof.Rows.lo1 x)<Os.length:=by omega
  have ho:Os[(aA y).idxOf (PyProof.Rows.lo1 x)]? =some Os[(aA y).idxOf (PyProof.Rows.lo1 x)]:=List.getElem?_eq_getElem Fc
  generalize Os[(aA y).idxOf (PyProof.Rows.lo1 x)]=o at ho
  have NX:(h_ Os)[(aA y).idxOf (PyProof.Rows.lo1 x)]? =some (V.ref o.a):=by unfold h_;rw[List.getElem?_map,ho];rfl
  have hV:=List.mem_of_getElem? ho
  have eo:(oO Os)[(aA y).idxOf (PyProof.Rows.lo1 x)]? =some o.ns:=by unfold oO;rw[List.getElem?_map,ho];rfl
  have B3:L[(aA y).idxOf (PyProof.Rows.lo1 x)]? =some L[(aA y).idxOf (PyProof.Rows.lo1 x)]:=List.getElem?_eq_getElem (by omega)
  have hlen:o.ns.length=(L.getD ((aA y).idxOf (PyProof.Rows.lo1 x)) []).length:=by
   rw[aN B3]
   exact (hW.al _ _ _ eo B3).len
  have K_:o.ns.length<=48:=by rw[hlen,aN B3];exact hg.G8 B3
  have hn:n<=o.ns.length:=by rw[hlen];exact Z6
  refine bc fun N20 Z7=>?_
  refine ⟨_,rfl,a,_,0,_,rfl,rfl,aY.of h,rfl,_,_,rfl,rfl,_,rfl,ck (by decide) ?_⟩
  refine Z7 _ _ ?_
  refine bc fun N21 Z8=>?_
  refine ⟨_,rfl,a,_,1,_,rfl,rfl,aY.of h,rfl,_,_,rfl,rfl,_,rfl,dZ (decide_eq_true (by omega)) ⟨_,rfl,wl,_,rfl, .inl (aJ.of nY),_,_,rfl,rfl,_,rfl,ck (by rw[fT,decide_eq_true (by omega)];rfl) ?_⟩⟩
  refine Z8 _ _ ?_
  refine bc fun N22 Z9=>?_
  refine ⟨_,rfl,_,rfl,a,_,1,_,rfl,rfl,aY.of h,rfl,wl,_,_,_,rfl,rfl,aJ.of nY,aQ LW,?_⟩
  refine Z9 _ _ ?_
  change w9 _ _ _ [some (.str (S y)),some (.ref d),some (.ref a),some (.ref nm),some (.ref wl),some (.ref ol),none,some (.ref w.a),none,none,none,none] H1
  refine bc fun N23 Z_=>?_
  refine ⟨_,rfl,a,_,0,_,rfl,rfl,aY.of h,rfl,_,_,rfl,rfl,_,rfl,ck (by decide) ?_⟩
  refine Z_ _ _ ?_
  refine bc fun N24 g24=>?_
  refine ⟨_,rfl,a,_,0,_,rfl,rfl,aY.of h,rfl,_,_,rfl,rfl,_,rfl,ck (by decide) ?_⟩
  refine g24 _ _ ?_
  refine bc fun N25 g25=>?_
  refine ⟨_,rfl,a,_,3,_,rfl,rfl,aY.of h,rfl,_,rfl,y,rfl,by omega,fun p1 Rl=>?_⟩
  have t1:=ah.upd (o:=HO.lst (bX y)) Rl
  refine ⟨p1,_,rfl, .inl (aJ.of ae),rfl,nG _,_,rfl,ck (by rw[if_pos rfl,qp,decide_eq_true y0];rfl) ?_⟩
  have h2:=t1 _ _ h
  have rf:=pT.same t1
  have DW:=t1 _ _ Ia
  have Fg:=LV.after t1
  have s2:=s1.trans t1
  generalize upd H1 p1 (HO.lst (bX y))=H2 at h2 rf DW Fg s2 ⊢
  clear t1 pT Ia h LV BC nY gw go GO s1
  have BC:=rf.wc w kD
  refine ⟨_,rfl,a,_,2,_,rfl,rfl,aY.of h2,rfl,_,_,rfl,rfl,_,rfl,dZ (decide_eq_true (by omega)) ⟨_,rfl,w.a,_,rfl, .inl (aJ.of BC),_,_,rfl,rfl,_,rfl,ck (by rw[eN,decide_eq_true (by omega)];rfl) ?_⟩⟩
  refine g25 _ _ ?_
  refine bc fun N26 g26=>?_
  refine ⟨_,rfl,_,rfl,nm,rfl,⟨_,aJ.of DW⟩,?_⟩
  refine uS (K:=K) (a:=nm) (xs:=bX (aA y)) (fun i acc H'=>ah H2 H'/\acc=if (aA y).idxOf (PyProof.Rows.lo1 x)<i then [V.int ((aA y).idxOf (PyProof.Rows.lo1 x):Nat)] else []) (by rw[aT];omega) (fun i acc H' h=>aJ.of (h.1 _ _ DW)) ⟨ah.refl _,by simp⟩ ?_ ?_
  ·rintro i v acc H9 T Nx hv iM ⟨s9,rfl⟩ nT nx
   obtain ⟨nb,Ic,rfl⟩:=eI hv
   have Ro:=List.mem_of_getElem? Ic
   have L0:=Az hy Ro
   have Rp:=m_ Dh Ic
   refine ⟨T,_,rfl,aY.of ae,rfl,_,_,rfl,_,_,rfl,rfl,?_⟩
   have sT:=s9.trans (ah.upd (o:=HO.tup [.int i, .str (S [nb])]) nT)
   refine ⟨⟨rfl,trivial⟩,?_⟩
   refine ⟨_,rfl,a,_,3,_,rfl,rfl,aY.of (sT _ _ h2),rfl,_,rfl,_,rfl,nb,rfl, .inl L0,by show 2<=sizeLine;decide,fun t nt=>?_⟩
   refine ⟨t,_,rfl, .inr (aY.of ae),rfl,rfl,_,rfl,?_⟩
   have Rq:=sT.trans (ah.upd (o:=HO.tup [.str (S [nb]), .str (S [aX nb])]) nt)
   generalize upd (upd H9 T (HO.tup [.int i, .str (S [nb])])) t (HO.tup [.str (S [nb]), .str (S [aX nb])])=H10 at Rq ⊢
   show if zD (.str (S [x])) [.str (S [nb]), .str (S [aX nb])]=true then _ else _
   rw[v8]
   have M3:(decide (x=nb)||decide (x=aX nb))=decide (PyProof.Rows.lo1 x=nb):=(Ay L0 y6).symm
   rw[M3]
   refine dH (fun v1=>?_) (fun v1=>?_)
   ·have e1:PyProof.Rows.lo1 x=nb:=of_decide_eq_true v1
    have Rr:(aA y).idxOf (PyProof.Rows.lo1 x)=i:=by rw[e1];exact Rp
    refine ⟨_,rfl,nx _ _ (by simpa using iM) ⟨Rq,?_⟩⟩
    rw[Rr,if_neg (Nat.lt_irrefl _),if_pos (Nat.lt_succ_self _)]
    rfl
   ·have e1: ¬PyProof.Rows.lo1 x=nb:=fun g=>v1 (decide_eq_true g)
    refine nx _ _ (Nat.le_succ_of_le iM) ⟨Rq,?_⟩
    have e2:(aA y).idxOf (PyProof.Rows.lo1 x)≠i:=fun g=>e1 (by
     have e3:=List.getElem_idxOf W_
     have e4:=(List.getElem?_eq_some_iff.mp Ic).2
     rw[<-e3, <-e4]
     congr 1)
    by_cases g:(aA y).idxOf (PyProof.Rows.lo1 x)<i
    ·rw[if_pos g,if_pos (by omega)]
    ·rw[if_neg g,if_neg (by omega)]
  ·rintro acc H9 D iM ⟨s9,rfl⟩ hD
   rw[aT,if_pos W_]
   refine ⟨D,_,_,_,rfl,rfl,aJ.of ae,aQ (j:=0) rfl,?_⟩
   have t2:=s9.trans (ah.upd (o:=HO.lst [V.int ((aA y).idxOf (PyProof.Rows.lo1 x):Nat)]) hD)
   have h3:=t2 _ _ h2
   have vH:=rf.same t2
   have yR:=Fg.after t2
   generalize upd H9 D (HO.lst [V.int ((aA y).idxOf (PyProof.Rows.lo1 x):Nat)])=H3 at h3 vH yR ⊢
   clear t2 rf Fg h2 BC s9 hD DW
   have zg:=vH.oc o hV
   refine ⟨ol,_,_,_,rfl,rfl,aJ.of vH.od,aQ NX,?_⟩
   refine g26 _ _ ?_
   refine bc fun N27 g27=>?_
   refine ⟨_,rfl,a,_,4,_,rfl,rfl,aY.of h3,rfl,_,_,rfl,rfl,_,rfl,dZ (decide_eq_true (by omega)) ⟨_,rfl,o.a,_,rfl, .inl (aJ.of zg),_,_,rfl,rfl,_,rfl,ck (by rw[fb,decide_eq_true (by omega)];rfl) ?_⟩⟩
   refine g27 _ _ ?_
   refine bc fun N28 g28=>?_
   refine ⟨_,rfl,a,_,3,_,rfl,rfl,aY.of h3,rfl,_,rfl,a,_,3,_,rfl,rfl,aY.of h3,rfl,x,rfl,y6,by show 2<=sizeLine;decide,fun pl L1=>?_⟩
   have L3:=vH.fresh L1
   have t3:=ah.upd (o:=HO.lst [V.str (S [x]),V.str (S [aX x])]) L1
   have jd:upd H3 pl (HO.lst [V.str (S [x]),V.str (S [aX x])]) pl=some (HO.lst [V.str (S [x]),V.str (S [aX x])]):=ae
   have h4:=t3 _ _ h3
   have zi:=vH.same t3
   have Ib:=yR.after t3
   generalize upd H3 pl (HO.lst [V.str (S [x]),V.str (S [aX x])])=H4 at h4 zi Ib jd ⊢
   clear t3 vH yR h3 zg L1
   have LR:pl≠d:=fun z=>by rw[z,zi.dk]at jd;cases jd
   have Xa:w.a∈vn wl ol Ws Os:=List.mem_cons_of_mem _ (List.mem_cons_of_mem _ (List.mem_append_left _ (List.mem_map.mpr ⟨w,kD,rfl⟩)))
   have Xb:o.a∈vn wl ol Ws Os:=List.mem_cons_of_mem _ (List.mem_cons_of_mem _ (List.mem_append_right _ (List.mem_map.mpr ⟨o,hV,rfl⟩)))
   have M6:pl≠w.a:=fun z=>L3 (by rw[z];exact Xa)
   have npo:pl≠o.a:=fun z=>L3 (by rw[z];exact Xb)
   have mw:w.a∈om d wl ol Ws Os:=List.mem_cons_of_mem _ Xa
   have mo:o.a∈om d wl ol Ws Os:=List.mem_cons_of_mem _ Xb
   have md:d∈om d wl ol Ws Os:=List.mem_cons_self
   have NY: ∀ls,(Ws.set c ⟨w.a,ls⟩).map Wc.a=Ws.map Wc.a:=fun ls=>by rw[List.map_set];exact set_same (by rw[List.getElem?_map,q8];rfl)
   have emO: ∀ns,(Os.set ((aA y).idxOf (PyProof.Rows.lo1 x)) ⟨o.a,ns⟩).map Oc.a=Os.map Oc.a:=fun ns=>by rw[List.map_set];exact set_same (by rw[List.getElem?_map,ho];rfl)
   refine ⟨pl,rfl,⟨_,aJ.of jd⟩,?_⟩
   refine iR (K:=K) (a:=pl) (xs:=[V.str (S [x]),V.str (S [aX x])]) (fun i σ H'=> ∃(nl:List Lc) (sv lv:Option V),σ=[some (.str (S y)),some (.ref d),some (.ref a),some (.ref nm),some (.ref wl),some (.ref ol),some (.ref o.a),some (.ref w.a),none,none,sv,lv]/\nl.map Lc.pr=[(x,m),(aX x,m+1)].take i/\
     dX H' d wl ol (Ws.set c ⟨w.a,w.ls.take k++nl++w.ls.drop k⟩) (Os.set ((aA y).idxOf (PyProof.Rows.lo1 x)) ⟨o.a,o.ns.take n++[m,m+1].take i++o.ns.drop n⟩) (m+i)/\Fr (om d wl ol Ws Os) H H'/\H' pl=some (.lst [V.str (S [x]),V.str (S [aX x])])/\aF H4 H')
    ⟨[],none,none,rfl,rfl,by rw[List.take_zero,List.append_nil,List.append_nil,List.take_append_drop,List.take_append_drop,set_same q8,set_same ho,Nat.add_zero];exact zi,Ib,jd,aF.of (ah.refl _)⟩ (fun i σ H' _ ⟨_,_,_,_,_,_,_,h,_⟩=>aJ.of h) ?_ ?_
   ·rintro i v σ H5 T hv ⟨nl,sv,lv,rfl,IM,vA,Ec,Ie,Rt⟩ nT
    have Dg:i<2:=(List.getElem?_eq_some_iff.mp hv).1
    obtain ⟨u,rfl,hu⟩: ∃u,v=V.str (S [u])/\[(x,m),(aX x,m+1)][i]? =some (u,m+i):=by
     rcases (by omega:i=0\/i=1) with z | z
     ·subst z;cases hv;exact ⟨x,rfl,rfl⟩
     ·subst z;cases hv;exact ⟨aX x,rfl,rfl⟩
    have aaa:nl.length=i:=by
     have:=congrArg List.length IM
     rw[List.length_map,List.length_take]at this
     simp at this
     omega
    have hmi:[m,m+1][i]? =some (m+i):=by
     rcases (by omega:i=0\/i=1) with z | z<;>(subst z;rfl)
    have CY:([m,m+1].take i).length=i:=by rw[List.length_take];simp;omega
    have sT:=ah.upd (o:=HO.tup [.int i, .str (S [u])]) nT
    refine ⟨T,_,rfl,aY.of ae,rfl,_,_,rfl,_,_,rfl,rfl,?_⟩
    have Fh:=vA.same sT
    have Ru:=Ec.after sT
    have Ig:=sT _ _ Ie
    have Ob:=Rt.trans (aF.of sT)
    generalize upd H5 T (HO.tup [.int i, .str (S [u])])=H6 at Fh Ru Ig Ob ⊢
    clear sT nT vA Ec Ie Rt
    have zh:(Ws.set c ⟨w.a,w.ls.take k++nl++w.ls.drop k⟩)[c]? =some ⟨w.a,w.ls.take k++nl++w.ls.drop k⟩:=List.getElem?_set_self hc
    have L4:=Fh.wc _ (List.mem_of_getElem? zh)
    have h6:=Ob _ _ h4
    have gm: ∀{H':Hp} {m':Nat},H' d=some (HO.dK (tK wl ol m'))->df H' d (V.str (S gq)) (some (.int (m':Nat))):=fun {H' m'} e=>by rw[<-tQ wl ol m'];exact df.k (k:=kS gq) e
    have IW:(w.ls.take k).length+nl.length=k+i:=by rw[List.length_take];omega
    have yX:(di (w.ls.take k++nl++w.ls.drop k)).length=w.ls.length+i:=by rw[eN,List.length_append,List.length_append,List.length_take,List.length_drop];omega
    refine bc fun N29 g29=>?_
    refine ⟨_,rfl, .inl ⟨rfl,_,aJ.of L4⟩,_,rfl,a,_,2,_,rfl,rfl,aY.of h6,rfl,_,rfl,_,_,rfl,rfl,_,rfl,_,rfl,d,_,rfl,gm Fh.dk,by show 2<=sizeLine;decide,fun p np=>?_⟩
    have sp:=ah.upd (o:=HO.lst [V.str (S [u]),V.int ((m+i:Nat):Int)]) np
    have G9:=Fh.fresh np
    have Jk:=Fh.same sp
    have Rv:=Ru.after sp
    have Ih:=sp _ _ Ig
    have Rw:=Ob.trans (aF.of sp)
    have Jc:upd H6 p (HO.lst [V.str (S [u]),V.int ((m+i:Nat):Int)]) p=some (HO.lst [V.str (S [u]),V.int ((m+i:Nat):Int)]):=ae
    generalize upd H6 p (HO.lst [V.str (S [u]),V.int ((m+i:Nat):Int)])=H7 at Jk Rv Ih Rw Jc ⊢
    clear sp np Fh Ru Ig Ob L4 h6
    have Ii:=Jk.wc _ (List.mem_of_getElem? zh)
    have eki:(k:Int)+(i:Int)=((k+i:Nat):Int):=by omega
    refine ⟨w.a,_,k+i,V.ref p,rfl,by show [V.int ((k:Int)+(i:Int)),V.ref p]=_;rw[eki],Ii,by rw[yX];omega,by rw[yX];omega,?_⟩
    rw[Dw (w.ls.take k) nl (w.ls.drop k) ⟨p,u,m+i⟩ IW]
    have Jl:=Jk.K1 (ls:=w.ls.take k++(nl++[⟨p,u,m+i⟩])++w.ls.drop k) zh fun l hl=>by
     have:l∈w.ls.take k++nl++w.ls.drop k\/l=⟨p,u,m+i⟩:=by
      rcases List.mem_append.mp hl with g | g
      ·rcases List.mem_append.mp g with g | g
       ·exact .inl (List.mem_append_left _ (List.mem_append_left _ g))
       ·rcases List.mem_append.mp g with g | g
        ·exact .inl (List.mem_append_left _ (List.mem_append_right _ g))
        ·exact .inr (List.mem_singleton.mp g)
      ·exact .inl (List.mem_append_right _ g)
     rcases this with g | g
     ·exact ⟨Jk.lc _ (List.mem_of_getElem? zh) l g,Jk.nl _ (List.mem_of_getElem? zh) l g⟩
     ·rw[g];exact ⟨Jc,G9⟩
    rw[set_set]at Jl
    have Rx:=Rv.upd (o:=HO.lst (di (w.ls.take k++(nl++[⟨p,u,m+i⟩])++w.ls.drop k))) mw
    have Ij:upd H7 w.a (HO.lst (di (w.ls.take k++(nl++[⟨p,u,m+i⟩])++w.ls.drop k))) pl=_:=(aj M6).trans Ih
    have Oe:=Rw.trans (aF.hR (o:=HO.lst (di (w.ls.take k++(nl++[⟨p,u,m+i⟩])++w.ls.drop k))) Ii)
    generalize upd H7 w.a (HO.lst (di (w.ls.take k++(nl++[⟨p,u,m+i⟩])++w.ls.drop k)))=H8 at Jl Rx Ij Oe ⊢
    refine g29 _ _ ?_
    clear Jk Rv Ih Rw Ii Jc G9
    have h8:=Oe _ _ h4
    have Xc:(Os.set ((aA y).idxOf (PyProof.Rows.lo1 x)) ⟨o.a,o.ns.take n++[m,m+1].take i++o.ns.drop n⟩)[(aA y).idxOf (PyProof.Rows.lo1 x)]? =some ⟨o.a,o.ns.take n++[m,m+1].take i++o.ns.drop n⟩:=List.getElem?_set_self Fc
    have DZ:=Jl.oc _ (List.mem_of_getElem? Xc)
    have Ry:(o.ns.take n).length+([m,m+1].take i).length=n+i:=by rw[List.length_take,CY];omega
    have L5:(fQ (o.ns.take n++[m,m+1].take i++o.ns.drop n)).length=o.ns.length+i:=by rw[fb,List.length_append,List.length_append,CY,List.length_take,List.length_drop];omega
    have eni:(n:Int)+(i:Int)=((n+i:Nat):Int):=by omega
    refine bc fun N30 g30=>?_
    refine ⟨_,rfl, .inl ⟨rfl,_,aJ.of DZ⟩,_,rfl,a,_,4,_,rfl,rfl,aY.of h8,rfl,_,rfl,_,_,rfl,rfl,_,rfl,d,_,rfl,gm Jl.dk,?_⟩
    refine ⟨o.a,_,n+i,V.int ((m+i:Nat):Int),rfl,by show [V.int ((n:Int)+(i:Int)),V.int ((m+i:Nat):Int)]=_;rw[eni],DZ,by rw[L5];omega,by rw[L5];omega,?_⟩
    rw[Dx (o.ns.take n) ([m,m+1].take i) (o.ns.drop n) (m+i) Ry]
    have KW:[m,m+1].take i++[m+i]=[m,m+1].take (i+1):=by rw[List.take_succ,hmi];rfl
    rw[KW]
    have Ik:=Jl.CN (ns:=o.ns.take n++[m,m+1].take (i+1)++o.ns.drop n) Xc
    rw[set_set]at Ik
    have Xd:=Rx.upd (o:=HO.lst (fQ (o.ns.take n++[m,m+1].take (i+1)++o.ns.drop n))) mo
    have L6:upd H8 o.a (HO.lst (fQ (o.ns.take n++[m,m+1].take (i+1)++o.ns.drop n))) pl=_:=(aj npo).trans Ij
    have Xe:=Oe.trans (aF.hR (o:=HO.lst (fQ (o.ns.take n++[m,m+1].take (i+1)++o.ns.drop n))) DZ)
    change dX (upd H8 o.a (HO.lst (fQ (o.ns.take n++[m,m+1].take (i+1)++o.ns.drop n)))) _ _ _ _ _ _ at Ik
    generalize upd H8 o.a (HO.lst (fQ (o.ns.take n++[m,m+1].take (i+1)++o.ns.drop n)))=H9 at Ik Xd L6 Xe ⊢
    refine g30 _ _ ?_
    clear Jl Rx Ij Oe DZ h8
    refine ⟨_,rfl,d,_,rfl,gm Ik.dk,_,_,rfl,rfl,_,rfl,d,_,rfl,mB.k (k:=kS gq) Ik.dk (by show 3<sizeLine;omega),?_⟩
    have ev:putK (tK wl ol (m+i)) (kS gq) (V.int (((m+i:Nat):Int)+1))=tK wl ol (m+(i+1)):=by rw[show ((m+i:Nat):Int)+1=((m+(i+1):Nat):Int) from by omega,Dr]
    refine ⟨nl++[⟨p,u,m+i⟩],_,_,rfl,?_,by have:=Ik.setM (m+(i+1));rw[<-ev]at this;exact this,Xd.upd md,(aj LR).trans L6,Xe.trans (nF Ik.dk)⟩
    rw[List.map_append,IM,List.take_succ (i:=i),hu]
    rfl
   ·rintro σ H5 ⟨nl,sv,lv,rfl,IM,vA,Ec,Ie,Rt⟩
    refine g28 _ _ ?_
    refine q _ _ H5 vA ?_ ?_ (fun z hz=> .inr ?_) Ec
    ·show (Ws.set c _).map Wc.w=(oW Ws).set c (((oW Ws).getD c []).take k++(x,m)::(aX x,m+1)::((oW Ws).getD c []).drop k)
     rw[aN lL,List.map_set]
     show (Ws.map Wc.w).set c ((w.ls.take k++nl++w.ls.drop k).map Lc.pr)=_
     rw[List.map_append,List.map_append,IM,List.map_drop,List.map_take,List.append_assoc]
     rfl
    ·show (Os.set _ _).map Oc.ns=(oO Os).set _ (((oO Os).getD _ []).take n++m::(m+1)::((oO Os).getD _ []).drop n)
     rw[aN eo,List.map_set]
     show (Os.map Oc.ns).set _ (o.ns.take n++[m,m+1]++o.ns.drop n)=_
     rw[List.append_assoc]
     rfl
    ·unfold om at hz ⊢
     rw[NY,emO]at hz
     exact hz
theorem yN:cf P w K mg base gc 8 E4 Nz ["_law_yard_here","_law_one","_law_other_here"] (pO K):=by
 have BD:=DU (P:=P) (w:=w) (base:=base) T
 have yO:=vG (P:=P) (w:=w) (base:=base) T
 have D0:=BB (P:=P) (w:=w) (base:=base) T
 have D3:=Bi (P:=P) (w:=w) (base:=base) T
 have qY:=wU (P:=P) (w:=w) (base:=base) T
 refine T.yu.fn.ok i8 (fun vs H Q E h=>vq h) (fun dw A outer s H vs Q E hr h=>?_)
 refine ⟨_,(af (ar (i:=3) i8.nd rfl (Or.inl rfl) (ao BD (hr.mono (by decide)) rfl T.BR.mg T.BR.fn.kp T.BR.bd .nil aC (aa (pv 0) (aa (pv 1) (aa (pv 2) ab)))))
   (af (bE (PW.pt (kN (cZ (ib (ax (rR K rfl) rfl T.z_isinstance boot_isinstance (aa (pv 3) (aa (vM (v:= .ty "list") rfl T.z_list boot_list rfl) ab))))) (ic (cZ (ib (ax (oT K rfl rfl) rfl T.z_all boot_all (aa (cg ["_law_deed"] [none] (cO K rfl (pv 3)) trivial (fun _ _ _ _=>(ay (i:=0) (by decide+kernel:List.Nodup (["_law_deed"]:List Str)) rfl (Or.inl rfl))) (fun _ _ _ _=>fD) (fun _ _ _ _=>(ax (sf K rfl) rfl T.z_isinstance boot_isinstance (aa (pv 0) (aa (vM (v:= .ty "tuple") rfl T.z_tuple boot_tuple rfl) ab))))) ab))))))) (ai (aD cX)) a_)
   (af (ar (i:=4) i8.nd rfl (Or.inl rfl) (ao yO (hr.mono (by decide)) rfl T.Ho.mg T.Ho.fn.kp T.Ho.bd .nil aC (aa (pv 1) ab)))
   (af (bI PassesOwn.never rfl (cO K rfl (pv 3)) (ay (i:=5) i8.nd rfl (Or.inl rfl)) (ai (bE (cZ (ib (ao D0 (hr.mono (by decide)) rfl T.Hr.mg T.Hr.fn.kp T.Hr.bd .nil aC (aa (pv 0) (aa (pv 4) (aa (pv 5) ab)))))) (ai (aD cX)) a_)))
   (af (bE (PW.pt (kN (aH (uH K rfl hr) (ao D3 (hr.mono (by decide)) rfl T.Hq.mg T.Hq.fn.kp T.Hq.bd .nil aC (aa (pv 4) ab)) (pv 2) (bb _)) (ic (aH (uH K rfl hr) (ao qY (hr.mono (by decide)) rfl T.F8.mg T.F8.fn.kp T.F8.bd .nil aC (aa (pv 0) (aa (pv 1) (aa (pv 3) ab)))) (pv 2) (bb _))))) (ai (aD cX)) a_)
   (af (ba (aS K rfl PySem.F.plainAttrs_list PySem.F.slot_list_append PySem.F.type_list_append bu (pv 3) (aa (bY (aa (cE [116,117,114,110] (by decide+kernel)) (aa ag ab))) ab)))
   (ai (aD (jE (Gk K rfl hr) (ao qY (hr.mono (by decide)) rfl T.F8.mg T.F8.fn.kp T.F8.bd .nil aC (aa (pv 0) (aa (pv 1) (aa (ao BD (hr.mono (by decide)) rfl T.BR.mg T.BR.fn.kp T.BR.bd .nil aC (aa (pv 0) (aa (pv 1) (aa (pv 2) ab)))) ab)))) (pv 2) (bb _)))))))))),?_⟩
 obtain ⟨y,d,e,ws,vs',os,ps,rfl,hy,IK,hg,uF,hd,he,Bu,q⟩:=h
 have hs:(100000:Nat)<sizeLine:=by decide
 refine ⟨_,rfl,_,rfl,_,rfl,y,d,e,ws,vs',os,ps,rfl,hy,by omega,hg,uF,hd,he,fun hU=>absurd Bu hU,fun _=>?_⟩
 intro t dl H1 nt ht nN hP BZ s1
 obtain ⟨Xf,Xg⟩:=hP
 refine ⟨_,rfl,t,_,rfl,ht,_,rfl,ck rfl ?_⟩
 refine ⟨_,rfl,t,rfl,⟨_,aJ.of ht⟩,?_⟩
 refine fk (K:=K) (a:=t) (xs:=dM dl) (fun i acc H'=>ah H1 H'/\acc=(List.replicate i true).map V.bl) (by rw[bW];omega) (fun i acc H' h=>aJ.of (h.1 _ _ ht)) ⟨ah.refl _,rfl⟩ ?_ ?_
 ·rintro i x acc H2 Nx hi hx iM ⟨s2,rfl⟩ nx
  obtain ⟨x',B9,rfl⟩:=wN hx
  obtain ⟨xs,hxs⟩:=(nN x' (List.mem_of_getElem? B9)).tup
  refine ⟨trivial,eK ?_⟩
  refine ⟨_,rfl,_,rfl, .inl ⟨_,_,rfl,s2 _ _ hxs,nx _ _ (by simpa using iM) ⟨s2,Bf i⟩⟩⟩
 rintro acc H2 D iM ⟨s2,rfl⟩ nD
 have DS:=s2.trans (ah.upd (o:=HO.lst ((List.replicate (dM dl).length true).map V.bl)) nD)
 refine ⟨D,List.replicate (dM dl).length true,rfl,aJ.of ae,?_⟩
 rw[Dy]
 refine ⟨_,rfl,ck rfl ?_⟩
 generalize upd H2 D (HO.lst ((List.replicate (dM dl).length true).map V.bl))=H3 at DS ⊢
 have s3:=s1.trans DS
 have IU:=DS _ _ ht
 refine ⟨_,rfl,y,d,ws,os,rfl,hy,by omega,hg,hd.same s3,fun w wl ol Ws Os m H4 zi Rz Fe Qh hm4 s4=>?_⟩
 have ND:=s4 _ _ IU
 have DC:=s3.trans s4
 refine ⟨_,rfl,t,rfl,⟨_,aJ.of ND⟩,?_⟩
 have aab: ∀x∈dl,dq H4 x.a x.e:=fun x hx=>(nN x hx).ts (aF.of (DS.trans s4))
 refine il (K:=K) (a:=t) (xs:=dM dl) (fun k σ H'=> ∃(Ws:List Wc) (Os:List Oc) (L:dN) (m:Nat) (dv:Option V),σ=[some (.str (S y)),some (.ref d),some (.ref e),some (.ref t),some (.ref w),dv]/\dX H' w wl ol Ws Os m/\Wd (oW Ws) (oO Os) L m/\Good y (lets (oW Ws)) L/\m<=48+2*k/\(∀x∈om w wl ol Ws Os,H3 x=none)/\
   Path y (lets (oW Ws)) L ((dl.map Dd.e).drop k)/\fL y (lets (oW Ws)) L ((dl.map Dd.e).drop k)=(vs',ps.map br)/\ah H3 H')
  ⟨Ws,Os,_,m,none,rfl,zi,Qh,by rw[Fe];exact hg,by omega,Rz,by rw[Fe];exact Xf,by rw[Fe];exact Xg,s4⟩ (fun k σ H' _ ⟨_,_,_,_,_,_,_,_,_,_,_,_,_,h⟩=>aJ.of (h _ _ IU)) ?_ ?_
 ·rintro k x σ H5 hx ⟨Ws,Os,L,m,dv,rfl,vA,Of,Bz,hm5,HU,RA,Jm,s5⟩
  obtain ⟨x',B9,rfl⟩:=wN hx
  have hk:k<dl.length:=(List.getElem?_eq_some_iff.mp B9).1
  rw[Dz B9]at RA Jm
  obtain ⟨bq,hP6⟩:=RA
  have hda:dq H5 x'.a x'.e:=(nN x' (List.mem_of_getElem? B9)).ts (aF.of (DS.trans s5))
  refine ⟨_,rfl,_,rfl,_,rfl,y,w,wl,ol,x'.a,Ws,Os,L,m,x'.e,rfl,hy,by omega,vA,Of,Bz,by omega,hda,bq,fun II IJ H6 Fh eW eO hA6 f6=>?_⟩
  refine ⟨_,rfl,ck rfl ?_⟩
  obtain ⟨Xh,IA⟩:=Of.step hy Bz.ln bq
  have hg9:=Bz.step hy bq
  rw[<-eW, <-eO]at Xh
  rw[<-eW]at IA
  have hm9:aM m x'.e<=m+2:=by cases x'.e<;>exact Nat.le_of_ble_eq_true (by simp[aM])
  have L7:ah H3 H6:=fun a u ex=>f6 _ _ (s5 _ _ ex) fun z=>by rw[HU a z]at ex;cases ex
  have hf9: ∀a∈om w wl ol II IJ,H3 a=none:=fun a ha=>by
   rcases hA6 a ha with g | g
   ·exact ah.free s5 g
   ·exact HU a g
  exact ⟨II,IJ,_,aM m x'.e,_,rfl,Fh,Xh,by rw[IA];exact hg9,by omega,hf9,by rw[IA];exact hP6,by rw[IA];exact Jm,L7⟩
 ·rintro σ H5 ⟨Ws,Os,L,m,dv,rfl,vA,Of,Bz,hm5,HU,RA,Jm,s5⟩
  rw[List.drop_eq_nil_of_le (by rw[bW,List.length_map];exact Nat.le_refl _)]at Jm
  have r1:lets (oW Ws)=vs':=congrArg Prod.fst Jm
  have r2:L=ps.map br:=congrArg Prod.snd Jm
  have aac:(dM dl).length<=50000:=by rw[bW];exact BZ
  have Hw:=s3.trans s5
  refine ⟨_,rfl,y,w,wl,ol,Ws,Os,L,m,rfl,hy,by omega,vA,Of,Bz,by omega,fun dr os2 H6 g1 g2 s6=>?_⟩
  rw[r1]at g1
  rw[r2]at g2
  have RB:=he.same (Hw.trans s6)
  have D4:=Hc hy (by omega) RB uF
  have rm:mx K H6 (.ref dr) (EC vs' (ps.map br)):=by rw[<-g2];exact pM g1
  refine ⟨_,rfl,_,_,rm,pM RB,⟨D4.ly,D4.ly⟩,Nat.le_trans D4.dp (by decide),_,rfl,ck (by rw[eqv_refl _ (qT _ _)];rfl) ?_⟩
  have L7:=s5.trans s6
  have Xi:=s3.trans L7
  have Xj:=L7 _ _ IU
  refine ⟨_,rfl,_,rfl,_,rfl,y,d,ws,os,t,dl,rfl,hy,by omega,hg,hd.same Xi,Xj,fun x hx=>(nN x hx).ts (aF.of (DS.trans L7)),BZ,Xf,fun m2 ms H7 hm Jh hmg s7=>?_⟩
  rw[Xg]at hm Jh
  replace hm:jc H7 m2 vs' ms:=hm
  replace Jh:ms.map br=ps.map br:=Jh
  have he7:=RB.same s7
  have rm7:mx K H7 (.ref m2) (EC vs' (ps.map br)):=by rw[<-Jh];exact pM hm
  refine ⟨_,rfl,_,_,rm7,pM he7,⟨D4.ly,D4.ly⟩,Nat.le_trans D4.dp (by decide),_,rfl,ck (by rw[eqv_refl _ (qT _ _)];rfl) ?_⟩
  have Xk:=s7 _ _ Xj
  have Og:=Xi.trans s7
  refine ⟨_,rfl, .inl ⟨rfl,_,aJ.of Xk⟩,by show 2<=sizeLine;decide,fun tt ntt=>?_⟩
  have sT:=ah.upd (o:=HO.tup [V.str (S [116,117,114,110]),V.int 0]) ntt
  have Xl:=sT _ _ Xk
  have Xm:=Og.trans sT
  generalize upd H7 tt (HO.tup [V.str (S [116,117,114,110]),V.int 0])=H8 at sT Xl Xm ⊢
  refine ⟨t,_,_,rfl,rfl,Xl,by omega,?_⟩
  have Oh:=gr (o:=HO.lst (dM dl++[V.ref tt])) Xm nt
  generalize upd H8 t (HO.lst (dM dl++[V.ref tt]))=H9 at Oh ⊢
  refine ⟨_,rfl,_,rfl,_,rfl,_,rfl,_,rfl,y,d,e,ws,vs',os,ps,rfl,hy,by omega,hg,uF,hd.same Oh,he.same Oh,fun hU=>absurd Bu hU,fun _=>?_⟩
  intro t2 dl2 HA HG BX RC MN RD sA
  obtain ⟨Jg,hP4⟩:=MN
  have Oi:=Oh.trans sA
  refine ⟨y,d,ws,os,t2,dl2,rfl,hy,by omega,hg,hd.same Oi,BX,RC,RD,Jg,fun m3 Xn HB HY D5 aad sB=>?_⟩
  rw[hP4]at HY D5
  replace HY:jc HB m3 vs' Xn:=HY
  replace D5:Xn.map br=ps.map br:=D5
  have Xo:=Oi.trans sB
  have rmB:mx K HB (.ref m3) (EC vs' (ps.map br)):=by rw[<-D5];exact pM HY
  refine ⟨_,rfl,_,_,rmB,pM (he.same Xo),⟨D4.ly,D4.ly⟩,Nat.le_trans D4.dp (by decide),?_⟩
  rw[eqv_refl _ (qT _ _)]
  exact q _ Xo
theorem Il:cf P w K mg base gc 9 E5 NA ["_law_script"] (kn K):=by
 have q9:=DE (P:=P) (w:=w) (base:=base) T
 have D6:=Bm (P:=P) (w:=w) (base:=base) T
 have bP:=gF (P:=P) (w:=w) (base:=base) T
 have BE:=yy (P:=P) (w:=w) (base:=base) T
 have nO:=tY (P:=P) (w:=w) (base:=base) T
 have D7:=Bq (P:=P) (w:=w) (base:=base) T
 have nP:=yN (P:=P) (w:=w) (base:=base) T
 refine T.NB.fn.ok iL (fun vs H Q E h=>C2 h) (fun dw A outer s H vs Q E hr h=>?_)
 refine ⟨_,(af (ar (i:=1) iL.nd rfl (Or.inl rfl) (ao q9 (hr.mono (by decide)) rfl T.ub.mg T.ub.fn.kp T.ub.bd .nil aC (aa (pv 0) (aa ag ab))))
   (af (ar (i:=2) iL.nd rfl (Or.inl rfl) (ao D6 (hr.mono (by decide)) rfl T.Hk.mg T.Hk.fn.kp T.Hk.bd .nil aC (aa (pv 1) (aa ag (aa ag ab)))))
   (af (ar (i:=3) iL.nd rfl (Or.inl rfl) (jE qk (ao bP (hr.mono (by decide)) rfl T.fO.mg T.fO.fn.kp T.fO.bd .nil aC (aa (pv 1) (aa ag ab))) ag (bb _)))
   (af (ar (i:=4) iL.nd rfl (Or.inl rfl) (ao BE (hr.mono (by decide)) rfl T.Hn.mg T.Hn.fn.kp T.Hn.bd .nil aC (aa (pv 1) (aa (pv 2) (aa (au (aP K rfl) (bC (aa ag (aa ag ab))) (aZ ki rfl T.z_int boot_int (aa (pv 3) ab)) (fun _ _=>rfl)) ab)))))
   (af (ar (i:=5) iL.nd rfl (Or.inl rfl) (ao nO (hr.mono (by decide)) rfl T.BU.mg T.BU.fn.kp T.BU.bd .nil aC (aa (ao q9 (hr.mono (by decide)) rfl T.ub.mg T.ub.fn.kp T.ub.bd .nil aC (aa (pv 0) (aa ag ab))) (aa (pv 2) (aa (pv 4) ab)))))
   (af (ar (i:=6) iL.nd rfl (Or.inl rfl) (ao D7 (hr.mono (by decide)) rfl T.Hs.mg T.Hs.fn.kp T.Hs.bd .nil aC (aa (ao q9 (hr.mono (by decide)) rfl T.ub.mg T.ub.fn.kp T.ub.bd .nil aC (aa (pv 0) (aa ag ab))) (aa (pv 2) (aa (pv 4) (aa (au (aP K rfl) (bC (aa ag (aa ag ab))) (aZ ki rfl T.z_int boot_int (aa (pv 3) ab)) (fun _ _=>rfl)) ab))))))
   (af (ar (i:=7) iL.nd rfl (Or.inl rfl) (ao nO (hr.mono (by decide)) rfl T.BU.mg T.BU.fn.kp T.BU.bd .nil aC (aa (ao q9 (hr.mono (by decide)) rfl T.ub.mg T.ub.fn.kp T.ub.bd .nil aC (aa (pv 0) (aa ag ab))) (aa (pv 2) (aa (pv 6) ab)))))
   (af (bE (cZ (ib (ao nP (hr.mono (by decide)) rfl T.yu.mg T.yu.fn.kp T.yu.bd .nil aC (aa (pv 2) (aa (pv 5) (aa (pv 7) ab)))))) (ai (aD cX)) a_)
   (ai (aD (Jx (pv 3) (uf (zo (ao nP (hr.mono (by decide)) rfl T.yu.mg T.yu.fn.kp T.yu.bd .nil aC (aa (pv 2) (aa (pv 7) (aa (pv 5) ab)))) (uf (ao nP (hr.mono (by decide)) rfl T.yu.mg T.yu.fn.kp T.yu.bd .nil aC (aa (pv 2) (aa (pv 5) (aa (pv 5) ab)))))))))))))))))),?_⟩
 obtain ⟨a,ns,rfl,hS,hl,q⟩:=h
 have hs:(100000:Nat)<sizeLine:=by decide
 refine ⟨_,rfl,a,ns,0,rfl,hS,by decide,fun b H1 nb bx s1=>?_⟩
 refine ⟨_,rfl,b,1,4,rfl,bx,by decide,by decide,by decide,fun y H2 hy Xp hy2 bx2 s2=>?_⟩
 have IV:y≠[]:=fun z=>by rw[z]at Xp;simp at Xp
 refine ⟨_,rfl,b,8,rfl,bx2,by decide,by decide,fun r H3 Hy NH s3=>?_⟩
 refine ⟨_,_,rfl,rfl,?_⟩
 obtain ⟨wide,Ey⟩: ∃wide,decide ((r:Int)=1)=wide:=⟨_,rfl⟩
 refine ⟨_,rfl,_,rfl,by show 2<=sizeLine;decide,fun pl L1=>?_⟩
 have el:=ah.upd (o:=HO.lst [V.int 10,V.int 20]) L1
 obtain ⟨n,hn,RE⟩: ∃n:Nat,oK [V.int 10,V.int 20] (if decide ((r:Int)=1)=true then 1 else 0)=some (V.int n)/\n<=24:=by
  rw[Ey]
  cases wide
  ·exact ⟨10,rfl,by decide⟩
  ·exact ⟨20,rfl,by decide⟩
 refine ⟨_,rfl, .inr ⟨_,rfl,pl,_,_,_,rfl,rfl,aJ.of ae,hn,?_⟩⟩
 have Xq:=NH.same el
 have Xr:=s3.after el
 generalize upd H3 pl (HO.lst [V.int 10,V.int 20])=H4 at el Xq Xr ⊢
 refine ⟨b,y,n,rfl,Xq,IV,by omega,RE,fun wt ws H5 nwt wtb AZ RF bx5 s5=>?_⟩
 have Hw:ah H H5:=aE.same nb s1 ((s2.trans Xr).trans s5)
 refine ⟨_,rfl,a,ns,1,rfl,Hw.seq hS,by decide,fun b2 H6 Xs bx6 s6=>?_⟩
 refine ⟨_,rfl,_,rfl,b2,y,wt,ws,rfl,bx6,hy,by omega,aq AZ Xs,s6 _ _ AZ,RF,fun d os H7 hd Hz bx7 s7=>?_⟩
 have Xt:ah H5 H7:=aE.same Xs s6 s7
 have Og:=Hw.trans Xt
 have RG:=Xt _ _ AZ
 have hg:Good y ws (os.map br):=⟨RF,Hz.Wj⟩
 refine ⟨_,rfl,a,ns,2,rfl,Og.seq hS,by decide,fun b3 H8 nb3 bx8 s8=>?_⟩
 refine ⟨_,rfl,_,rfl,by show 2<=sizeLine;decide,fun pk npk=>?_⟩
 have ek:=ah.upd (o:=HO.lst [V.int 18,V.int 24]) npk
 obtain ⟨m,hm⟩: ∃m:Int,oK [V.int 18,V.int 24] (if decide ((r:Int)=1)=true then 1 else 0)=some (V.int m):=by
  rw[Ey]
  cases wide
  ·exact ⟨18,rfl⟩
  ·exact ⟨24,rfl⟩
 refine ⟨_,rfl, .inr ⟨_,rfl,pk,_,_,_,rfl,rfl,aJ.of ae,hm,?_⟩⟩
 have Xu:=bx8.same ek
 have RH:=s8.trans ek
 generalize upd H8 pk (HO.lst [V.int 18,V.int 24])=H9 at ek Xu RH ⊢
 refine ⟨b3,y,wt,ws,m,rfl,Xu,hy,IV,by omega,RH _ _ RG,RF,fun t nI HA ht L8 Bu bxA sA=>?_⟩
 have Xv:ah H7 HA:=aE.same nb3 RH sA
 have Oi:=Og.trans Xv
 refine ⟨_,rfl,a,ns,3,rfl,Oi.seq hS,by decide,fun b4 HB Xw bxB sB=>?_⟩
 refine ⟨_,rfl,_,rfl,b4,y,t,nI,rfl,bxB,hy,by omega,aq ht Xw,sB _ _ ht,L8,fun e ps HC he tX bxC sC=>?_⟩
 have sAC:ah HA HC:=aE.same Xw sB sC
 have s7C:=Xv.trans sAC
 have uF:Good y nI (ps.map br):=⟨L8,tX.Wj⟩
 have Oj:=hd.same s7C
 refine ⟨_,rfl,_,rfl,_,rfl,y,d,e,ws,nI,os,ps,rfl,hy,by omega,hg,uF,Oj,he,Bu.symm,fun HD sD=>?_⟩
 refine ⟨_,rfl,ck rfl ?_⟩
 refine ⟨_,rfl,_,rfl,?_⟩
 cases wide
 ·refine ck Ey ?_
  refine ⟨_,rfl,_,rfl,_,rfl,y,e,d,nI,ws,ps,os,rfl,hy,by omega,uF,hg,he.same sD,Oj.same sD,Bu,fun HE sE=>?_⟩
  refine ⟨_,rfl,dZ rfl ?_⟩
  refine ⟨_,rfl,_,rfl,_,rfl,y,d,d,ws,ws,os,os,rfl,hy,by omega,hg,hg,Oj.same (sD.trans sE),Oj.same (sD.trans sE),rfl,fun HF sF=>?_⟩
  exact q _
 ·exact dZ Ey (q _)
end
theorem cK {M:List Value->Prop} (h:M []): ∀us:List Value,us.length=0->M us
 | [],_=>h
theorem aV {M:List Value->Prop} {n:Nat} (h: ∀(a:Value) (us:List Value),us.length=n->M (a::us)): ∀us:List Value,us.length=n+1->M us
 | a::us,e=>h a us (Nat.succ.inj e)
theorem all_mk {l:PySem.W.OpenLaw} {w:World} {K:PySem.W.Frag} {h:Heap} {mg:Str->Option Value} {fa f0 f1 f2 f3 f4 f5 f6 f7 f8 f9 ED EE EF EG EH EI EJ EK EL EM EN EO ER ES ET EU EV EW EX EY EZ E1 E2 E3 E4 E5:Addr} (X:K.In h) (G:h.Ns mainGlobals mg) (hfa:mg "law"=some (.ref fa))
  {od0 an0 od1 an1 od2 an2 od3 an3 od4 an4 od5 an5 od6 an6 od7 an7 od8 an8 od9 an9 RI RJ RK RL RM RN RO RP RQ RS RT RU RV RW RX RY RZ R0 R1 R3 R4 R5 R6 R7 R8 R9 R_ Sa Sb Sd Se Sf Sg Sh Si Sj Sk Sl Sm Sn So Sr Ss Su Sv Sw Sx Sy Sz SA SD SE:Option Addr} {sl0 sl1 sl2 sl3 sl4 sl5 sl6 sl7 sl8 sl9 SF SG SH SI SJ SK SM SN SO SQ SR SU SV SW S0 S3 S4 S5 S6 S7 S8 S9 S_ Ta Tb Tc:Array (Option Value)} {oc0 kV0 dc0 pm0 Xx ct0 oc1 kV1 dc1 Ra Xy ct1 oc2 kV2 dc2 NT Xz ct2 oc3 kV3 dc3 pm3 XA ct3 oc4 kV4 dc4 pm4 XB ct4 oc5 kV5 dc5 pm5 XC ct5 oc6 kV6 dc6 pm6 XD ct6 oc7 kV7 dc7 pm7 XE ct7 oc8 kV8 dc8 pm8 XF ct8 oc9 kV9 dc9 pm9 XG ct9 Td Te Tf Tg L9 Th Ti Tj Tn To L_ Tp Tq Tr Ts Tt Ma Tu Tv Tw Tx Tz Mb TB TC TF TH TJ Mc TK TL TM TN TQ Md TR TU TV TX TY Me TZ T1 T3 T4 T5 Mf T6 T7 T8 T9 T_ Mg Ua Ub Uc Ud Ue Mh Ug Uh Ui Uj Uk Mi Ul Um Uo Up Uq Mj Ur Us Ut Uu Uv Ml Uw Ux Uy Uz UA Mm UB UC UD UE UG Mn UH UI UJ UK UL Mo UM UN UO UP UQ Mp UR US UT UU UW Mq UX UY UZ U0 U1 Mr U2 U3 U4 U5 U6 Ms U7 U8 U9 U_ Va Mt Vb Vc Vd Ve Vf Mu Vg Vh Vi Vj Vk Mv Vl Vm Vn Vo Vp Mw Vq Vr Vs Vt Vu Mx Vv Vw Vx Vy Vz Mz VA:Value}
  (a0:PySem.W.nsIn K mainGlobals "contrary"=some (some (.ref f0)))
  (l0:K.lookup f0=some ⟨oc0,od0, .func (PySem.W.fnOf "contrary" "contrary" (aK eu) (aI eu) (ak eu) .none kV0 dc0 pm0 an0 Xx ct0),sl0⟩)
  (c0:PySem.W.codeIn K Xx "contrary"=true)
  (k0:PySem.W.keepIn K (.ref f0)=true)
  (a1:PySem.W.nsIn K mainGlobals "bands"=some (some (.ref f1)))
  (l1:K.lookup f1=some ⟨oc1,od1, .func (PySem.W.fnOf "bands" "bands" (aK iW) (aI iW) (ak iW) .none kV1 dc1 Ra an1 Xy ct1),sl1⟩)
  (c1:PySem.W.codeIn K Xy "bands"=true)
  (k1:PySem.W.keepIn K (.ref f1)=true)
  (a2:PySem.W.nsIn K mainGlobals "renumber"=some (some (.ref f2)))
  (l2:K.lookup f2=some ⟨oc2,od2, .func (PySem.W.fnOf "renumber" "renumber" (aK eA) (aI eA) (ak eA) .none kV2 dc2 NT an2 Xz ct2),sl2⟩)
  (c2:PySem.W.codeIn K Xz "renumber"=true)
  (k2:PySem.W.keepIn K (.ref f2)=true)
  (a3:PySem.W.nsIn K mainGlobals "do_swap"=some (some (.ref f3)))
  (l3:K.lookup f3=some ⟨oc3,od3, .func (PySem.W.fnOf "do_swap" "do_swap" (aK ft) (aI ft) (ak ft) .none kV3 dc3 pm3 an3 XA ct3),sl3⟩)
  (c3:PySem.W.codeIn K XA "do_swap"=true)
  (k3:PySem.W.keepIn K (.ref f3)=true)
  (a4:PySem.W.nsIn K mainGlobals "do_out"=some (some (.ref f4)))
  (l4:K.lookup f4=some ⟨oc4,od4, .func (PySem.W.fnOf "do_out" "do_out" (aK gs) (aI gs) (ak gs) .none kV4 dc4 pm4 an4 XB ct4),sl4⟩)
  (c4:PySem.W.codeIn K XB "do_out"=true)
  (k4:PySem.W.keepIn K (.ref f4)=true)
  (a5:PySem.W.nsIn K mainGlobals "do_in"=some (some (.ref f5)))
  (l5:K.lookup f5=some ⟨oc5,od5, .func (PySem.W.fnOf "do_in" "do_in" (aK iX) (aI iX) (ak iX) .none kV5 dc5 pm5 an5 XC ct5),sl5⟩)
  (c5:PySem.W.codeIn K XC "do_in"=true)
  (k5:PySem.W.keepIn K (.ref f5)=true)
  (a6:PySem.W.nsIn K mainGlobals "do_turn"=some (some (.ref f6)))
  (l6:K.lookup f6=some ⟨oc6,od6, .func (PySem.W.fnOf "do_turn" "do_turn" (aK fu) (aI fu) (ak fu) .none kV6 dc6 pm6 an6 XD ct6),sl6⟩)
  (c6:PySem.W.codeIn K XD "do_turn"=true)
  (k6:PySem.W.keepIn K (.ref f6)=true)
  (a7:PySem.W.nsIn K mainGlobals "do_deed"=some (some (.ref f7)))
  (l7:K.lookup f7=some ⟨oc7,od7, .func (PySem.W.fnOf "do_deed" "do_deed" (aK fz) (aI fz) (ak fz) .none kV7 dc7 pm7 an7 XE ct7),sl7⟩)
  (c7:PySem.W.codeIn K XE "do_deed"=true)
  (k7:PySem.W.keepIn K (.ref f7)=true)
  (a8:PySem.W.nsIn K mainGlobals "done"=some (some (.ref f8)))
  (l8:K.lookup f8=some ⟨oc8,od8, .func (PySem.W.fnOf "done" "done" (aK kE) (aI kE) (ak kE) .none kV8 dc8 pm8 an8 XF ct8),sl8⟩)
  (c8:PySem.W.codeIn K XF "done"=true)
  (k8:PySem.W.keepIn K (.ref f8)=true)
  (a9:PySem.W.nsIn K mainGlobals "shortened"=some (some (.ref f9)))
  (l9:K.lookup f9=some ⟨oc9,od9, .func (PySem.W.fnOf "shortened" "shortened" (aK dA) (aI dA) (ak dA) .none kV9 dc9 pm9 an9 XG ct9),sl9⟩)
  (c9:PySem.W.codeIn K XG "shortened"=true)
  (k9:PySem.W.keepIn K (.ref f9)=true)
  (a10:PySem.W.nsIn K mainGlobals "shortest"=some (some (.ref ED)))
  (l10:K.lookup ED=some ⟨Td,RI, .func (PySem.W.fnOf "shortest" "shortest" (aK eB) (aI eB) (ak eB) .none Te Tf Tg RJ L9 Th),SF⟩)
  (c10:PySem.W.codeIn K L9 "shortest"=true)
  (k10:PySem.W.keepIn K (.ref ED)=true)
  (a11:PySem.W.nsIn K mainGlobals "ring"=some (some (.ref EE)))
  (l11:K.lookup EE=some ⟨Ti,RK, .func (PySem.W.fnOf "ring" "ring" (aK kF) (aI kF) (ak kF) .none Tj Tn To RL L_ Tp),SG⟩)
  (c11:PySem.W.codeIn K L_ "ring"=true)
  (k11:PySem.W.keepIn K (.ref EE)=true)
  (a12:PySem.W.nsIn K mainGlobals "are_one"=some (some (.ref EF)))
  (l12:K.lookup EF=some ⟨Tq,RM, .func (PySem.W.fnOf "are_one" "are_one" (aK fA) (aI fA) (ak fA) .none Tr Ts Tt RN Ma Tu),SH⟩)
  (c12:PySem.W.codeIn K Ma "are_one"=true)
  (k12:PySem.W.keepIn K (.ref EF)=true)
  (a13:PySem.W.nsIn K mainGlobals "pairs_out"=some (some (.ref EG)))
  (l13:K.lookup EG=some ⟨Tv,RO, .func (PySem.W.fnOf "pairs_out" "pairs_out" (aK dB) (aI dB) (ak dB) .none Tw Tx Tz RP Mb TB),SI⟩)
  (c13:PySem.W.codeIn K Mb "pairs_out"=true)
  (k13:PySem.W.keepIn K (.ref EG)=true)
  (a14:PySem.W.nsIn K mainGlobals "way_down"=some (some (.ref EH)))
  (l14:K.lookup EH=some ⟨TC,RQ, .func (PySem.W.fnOf "way_down" "way_down" (aK eE) (aI eE) (ak eE) .none TF TH TJ RS Mc TK),SJ⟩)
  (c14:PySem.W.codeIn K Mc "way_down"=true)
  (k14:PySem.W.keepIn K (.ref EH)=true)
  (a15:PySem.W.nsIn K mainGlobals "way_up"=some (some (.ref EI)))
  (l15:K.lookup EI=some ⟨TL,RT, .func (PySem.W.fnOf "way_up" "way_up" (aK gu) (aI gu) (ak gu) .none TM TN TQ RU Md TR),SK⟩)
  (c15:PySem.W.codeIn K Md "way_up"=true)
  (k15:PySem.W.keepIn K (.ref EI)=true)
  (a16:PySem.W.nsIn K mainGlobals "turns_between"=some (some (.ref EJ)))
  (l16:K.lookup EJ=some ⟨TU,RV, .func (PySem.W.fnOf "turns_between" "turns_between" (aK b_) (aI b_) (ak b_) .none TV TX TY RW Me TZ),SM⟩)
  (c16:PySem.W.codeIn K Me "turns_between"=true)
  (k16:PySem.W.keepIn K (.ref EJ)=true)
  (a17:PySem.W.nsIn K mainGlobals "word_road"=some (some (.ref EK)))
  (l17:K.lookup EK=some ⟨T1,RX, .func (PySem.W.fnOf "word_road" "word_road" (aK dD) (aI dD) (ak dD) .none T3 T4 T5 RY Mf T6),SN⟩)
  (c17:PySem.W.codeIn K Mf "word_road"=true)
  (k17:PySem.W.keepIn K (.ref EK)=true)
  (a18:PySem.W.nsIn K mainGlobals "order_road"=some (some (.ref EL)))
  (l18:K.lookup EL=some ⟨T7,RZ, .func (PySem.W.fnOf "order_road" "order_road" (aK cU) (aI cU) (ak cU) .none T8 T9 T_ R0 Mg Ua),SO⟩)
  (c18:PySem.W.codeIn K Mg "order_road"=true)
  (k18:PySem.W.keepIn K (.ref EL)=true)
  (a19:PySem.W.nsIn K mainGlobals "same_cords"=some (some (.ref EM)))
  (l19:K.lookup EM=some ⟨Ub,R1, .func (PySem.W.fnOf "same_cords" "same_cords" (aK cV) (aI cV) (ak cV) .none Uc Ud Ue R3 Mh Ug),SQ⟩)
  (c19:PySem.W.codeIn K Mh "same_cords"=true)
  (k19:PySem.W.keepIn K (.ref EM)=true)
  (a20:PySem.W.nsIn K mainGlobals "road"=some (some (.ref EN)))
  (l20:K.lookup EN=some ⟨Uh,R4, .func (PySem.W.fnOf "road" "road" (aK kG) (aI kG) (ak kG) .none Ui Uj Uk R5 Mi Ul),SR⟩)
  (c20:PySem.W.codeIn K Mi "road"=true)
  (k20:PySem.W.keepIn K (.ref EN)=true)
  (a21:PySem.W.nsIn K mainGlobals "_law_box"=some (some (.ref EO)))
  (l21:K.lookup EO=some ⟨Um,R6, .func (PySem.W.fnOf "_law_box" "_law_box" (aK kH) (aI kH) (ak kH) .none Uo Up Uq R7 Mj Ur),SU⟩)
  (c21:PySem.W.codeIn K Mj "_law_box"=true)
  (k21:PySem.W.keepIn K (.ref EO)=true)
  (a22:PySem.W.nsIn K mainGlobals "_law_take"=some (some (.ref ER)))
  (l22:K.lookup ER=some ⟨Us,R8, .func (PySem.W.fnOf "_law_take" "_law_take" (aK iY) (aI iY) (ak iY) .none Ut Uu Uv R9 Ml Uw),SV⟩)
  (c22:PySem.W.codeIn K Ml "_law_take"=true)
  (k22:PySem.W.keepIn K (.ref ER)=true)
  (a23:PySem.W.nsIn K mainGlobals "_law_other"=some (some (.ref ES)))
  (l23:K.lookup ES=some ⟨Ux,R_, .func (PySem.W.fnOf "_law_other" "_law_other" (aK gv) (aI gv) (ak gv) .none Uy Uz UA Sa Mm UB),SW⟩)
  (c23:PySem.W.codeIn K Mm "_law_other"=true)
  (k23:PySem.W.keepIn K (.ref ES)=true)
  (a24:PySem.W.nsIn K mainGlobals "_law_yard"=some (some (.ref ET)))
  (l24:K.lookup ET=some ⟨UC,Sb, .func (PySem.W.fnOf "_law_yard" "_law_yard" (aK iZ) (aI iZ) (ak iZ) .none UD UE UG Sd Mn UH),S0⟩)
  (c24:PySem.W.codeIn K Mn "_law_yard"=true)
  (k24:PySem.W.keepIn K (.ref ET)=true)
  (a25:PySem.W.nsIn K mainGlobals "_law_word"=some (some (.ref EU)))
  (l25:K.lookup EU=some ⟨UI,Se, .func (PySem.W.fnOf "_law_word" "_law_word" (aK i0) (aI i0) (ak i0) .none UJ UK UL Sf Mo UM),S3⟩)
  (c25:PySem.W.codeIn K Mo "_law_word"=true)
  (k25:PySem.W.keepIn K (.ref EU)=true)
  (a26:PySem.W.nsIn K mainGlobals "_law_order"=some (some (.ref EV)))
  (l26:K.lookup EV=some ⟨UN,Sg, .func (PySem.W.fnOf "_law_order" "_law_order" (aK gz) (aI gz) (ak gz) .none UO UP UQ Sh Mp UR),S4⟩)
  (c26:PySem.W.codeIn K Mp "_law_order"=true)
  (k26:PySem.W.keepIn K (.ref EV)=true)
  (a27:PySem.W.nsIn K mainGlobals "_law_bands"=some (some (.ref EW)))
  (l27:K.lookup EW=some ⟨US,Si, .func (PySem.W.fnOf "_law_bands" "_law_bands" (aK gA) (aI gA) (ak gA) .none UT UU UW Sj Mq UX),S5⟩)
  (c27:PySem.W.codeIn K Mq "_law_bands"=true)
  (k27:PySem.W.keepIn K (.ref EW)=true)
  (a28:PySem.W.nsIn K mainGlobals "_law_drawing"=some (some (.ref EX)))
  (l28:K.lookup EX=some ⟨UY,Sk, .func (PySem.W.fnOf "_law_drawing" "_law_drawing" (aK eF) (aI eF) (ak eF) .none UZ U0 U1 Sl Mr U2),S6⟩)
  (c28:PySem.W.codeIn K Mr "_law_drawing"=true)
  (k28:PySem.W.keepIn K (.ref EX)=true)
  (a29:PySem.W.nsIn K mainGlobals "_law_words"=some (some (.ref EY)))
  (l29:K.lookup EY=some ⟨U3,Sm, .func (PySem.W.fnOf "_law_words" "_law_words" (aK gB) (aI gB) (ak gB) .none U4 U5 U6 Sn Ms U7),S7⟩)
  (c29:PySem.W.codeIn K Ms "_law_words"=true)
  (k29:PySem.W.keepIn K (.ref EY)=true)
  (a30:PySem.W.nsIn K mainGlobals "_law_opened"=some (some (.ref EZ)))
  (l30:K.lookup EZ=some ⟨U8,So, .func (PySem.W.fnOf "_law_opened" "_law_opened" (aK fB) (aI fB) (ak fB) .none U9 U_ Va Sr Mt Vb),S8⟩)
  (c30:PySem.W.codeIn K Mt "_law_opened"=true)
  (k30:PySem.W.keepIn K (.ref EZ)=true)
  (a31:PySem.W.nsIn K mainGlobals "_law_shut"=some (some (.ref E1)))
  (l31:K.lookup E1=some ⟨Vc,Ss, .func (PySem.W.fnOf "_law_shut" "_law_shut" (aK i4) (aI i4) (ak i4) .none Vd Ve Vf Su Mu Vg),S9⟩)
  (c31:PySem.W.codeIn K Mu "_law_shut"=true)
  (k31:PySem.W.keepIn K (.ref E1)=true)
  (a32:PySem.W.nsIn K mainGlobals "_law_does"=some (some (.ref E2)))
  (l32:K.lookup E2=some ⟨Vh,Sv, .func (PySem.W.fnOf "_law_does" "_law_does" (aK i5) (aI i5) (ak i5) .none Vi Vj Vk Sw Mv Vl),S_⟩)
  (c32:PySem.W.codeIn K Mv "_law_does"=true)
  (k32:PySem.W.keepIn K (.ref E2)=true)
  (a33:PySem.W.nsIn K mainGlobals "_law_same"=some (some (.ref E3)))
  (l33:K.lookup E3=some ⟨Vm,Sx, .func (PySem.W.fnOf "_law_same" "_law_same" (aK i6) (aI i6) (ak i6) .none Vn Vo Vp Sy Mw Vq),Ta⟩)
  (c33:PySem.W.codeIn K Mw "_law_same"=true)
  (k33:PySem.W.keepIn K (.ref E3)=true)
  (a34:PySem.W.nsIn K mainGlobals "_law_leads"=some (some (.ref E4)))
  (l34:K.lookup E4=some ⟨Vr,Sz, .func (PySem.W.fnOf "_law_leads" "_law_leads" (aK gC) (aI gC) (ak gC) .none Vs Vt Vu SA Mx Vv),Tb⟩)
  (c34:PySem.W.codeIn K Mx "_law_leads"=true)
  (k34:PySem.W.keepIn K (.ref E4)=true)
  (a35:PySem.W.nsIn K mainGlobals "law"=some (some (.ref E5)))
  (l35:K.lookup E5=some ⟨Vw,SD, .func (PySem.W.fnOf "law" "law" (aK pP) (aI pP) (ak pP) .none Vx Vy Vz SE Mz VA),Tc⟩)
  (c35:PySem.W.codeIn K Mz "law"=true)
  (k35:PySem.W.keepIn K (.ref E5)=true)
  (z_all:PySem.W.nsIn K mainGlobals "all"=some none)
  (z_enumerate:PySem.W.nsIn K mainGlobals "enumerate"=some none)
  (z_int:PySem.W.nsIn K mainGlobals "int"=some none)
  (z_isinstance:PySem.W.nsIn K mainGlobals "isinstance"=some none)
  (z_len:PySem.W.nsIn K mainGlobals "len"=some none)
  (z_list:PySem.W.nsIn K mainGlobals "list"=some none)
  (z_max:PySem.W.nsIn K mainGlobals "max"=some none)
  (z_min:PySem.W.nsIn K mainGlobals "min"=some none)
  (z_range:PySem.W.nsIn K mainGlobals "range"=some none)
  (z_reversed:PySem.W.nsIn K mainGlobals "reversed"=some none)
  (z_sorted:PySem.W.nsIn K mainGlobals "sorted"=some none)
  (z_tuple:PySem.W.nsIn K mainGlobals "tuple"=some none)
  (z_zip:PySem.W.nsIn K mainGlobals "zip"=some none):
  ∃fd:FuncData,(∀(s:Shared) (v:Value),BindsTo s fd ⟨[v],[]⟩ [("_law_script",v)])/\ ∀base:Heap,K.In base->base.Ns mainGlobals mg->cf l.prog w K mg base gc 9 fa fd ["_law_script"] (kn K):=by
 have e:=hfa.symm.trans (PySem.W.mg_of X G a35)
 cases e
 have F0:=bf (st:=eu) l0 c0 k0
 have b0:=F0.binds (ps:=["letter"]) fun _ _ _ _ _ _=>aV fun _=>cK rfl
 have F1:=bf (st:=iW) l1 c1 k1
 have b1:=F1.binds (ps:=["yard"]) fun _ _ _ _ _ _=>aV fun _=>cK rfl
 have F2:=bf (st:=eA) l2 c2 k2
 have b2:=F2.binds (ps:=["orders","cord","places"]) fun _ _ _ _ _ _=>aV fun _=>aV fun _=>aV fun _=>cK rfl
 have F3:=bf (st:=ft) l3 c3 k3
 have b3:=F3.binds (ps:=["orders","band","number"]) fun _ _ _ _ _ _=>aV fun _=>aV fun _=>aV fun _=>cK rfl
 have F4:=bf (st:=gs) l4 c4 k4
 have b4:=F4.binds (ps:=["words","orders","cord","place"]) fun _ _ _ _ _ _=>aV fun _=>aV fun _=>aV fun _=>aV fun _=>cK rfl
 have F5:=bf (st:=iX) l5 c5 k5
 have b5:=F5.binds (ps:=["words","orders","cord","place","letter","number"]) fun _ _ _ _ _ _=>aV fun _=>aV fun _=>aV fun _=>aV fun _=>aV fun _=>aV fun _=>cK rfl
 have F6:=bf (st:=fu) l6 c6 k6
 have b6:=F6.binds (ps:=["words","orders","cord"]) fun _ _ _ _ _ _=>aV fun _=>aV fun _=>aV fun _=>cK rfl
 have F7:=bf (st:=fz) l7 c7 k7
 have b7:=F7.binds (ps:=["yard","words","orders","deed"]) fun _ _ _ _ _ _=>aV fun _=>aV fun _=>aV fun _=>aV fun _=>cK rfl
 have F8:=bf (st:=kE) l8 c8 k8
 have b8:=F8.binds (ps:=["yard","drawing","deeds"]) fun _ _ _ _ _ _=>aV fun _=>aV fun _=>aV fun _=>cK rfl
 have F9:=bf (st:=dA) l9 c9 k9
 have b9:=F9.binds (ps:=["word"]) fun _ _ _ _ _ _=>aV fun _=>cK rfl
 have qU:=bf (st:=eB) l10 c10 k10
 have b10:=qU.binds (ps:=["word"]) fun _ _ _ _ _ _=>aV fun _=>cK rfl
 have BP:=bf (st:=kF) l11 c11 k11
 have b11:=BP.binds (ps:=["word"]) fun _ _ _ _ _ _=>aV fun _=>cK rfl
 have Hd:=bf (st:=fA) l12 c12 k12
 have b12:=Hd.binds (ps:=["one","other"]) fun _ _ _ _ _ _=>aV fun _=>aV fun _=>cK rfl
 have BQ:=bf (st:=dB) l13 c13 k13
 have b13:=BQ.binds (ps:=["word"]) fun _ _ _ _ _ _=>aV fun _=>cK rfl
 have He:=bf (st:=eE) l14 c14 k14
 have b14:=He.binds (ps:=["cord","word"]) fun _ _ _ _ _ _=>aV fun _=>aV fun _=>cK rfl
 have Hf:=bf (st:=gu) l15 c15 k15
 have b15:=Hf.binds (ps:=["cord","word"]) fun _ _ _ _ _ _=>aV fun _=>aV fun _=>cK rfl
 have Hg:=bf (st:=b_) l16 c16 k16
 have b16:=Hg.binds (ps:=["one","other"]) fun _ _ _ _ _ _=>aV fun _=>aV fun _=>cK rfl
 have Hh:=bf (st:=dD) l17 c17 k17
 have b17:=Hh.binds (ps:=["cord","one","other"]) fun _ _ _ _ _ _=>aV fun _=>aV fun _=>aV fun _=>cK rfl
 have Hi:=bf (st:=cU) l18 c18 k18
 have b18:=Hi.binds (ps:=["band","one","other"]) fun _ _ _ _ _ _=>aV fun _=>aV fun _=>aV fun _=>cK rfl
 have Hj:=bf (st:=cV) l19 c19 k19
 have b19:=Hj.binds (ps:=["one","other"]) fun _ _ _ _ _ _=>aV fun _=>aV fun _=>cK rfl
 have BR:=bf (st:=kG) l20 c20 k20
 have b20:=BR.binds (ps:=["yard","one","other"]) fun _ _ _ _ _ _=>aV fun _=>aV fun _=>aV fun _=>cK rfl
 have ub:=bf (st:=kH) l21 c21 k21
 have b21:=ub.binds (ps:=["_law_script","_law_k"]) fun _ _ _ _ _ _=>aV fun _=>aV fun _=>cK rfl
 have fO:=bf (st:=iY) l22 c22 k22
 have b22:=fO.binds (ps:=["_law_box_here","_law_many"]) fun _ _ _ _ _ _=>aV fun _=>aV fun _=>cK rfl
 have lx:=bf (st:=gv) l23 c23 k23
 have b23:=lx.binds (ps:=["_law_letter"]) fun _ _ _ _ _ _=>aV fun _=>cK rfl
 have Hk:=bf (st:=iZ) l24 c24 k24
 have b24:=Hk.binds (ps:=["_law_box_here","_law_few","_law_top"]) fun _ _ _ _ _ _=>aV fun _=>aV fun _=>aV fun _=>cK rfl
 have Hl:=bf (st:=i0) l25 c25 k25
 have b25:=Hl.binds (ps:=["_law_box_here","_law_yard_here","_law_top"]) fun _ _ _ _ _ _=>aV fun _=>aV fun _=>aV fun _=>cK rfl
 have Hm:=bf (st:=gz) l26 c26 k26
 have b26:=Hm.binds (ps:=["_law_box_here","_law_things"]) fun _ _ _ _ _ _=>aV fun _=>aV fun _=>cK rfl
 have BS:=bf (st:=gA) l27 c27 k27
 have b27:=BS.binds (ps:=["_law_yard_here"]) fun _ _ _ _ _ _=>aV fun _=>cK rfl
 have BU:=bf (st:=eF) l28 c28 k28
 have b28:=BU.binds (ps:=["_law_box_here","_law_yard_here","_law_words_here"]) fun _ _ _ _ _ _=>aV fun _=>aV fun _=>aV fun _=>cK rfl
 have Hn:=bf (st:=gB) l29 c29 k29
 have b29:=Hn.binds (ps:=["_law_box_here","_law_yard_here","_law_left"]) fun _ _ _ _ _ _=>aV fun _=>aV fun _=>aV fun _=>cK rfl
 have Ho:=bf (st:=fB) l30 c30 k30
 have b30:=Ho.binds (ps:=["_law_drawing_here"]) fun _ _ _ _ _ _=>aV fun _=>cK rfl
 have Hq:=bf (st:=i4) l31 c31 k31
 have b31:=Hq.binds (ps:=["_law_world"]) fun _ _ _ _ _ _=>aV fun _=>cK rfl
 have Hr:=bf (st:=i5) l32 c32 k32
 have b32:=Hr.binds (ps:=["_law_yard_here","_law_world","_law_deed"]) fun _ _ _ _ _ _=>aV fun _=>aV fun _=>aV fun _=>cK rfl
 have Hs:=bf (st:=i6) l33 c33 k33
 have b33:=Hs.binds (ps:=["_law_box_here","_law_yard_here","_law_words_here","_law_room"]) fun _ _ _ _ _ _=>aV fun _=>aV fun _=>aV fun _=>aV fun _=>cK rfl
 have yu:=bf (st:=gC) l34 c34 k34
 have b34:=yu.binds (ps:=["_law_yard_here","_law_one","_law_other_here"]) fun _ _ _ _ _ _=>aV fun _=>aV fun _=>aV fun _=>cK rfl
 have NB:=bf (st:=pP) l35 c35 k35
 have b35:=NB.binds (ps:=["_law_script"]) fun _ _ _ _ _ _=>aV fun _=>cK rfl
 have T:Txt K mg _ _ _ _ _ _ _ _ _ _ _ _ _ _ _ _ _ _ _ _ _ _ _ _ _ _ _ _ _ _ _ _ _ _ _ _ _ _ _ _ _ _ _ _ _ _ _ _ _ _ _ _ _ _ _ _ _ _ _ _ _ _ _ _ _ _ _ _ _ _ _ _:=⟨⟨F0,PySem.W.mg_of X G a0,b0⟩,⟨F1,PySem.W.mg_of X G a1,b1⟩,⟨F2,PySem.W.mg_of X G a2,b2⟩,⟨F3,PySem.W.mg_of X G a3,b3⟩,⟨F4,PySem.W.mg_of X G a4,b4⟩,⟨F5,PySem.W.mg_of X G a5,b5⟩,⟨F6,PySem.W.mg_of X G a6,b6⟩,⟨F7,PySem.W.mg_of X G a7,b7⟩,⟨F8,PySem.W.mg_of X G a8,b8⟩,⟨F9,PySem.W.mg_of X G a9,b9⟩,⟨qU,PySem.W.mg_of X G a10,b10⟩,⟨BP,PySem.W.mg_of X G a11,b11⟩,⟨Hd,PySem.W.mg_of X G a12,b12⟩,⟨BQ,PySem.W.mg_of X G a13,b13⟩,⟨He,PySem.W.mg_of X G a14,b14⟩,⟨Hf,PySem.W.mg_of X G a15,b15⟩,⟨Hg,PySem.W.mg_of X G a16,b16⟩,⟨Hh,PySem.W.mg_of X G a17,b17⟩,⟨Hi,PySem.W.mg_of X G a18,b18⟩,⟨Hj,PySem.W.mg_of X G a19,b19⟩,⟨BR,PySem.W.mg_of X G a20,b20⟩,⟨ub,PySem.W.mg_of X G a21,b21⟩,⟨fO,PySem.W.mg_of X G a22,b22⟩,⟨lx,PySem.W.mg_of X G a23,b23⟩,⟨Hk,PySem.W.mg_of X G a24,b24⟩,⟨Hl,PySem.W.mg_of X G a25,b25⟩,⟨Hm,PySem.W.mg_of X G a26,b26⟩,⟨BS,PySem.W.mg_of X G a27,b27⟩,⟨BU,PySem.W.mg_of X G a28,b28⟩,⟨Hn,PySem.W.mg_of X G a29,b29⟩,⟨Ho,PySem.W.mg_of X G a30,b30⟩,⟨Hq,PySem.W.mg_of X G a31,b31⟩,⟨Hr,PySem.W.mg_of X G a32,b32⟩,⟨Hs,PySem.W.mg_of X G a33,b33⟩,⟨yu,PySem.W.mg_of X G a34,b34⟩,⟨NB,PySem.W.mg_of X G a35,b35⟩,PySem.W.mg_none_of X G z_all,PySem.W.mg_none_of X G z_enumerate,PySem.W.mg_none_of X G z_int,PySem.W.mg_none_of X G z_isinstance,PySem.W.mg_none_of X G z_len,PySem.W.mg_none_of X G z_list,PySem.W.mg_none_of X G z_max,PySem.W.mg_none_of X G z_min,PySem.W.mg_none_of X G z_range,PySem.W.mg_none_of X G z_reversed,PySem.W.mg_none_of X G z_sorted,PySem.W.mg_none_of X G z_tuple,PySem.W.mg_none_of X G z_zip⟩
 exact ⟨_,fun s v=> .of_eq rfl,fun base _ _=>Il T⟩
theorem walk {l:PySem.W.OpenLaw} {q:Program} {loose:List Str} {XP:(Str->Option Value)->Heap->Prop} {YP:World->Heap->Prop} {d:DefRec} {K:Params->PySem.W.Frag} (hn:l.most=some 63) (JY:d.params.defaults=[])
  (hY: ∀(w:World) (h:Heap),YP w h->(K w.params).In h)
  (F: ∀(w:World) (mg:Str->Option Value) (fa:Addr) (h:Heap),(K w.params).In h->h.Ns mainGlobals mg->mg d.name=some (.ref fa)->
   ∃fd:FuncData,(∀(s:Shared) (u:Value),BindsTo s fd ⟨[u],[]⟩ [("_law_script",u)])/\ ∀base:Heap,(K w.params).In base->base.Ns mainGlobals mg->cf l.prog w (K w.params) mg base gc 9 fa fd ["_law_script"] (kn (K w.params))):
  PySem.W.WalkO q loose XP YP l.row.toRowW d [] (fun f vs=>PySem.call f vs):=
 L2.vU (n:=63) (k:=9) (x:="_law_script") (CX:=fun _=>gc) (sp:=fun w=>kn (K w.params)) hn (by decide) JY ⟨rfl,by decide,by decide,rfl⟩ hY F (fun _ _ a ns hl _ hS=>⟨a,ns,rfl,hS,hl,fun _=>rfl⟩) fun _ _ _ _ _ z=>z
end My
namespace PySem.W.Fast
def tw10035569107314785827:=0
def tw10081694733520471551:=0
def tw10171134853979587629:=0
def tw10307636369203584185:=0
def tw10457491408040822770:=0
def tw1057465390080909480:=0
def tw10587550978872620621:=0
def tw10618599170917176393:=0
def tw10650971370539172617:=0
def tw10665602941507737403:=0
def tw10694705102260512140:=0
def tw10771853817152453836:=0
def tw10793053652984469947:=0
def tw10819382964916840641:=0
def tw10855786684338326116:=0
def tw10864827321320600783:=0
def tw10867549491381305610:=0
def tw10869707622575525109:=0
def tw10894259181952166505:=0
def tw10941504425358801713:=0
def tw10973665252734052548:=0
def tw10995568274235037260:=0
def tw1118261714176076108:=0
def tw11220655414418415187:=0
def tw11302627877775811525:=0
def tw11481082795072710865:=0
def tw11495023290339108623:=0
def tw11506084255614034129:=0
def tw11672170422156343749:=0
def tw11675829143886232566:=0
def tw11694386089992586159:=0
def tw11730533411397382071:=0
def tw11888859264925944605:=0
def tw12001781239842452046:=0
def tw12006903378572270658:=0
def tw12024089868558081662:=0
def tw12055960691943468376:=0
def tw12070625995954083923:=0
def tw1212179388594939179:=0
def tw12495722091972911847:=0
def tw12696726226835847776:=0
def tw12810639534983150221:=0
def tw12852376060018764629:=0
def tw12869366597014461399:=0
def tw12900286281462188344:=0
def tw1291853464325248383:=0
def tw13019327081909215009:=0
def tw13062190656300304594:=0
def tw13062524976292229031:=0
def tw13245366215857315676:=0
def tw13312082990764912814:=0
def tw13475400128270265821:=0
def tw13480267353456067817:=0
def tw13530526732177718607:=0
def tw13599723049335702457:=0
def tw13611977897974206704:=0
def tw13623283625156692608:=0
def tw13710836278957954318:=0
def tw13711014807628327537:=0
def tw13775063556877795562:=0
def tw13833260590240989433:=0
def tw13896442970082570214:=0
def tw13955305112963330316:=0
def tw14042035769921399802:=0
def tw14066923930456529594:=0
def tw14076392738590559472:=0
def tw14090919260455808540:=0
def tw14133126262789199187:=0
def tw14250685783759850019:=0
def tw14373623390397418465:=0
def tw14606975077411510359:=0
def tw14667891985909842758:=0
def tw14677898401163964775:=0
def tw14727683263222661286:=0
def tw14755915602253203877:=0
def tw14793079295414138878:=0
def tw14907071897151835912:=0
def tw14923497518014639914:=0
def tw15092914204457787664:=0
def tw15110748987611980337:=0
def tw15134450306242438332:=0
def tw15196471794578707739:=0
def tw15241235984396464646:=0
def tw15314185254738877532:=0
def tw15404733776595346685:=0
def tw15490074415676323079:=0
def tw15519225558979623206:=0
def tw15551638594049093861:=0
def tw15634137214627872808:=0
def tw15763188553676330793:=0
def tw15768259494300888084:=0
def tw15880597097227313818:=0
def tw15898480869111538662:=0
def tw16189450982034574581:=0
def tw16224344276238421073:=0
def tw16311434310828730354:=0
def tw16343815325533296749:=0
def tw16430502621147512388:=0
def tw16630355698174627846:=0
def tw16652584809242102513:=0
def tw16663160382892179706:=0
def tw16734036154243652595:=0
def tw16808784241554357984:=0
def tw1689905323306178227:=0
def tw16963234184955716216:=0
def tw1696662873555731451:=0
def tw17004126609648304452:=0
def tw1700661180391122947:=0
def tw17223622642046206875:=0
def tw17393414460722596129:=0
def tw17458438265635501191:=0
def tw17463630973547182748:=0
def tw1747873927474960587:=0
def tw17592487664151767864:=0
def tw17614637728975066959:=0
def tw17622867838951725006:=0
def tw17623932757000761900:=0
def tw17669373974475611267:=0
def tw17693308835706243735:=0
def tw17699725296332104321:=0
def tw17757464509526492624:=0
def tw17956002543219835817:=0
def tw17981363625734913477:=0
def tw18219057602749717130:=0
def tw18227180362203616998:=0
def tw18233535613543766196:=0
def tw18265793749256454807:=0
def tw18272976387304244251:=0
def tw18284961814993375012:=0
def tw18314682784679610969:=0
def tw18431510748811520306:=0
def tw1934545694064361987:=0
def tw2014627898837617491:=0
def tw2119531655982365181:=0
def tw2137711828232006226:=0
def tw2319252103121062770:=0
def tw2479892187379536833:=0
def tw2535905407768343775:=0
def tw2699800296795887862:=0
def tw2736065961582675916:=0
def tw2837092030767934256:=0
def tw288427541246464812:=0
def tw298696645387430706:=0
def tw3115839630031722882:=0
def tw317926817575200912:=0
def tw3228576495149966439:=0
def tw3305245201121071371:=0
def tw3307147367278653104:=0
def tw3318595506721391338:=0
def tw3387308122262390609:=0
def tw3441151677334536810:=0
def tw3466518258095625625:=0
def tw3500990772931629170:=0
def tw3524074605346823487:=0
def tw3584484298982392788:=0
def tw3604666780098205838:=0
def tw3860390434987279349:=0
def tw38728233573024261:=0
def tw3938736169571533721:=0
def tw3940177925781773490:=0
def tw3944187847865376842:=0
def tw4104916702634762577:=0
def tw4374951526288675415:=0
def tw4385107018234355808:=0
def tw4438418164721090812:=0
def tw4543812573873476223:=0
def tw4649729998189596421:=0
def tw4818863228035602187:=0
def tw4865272602964128488:=0
def tw4909594833339889660:=0
def tw4979561735329949437:=0
def tw5002686866223943844:=0
def tw5011224002512279618:=0
def tw5025462855304600464:=0
def tw5088207034380714177:=0
def tw5122597626432848462:=0
def tw5170425738529870900:=0
def tw5170563733239066396:=0
def tw5188970022866557459:=0
def tw5295235727385853805:=0
def tw5362759873417420146:=0
def tw5369662721494010880:=0
def tw5454202420652772628:=0
def tw5610406362660428457:=0
def tw582115765209565356:=0
def tw5834119970360060845:=0
def tw5875812981770531724:=0
def tw591762851305976538:=0
def tw6104690536024414963:=0
def tw616004185452164009:=0
def tw6163940971338912999:=0
def tw6229069171332201115:=0
def tw6239193960136715209:=0
def tw6558132229099837986:=0
def tw6594253664018725837:=0
def tw6644394038352627878:=0
def tw6651235216203063007:=0
def tw6931198571898822322:=0
def tw6940708482961908747:=0
def tw6970509795387368100:=0
def tw7051000676750528845:=0
def tw728626515880981381:=0
def tw7373508096292402338:=0
def tw7420055754547505525:=0
def tw7437807537162713426:=0
def tw7564639727515291043:=0
def tw7639048665694533287:=0
def tw7754779707062634924:=0
def tw781421931472106706:=0
def tw7867603052553234758:=0
def tw7888789495306536026:=0
def tw7907447776512132358:=0
def tw7914219264245265583:=0
def tw7927429530485587724:=0
def tw8025690942042248415:=0
def tw8049737994712982820:=0
def tw8075288218369715722:=0
def tw8118398094162311682:=0
def tw8124558986150730015:=0
def tw8138569537924158866:=0
def tw8198565571520601264:=0
def tw8202411413697595491:=0
def tw8240428789523490067:=0
def tw8253480743597786912:=0
def tw832813611444132227:=0
def tw8345879603128934180:=0
def tw8368167020648210807:=0
def tw8487518018762270589:=0
def tw850722535684108560:=0
def tw8523958538640880645:=0
def tw8639988209017044115:=0
def tw8656834341573757751:=0
def tw867121424338943317:=0
def tw8928852306452690527:=0
def tw8946652712399208369:=0
def tw8967672794156360809:=0
def tw9014007192171592504:=0
def tw920287264986581521:=0
def tw9234604627252032106:=0
def tw9357241996298865155:=0
def tw9357678532418173704:=0
def tw9475184772333637873:=0
def tw9698974050089113402:=0
def tw9706301358428286398:=0
def tw9790364941945648088:=0
def tw9823522829058531256:=0
def tw9871403486420195732:=0
def tw9912455916224973437:=0
end PySem.W.Fast
open PySem PySem.W PyProof.Rows
set_option maxRecDepth 100000 in
set_option maxHeartbeats 0 in
theorem PySem.Challenge.cw_mustmeet_k23_roads_from_drawing_to_drawi_holds : PySem.Challenge.rw_mustmeet_k23_roads_from_drawing_to_drawi.Holds := by
 w_on;o_law;k_head;(case hw=>w_witness2)
 k_fill
 refine My.walk (l:=PySem.Challenge.rw_mustmeet_k23_roads_from_drawing_to_drawi) rfl rfl (fun w h Y=>PySem.W.kIn_of Y) ?F
 case F=>
  intro w mg fa h KX G hmg
  refine' My.all_mk KX G hmg ?a0 ?l0 ?c0 ?k0 ?a1 ?l1 ?c1 ?k1 ?a2 ?l2 ?c2 ?k2 ?a3 ?l3 ?c3 ?k3 ?a4 ?l4 ?c4 ?k4 ?a5 ?l5 ?c5 ?k5 ?a6 ?l6 ?c6 ?k6 ?a7 ?l7 ?c7 ?k7 ?a8 ?l8 ?c8 ?k8 ?a9 ?l9 ?c9 ?k9 ?a10 ?l10 ?c10 ?k10 ?a11 ?l11 ?c11 ?k11 ?a12 ?l12 ?c12 ?k12 ?a13 ?l13 ?c13 ?k13 ?a14 ?l14 ?c14 ?k14 ?a15 ?l15 ?c15 ?k15 ?a16 ?l16 ?c16 ?k16 ?a17 ?l17 ?c17 ?k17 ?a18 ?l18 ?c18 ?k18 ?a19 ?l19 ?c19 ?k19 ?a20 ?l20 ?c20 ?k20 ?a21 ?l21 ?c21 ?k21 ?a22 ?l22 ?c22 ?k22 ?a23 ?l23 ?c23 ?k23 ?a24 ?l24 ?c24 ?k24 ?a25 ?l25 ?c25 ?k25 ?a26 ?l26 ?c26 ?k26 ?a27 ?l27 ?c27 ?k27 ?a28 ?l28 ?c28 ?k28 ?a29 ?l29 ?c29 ?k29 ?a30 ?l30 ?c30 ?k30 ?a31 ?l31 ?c31 ?k31 ?a32 ?l32 ?c32 ?k32 ?a33 ?l33 ?c33 ?k33 ?a34 ?l34 ?c34 ?k34 ?a35 ?l35 ?c35 ?k35 ?z_all ?z_enumerate ?z_int ?z_isinstance ?z_len ?z_list ?z_max ?z_min ?z_range ?z_reversed ?z_sorted ?z_tuple ?z_zip
  (case a0=>k_is)
  (case l0=>k_is)
  (case c0=>k_is)
  (case k0=>k_is)
  (case a1=>k_is)
  (case l1=>k_is)
  (case c1=>k_is)
  (case k1=>k_is)
  (case a2=>k_is)
  (case l2=>k_is)
  (case c2=>k_is)
  (case k2=>k_is)
  (case a3=>k_is)
  (case l3=>k_is)
  (case c3=>k_is)
  (case k3=>k_is)
  (case a4=>k_is)
  (case l4=>k_is)
  (case c4=>k_is)
  (case k4=>k_is)
  (case a5=>k_is)
  (case l5=>k_is)
  (case c5=>k_is)
  (case k5=>k_is)
  (case a6=>k_is)
  (case l6=>k_is)
  (case c6=>k_is)
  (case k6=>k_is)
  (case a7=>k_is)
  (case l7=>k_is)
  (case c7=>k_is)
  (case k7=>k_is)
  (case a8=>k_is)
  (case l8=>k_is)
  (case c8=>k_is)
  (case k8=>k_is)
  (case a9=>k_is)
  (case l9=>k_is)
  (case c9=>k_is)
  (case k9=>k_is)
  (case a10=>k_is)
  (case l10=>k_is)
  (case c10=>k_is)
  (case k10=>k_is)
  (case a11=>k_is)
  (case l11=>k_is)
  (case c11=>k_is)
  (case k11=>k_is)
  (case a12=>k_is)
  (case l12=>k_is)
  (case c12=>k_is)
  (case k12=>k_is)
  (case a13=>k_is)
  (case l13=>k_is)
  (case c13=>k_is)
  (case k13=>k_is)
  (case a14=>k_is)
  (case l14=>k_is)
  (case c14=>k_is)
  (case k14=>k_is)
  (case a15=>k_is)
  (case l15=>k_is)
  (case c15=>k_is)
  (case k15=>k_is)
  (case a16=>k_is)
  (case l16=>k_is)
  (case c16=>k_is)
  (case k16=>k_is)
  (case a17=>k_is)
  (case l17=>k_is)
  (case c17=>k_is)
  (case k17=>k_is)
  (case a18=>k_is)
  (case l18=>k_is)
  (case c18=>k_is)
  (case k18=>k_is)
  (case a19=>k_is)
  (case l19=>k_is)
  (case c19=>k_is)
  (case k19=>k_is)
  (case a20=>k_is)
  (case l20=>k_is)
  (case c20=>k_is)
  (case k20=>k_is)
  (case a21=>k_is)
  (case l21=>k_is)
  (case c21=>k_is)
  (case k21=>k_is)
  (case a22=>k_is)
  (case l22=>k_is)
  (case c22=>k_is)
  (case k22=>k_is)
  (case a23=>k_is)
  (case l23=>k_is)
  (case c23=>k_is)
  (case k23=>k_is)
  (case a24=>k_is)
  (case l24=>k_is)
  (case c24=>k_is)
  (case k24=>k_is)
  (case a25=>k_is)
  (case l25=>k_is)
  (case c25=>k_is)
  (case k25=>k_is)
  (case a26=>k_is)
  (case l26=>k_is)
  (case c26=>k_is)
  (case k26=>k_is)
  (case a27=>k_is)
  (case l27=>k_is)
  (case c27=>k_is)
  (case k27=>k_is)
  (case a28=>k_is)
  (case l28=>k_is)
  (case c28=>k_is)
  (case k28=>k_is)
  (case a29=>k_is)
  (case l29=>k_is)
  (case c29=>k_is)
  (case k29=>k_is)
  (case a30=>k_is)
  (case l30=>k_is)
  (case c30=>k_is)
  (case k30=>k_is)
  (case a31=>k_is)
  (case l31=>k_is)
  (case c31=>k_is)
  (case k31=>k_is)
  (case a32=>k_is)
  (case l32=>k_is)
  (case c32=>k_is)
  (case k32=>k_is)
  (case a33=>k_is)
  (case l33=>k_is)
  (case c33=>k_is)
  (case k33=>k_is)
  (case a34=>k_is)
  (case l34=>k_is)
  (case c34=>k_is)
  (case k34=>k_is)
  (case a35=>k_is)
  (case l35=>k_is)
  (case c35=>k_is)
  (case k35=>k_is)
  (case z_all=>k_is)
  (case z_enumerate=>k_is)
  (case z_int=>k_is)
  (case z_isinstance=>k_is)
  (case z_len=>k_is)
  (case z_list=>k_is)
  (case z_max=>k_is)
  (case z_min=>k_is)
  (case z_range=>k_is)
  (case z_reversed=>k_is)
  (case z_sorted=>k_is)
  (case z_tuple=>k_is)
  (case z_zip=>k_is)
