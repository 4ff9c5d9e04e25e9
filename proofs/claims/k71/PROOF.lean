import PyProof.Rows.All
import Wide.All
import OpenK.AllK
import Wide.FinOn
import Lean
import PyProof.EqAt
import PyProof.EqKinds
import PyProof.TupleCall
import PySem.Challenge.RW_mustmeet_k71_whole_written_turned_and_le
set_option Elab.async false
set_option linter.all false
set_option maxRecDepth 100000
namespace L2
open PySem PySem.Spec PyProof.Rows
abbrev Key:=Sum Int Str
noncomputable def q9:Key->Value->Bool
 | .inl k,v=>Value.isInt k v
 | .inr x,v=>Value.isStrOf x v
noncomputable def Rx (w:World):Key->Int
 | .inl k=>hashInt k
 | .inr x=>hashStr w x
theorem bY: ∀{k:Key} {v:Value},q9 k v=true->(∃i t,k=Sum.inl i/\v=Value.int i t)\/(∃x t,k=Sum.inr x/\v=Value.str x t)
 | .inl i,v,h=>by
  obtain ⟨t,e⟩:=Value.isInt_shape (k:=i) (v:=v) h
  exact .inl ⟨i,t,rfl,e⟩
 | .inr x,v,h=>by
  obtain ⟨t,e⟩:=Value.isStrOf_shape (x:=x) (v:=v) h
  exact .inr ⟨x,t,rfl,e⟩
theorem zR (i:Int) (t:Tok):q9 (.inl i) (.int i t)=true:=by simp[q9,Value.isInt]
theorem zS (x:Str) (t:Tok):q9 (.inr x) (.str x t)=true:=by simp[q9,Value.isStrOf]
theorem Im (a b:Int):decide ((Sum.inl a:Key)=Sum.inl b)=(a==b):=by
 by_cases e:a=b
 ·subst e;simp
 ·have h: ¬(Sum.inl a:Key)=Sum.inl b:=fun q=>e (Sum.inl.inj q)
  rw[decide_eq_false h]
  exact (beq_eq_false_iff_ne.mpr e).symm
theorem Io (a b:Str):decide ((Sum.inr a:Key)=Sum.inr b)=decide (a=b):=by
 by_cases e:a=b
 ·subst e;simp
 ·have h: ¬(Sum.inr a:Key)=Sum.inr b:=fun q=>e (Sum.inr.inj q)
  rw[decide_eq_false h,decide_eq_false e]
theorem Ip (a:Int) (b:Str):decide ((Sum.inl a:Key)=Sum.inr b)=false:=decide_eq_false (fun q=>nomatch q)
theorem Iq (a:Str) (b:Int):decide ((Sum.inr a:Key)=Sum.inl b)=false:=decide_eq_false (fun q=>nomatch q)
noncomputable def bT (prog:Program) (w:World):PySem.KeyKind prog w Key where
 is:=q9
 hash:=Rx w
 inj:=fun v a b ha hb=>by
  rcases bY ha with ⟨i,t,rfl,rfl⟩ | ⟨x,t,rfl,rfl⟩
  ·rcases bY hb with ⟨j,u,rfl,e⟩ | ⟨y,u,rfl,e⟩
   ·injection e with e1 _;rw[e1]
   ·exact nomatch e
  ·rcases bY hb with ⟨j,u,rfl,e⟩ | ⟨y,u,rfl,e⟩
   ·exact nomatch e
   ·injection e with e1 _;rw[e1]
 byValue:=fun k v h=>by
  rcases bY h with ⟨i,t,rfl,rfl⟩ | ⟨x,t,rfl,rfl⟩<;>rfl
 pyHash:=fun hv h=>by
  rcases bY hv with ⟨i,t,rfl,rfl⟩ | ⟨x,t,rfl,rfl⟩
  ·exact wpAny_pyHash_int h
  ·exact wpAny_pyHash_str h
 eqBool:=fun hu hv h=>by
  rcases bY hu with ⟨i,t,rfl,rfl⟩ | ⟨x,t,rfl,rfl⟩
  ·rcases bY hv with ⟨j,u,rfl,rfl⟩ | ⟨y,u,rfl,rfl⟩
   ·rw[Im]at h;exact wpAny_eqBool_int h
   ·rw[Ip]at h;exact SeqAt.EqAt.int_str i t y u _ _ _ _ h
  ·rcases bY hv with ⟨j,u,rfl,rfl⟩ | ⟨y,u,rfl,rfl⟩
   ·rw[Iq]at h;exact SeqAt.EqAt.str_int x t j u _ _ _ _ h
   ·rw[Io]at h;exact wpAny_eqBool_str h
 «strs» :=fun k x t v h=>by
  rcases bY h with ⟨i,u,rfl,e⟩ | ⟨y,u,rfl,e⟩
  ·exact nomatch e
  ·injection e with e1 _
   subst e1
   cases v<;>rfl
theorem uS (prog:Program) (w:World) (i:Int) (t:Tok):(bT prog w).is (.inl i) (.int i t)=true:=zR i t
theorem uT (prog:Program) (w:World) (x:Str) (t:Tok):(bT prog w).is (.inr x) (.str x t)=true:=zS x t
end L2
namespace L2
open PySem PySem.Spec PyProof.Rows
inductive V where
 | ck | bl (b:Bool) | int (i:Int) | str (x:Str) | zT (b:Array UInt8) | Me (b:UInt64) | ref (a:Addr) | ty (n:String)
 deriving DecidableEq
def RelV:V->Value->Prop
 | .ck,u=>u=Value.none
 | .bl b,u=>u=Value.bool b
 | .int i,u=> ∃t,u=Value.int i t
 | .str x,u=> ∃t,u=Value.str x t
 | .zT b,u=> ∃t,u=Value.bytes b t
 | .Me b,u=> ∃t,u=Value.float b t
 | .ref a,u=>u=Value.ref a
 | .ty n,u=>u=Value.type n
abbrev Vals:List V->List Value->Prop:=Paired RelV
theorem Vals.length {xs:List V} {us:List Value} (r:Vals xs us):xs.length=us.length:=Paired.length r
theorem Vals.get: ∀{xs:List V} {us:List Value} {i:Nat} {x:V},Vals xs us->xs[i]? =some x-> ∃u,us[i]? =some u/\RelV x u
 | _,_,_,_, .nil,e=>by simp at e
 | _,_,0,_, .cons r _,e=>by simp at e;subst e;exact ⟨_,rfl,r⟩
 | _,_,i+1,x, .cons _ t,e=>by
  obtain ⟨u,h1,h2⟩:=Vals.get (i:=i) (x:=x) t (by simpa using e)
  exact ⟨u,by simpa using h1,h2⟩
theorem Vals.set {x:V} {u:Value} (r:RelV x u): ∀{xs:List V} {us:List Value} (i:Nat),Vals xs us->Vals (xs.set i x) (us.set i u)
 | _,_,_, .nil=> .nil
 | _,_,0, .cons _ t=> .cons r t
 | _,_,i+1, .cons q t=> .cons q (Vals.set r i t)
theorem Vals.append: ∀{xs ys:List V} {us ws:List Value},Vals xs us->Vals ys ws->Vals (xs++ys) (us++ws)
 | _,_,_,_, .nil,s=>s
 | _,_,_,_, .cons r t,s=> .cons r (Vals.append t s)
theorem Vals.take: ∀{xs:List V} {us:List Value} (n:Nat),Vals xs us->Vals (xs.take n) (us.take n)
 | _,_,0,_=> .nil
 | _,_,_+1, .nil=> .nil
 | _,_,n+1, .cons r t=> .cons r (Vals.take n t)
theorem Vals.drop: ∀{xs:List V} {us:List Value} (n:Nat),Vals xs us->Vals (xs.drop n) (us.drop n)
 | _,_,0,r=>r
 | _,_,_+1, .nil=> .nil
 | _,_,n+1, .cons _ t=>Vals.drop n t
def qw:Option V->Option Value->Prop
 | some v,some u=>RelV v u
 | none,none=>True
 | _,_=>False
def KV {κ:Type}:List (κ×V)->List (κ×Value)->Prop:=Paired fun (p:κ×V) (q:κ×Value)=>p.1=q.1/\RelV p.2 q.2
noncomputable def kV:Key->V
 | .inl i=> .int i
 | .inr x=> .str x
inductive HO where
  | lst (xs:List V)
  | tup (xs:List V)
  | dK (kvs:List (Key×V)) | dT (kvs:List (List Key×V))
  | set (S:Int->Bool) (n:Nat)
  | ins (C dx:Addr) (fs:List (Str×V))
  | own (x:Addr)
  | xd (fs:List (Str×V))
  | met (f x:Addr)
  | Ry (lo hi:Int)
  | BI (o:Obj) (u:HO)
  | Ir (ps:Array Value)
  | ext (φ:Heap->Prop)
abbrev Hp:=Addr->Option HO
noncomputable def upd (H:Hp) (a:Addr) (o:HO):Hp:=fun b=>if b=a then some o else H b
theorem ae {H:Hp} {a:Addr} {o:HO}:upd H a o a=some o:=by unfold upd;rw[if_pos rfl]
theorem aq {H:Hp} {a b:Addr} {o:HO} (h:b≠a):upd H a o b=H b:=by unfold upd;rw[if_neg h]
theorem yx {H:Hp} {a:Addr} {o u:HO}:upd (upd H a o) a u=upd H a u:=by
 funext b;unfold upd;split<;>rfl
theorem Mf {H:Hp} {a b:Addr} {o u:HO} (h:H a=some o) (h':H b=some u) (d:o≠u):a≠b:=by
 intro e;subst e;rw[h]at h';exact d (Option.some.inj h')
theorem ak {H:Hp} {a b:Addr} {o:HO} (h:H a=some o) (h':H b=none):a≠b:=by
 intro e;subst e;rw[h]at h';cases h'
section
variable (P:Program) (w:World)
def cW (H:Hp) (h:Heap) (a:Addr):HO->Prop
 | .lst xs=>xs.length<=sizeLine/\ ∃(aI:List Value) (n:Nat),Vals xs aI/\h.get? a=some { cls:= .type "list",data:= .seq aI.toArray n }
 | .tup xs=>xs.length<=sizeLine/\ ∃aI:List Value,Vals xs aI/\IsTup h a aI.toArray
 | .dK kvs=>kvs.length<=sizeLine/\(a==sysModules)=false/\ ∃vs,KV kvs vs/\h.DictOf (bT P w) a vs
 | .dT kvs=>kvs.length<=sizeLine/\(a==sysModules)=false/\ ∃xs:List (List Key×Addr×Value),
   Paired (fun (p:List Key×V) (q:List Key×Addr×Value)=>p.1=q.1/\H q.2.1=some (.tup (p.1.map kV))/\RelV p.2 q.2.2) kvs xs/\
   ∃o es ep,h.get? a=some o/\o.ExactDict/\o.data= .dict es ep/\es.toList=xs.map (entryOfKey (tupleKind (bT P w)))/\(xs.map (·.1)).Nodup
 | .set S n=>h.SetOf (intKind P w) a S n
 | .ins C dx fs=>H dx=some (.own a)/\fs.length<=1000/\dx≠a/\h.get? a=some (PySem.W.instObj C dx)/\
   ∃mA,h.Ns1 dx mA/\(∀f,qw (fs.lookup f) (mA f))/\PySem.Within mA (fs.map (·.1))
 | .own _=> ∃o,h.get? a=some o
 | .xd fs=> ∃mA,h.Ns1 a mA/\ ∀f,qw (fs.lookup f) (mA f)
 | .Ry lo hi=> ∃t u v,h.get? a=some { cls:= .type "range",data:= .fields #[.int lo t, .int hi u, .int 1 v] }
 | .BI o u=>h.get? a=some o/\cW H h a u
 | .Ir ps=>h.get? a=some { cls:= .none,data:= .fields ps }
 | .met f x=>h.get? a=some (PySem.W.methodObj (.ref f) (.ref x))
 | .ext φ=>φ h/\(∃o,h.get? a=some o)/\ ∀h1 h2:Heap,φ h1->(∀o,h1.get? a=some o->h2.get? a=some o)->φ h2
def kz (H:Hp) (h:Heap):Prop:= ∀a o,H a=some o->cW P w H h a o
end
section
variable {P:Program} {w:World} {H H':Hp} {h h':Heap} {a:Addr} {o:HO}
theorem cW.lt (x:cW P w H h a o):a<h.objs.size:=by
 cases o with
 | lst xs=>obtain ⟨_,_,_,_,e⟩:=x;exact Heap.lt_size e
 | tup xs=>obtain ⟨_,_,_,p⟩:=x;exact p.lt
 | dK kvs=>obtain ⟨_,_,_,_,o,_,_,e,_⟩:=x;exact Heap.lt_size e
 | dT kvs=>obtain ⟨_,_,_,_,o,_,_,e,_⟩:=x;exact Heap.lt_size e
 | set S n=>obtain ⟨o,_,_,_,e,_⟩:=x;exact Heap.lt_size e
 | ins C dx fs=>obtain ⟨_,_,_,e,_⟩:=x;exact Heap.lt_size e
 | own y=>obtain ⟨_,e⟩:=x;exact Heap.lt_size e
 | xd fs=>obtain ⟨_,⟨_,_,_,e,_⟩,_⟩:=x;exact Heap.lt_size e
 | Ry lo hi=>obtain ⟨_,_,_,e⟩:=x;exact Heap.lt_size e
 | BI ob u=>obtain ⟨e,_⟩:=x;exact Heap.lt_size e
 | Ir ps=>exact Heap.lt_size (show h.get? a=some _ from x)
 | met f y=>exact Heap.lt_size (show h.get? a=some _ from x)
 | ext φ=>obtain ⟨_,⟨_,e⟩,_⟩:=x;exact Heap.lt_size e
theorem Paired.Iu {α β:Type} {F G:α->β->Prop}: ∀{l₁:List α} {l₂:List β},Paired F l₁ l₂->(∀a b,F a b->G a b)->Paired G l₁ l₂
 | _,_, .nil,_=> .nil
 | _,_, .cons r t,f=> .cons (f _ _ r) (Paired.Iu t f)
theorem cW.uU (x:cW P w H h a o) (k: ∀b u,(b=a\/H b=some (.own a))->h.get? b=some u->h'.get? b=some u)
  (ho: ∀b,H b=some (.own a)->H' b=some (.own a)) (ht: ∀b xs,H b=some (.tup xs)->H' b=some (.tup xs)):cW P w H' h' a o:=by
 induction o with
 | lst xs=>obtain ⟨z,aI,n,r,e⟩:=x;exact ⟨z,aI,n,r,k _ _ (.inl rfl) e⟩
 | tup xs=>obtain ⟨z,aI,r,ob,e,c⟩:=x;exact ⟨z,aI,r,ob,k _ _ (.inl rfl) e,c⟩
 | dK kvs=>obtain ⟨z,y,vs,r,ob,es,ep,e,c⟩:=x;exact ⟨z,y,vs,r,ob,es,ep,k _ _ (.inl rfl) e,c⟩
 | dT kvs=>
  obtain ⟨z,y,xs,r,ob,es,ep,e,c⟩:=x
  exact ⟨z,y,xs,Paired.Iu r fun p q z=>⟨z.1,ht _ _ z.2.1,z.2.2⟩,ob,es,ep,k _ _ (.inl rfl) e,c⟩
 | set S n=>obtain ⟨ob,es,ep,t,e,c⟩:=x;exact ⟨ob,es,ep,t,k _ _ (.inl rfl) e,c⟩
 | ins C dx fs=>
  obtain ⟨d,z,ne,e,mA,⟨od,es,ep,e2,c⟩,r⟩:=x
  exact ⟨ho _ d,z,ne,k _ _ (.inl rfl) e,mA,⟨od,es,ep,k _ _ (.inr d) e2,c⟩,r⟩
 | own y=>obtain ⟨ob,e⟩:=x;exact ⟨ob,k _ _ (.inl rfl) e⟩
 | xd fs=>obtain ⟨mA,⟨od,es,ep,e,c⟩,r⟩:=x;exact ⟨mA,⟨od,es,ep,k _ _ (.inl rfl) e,c⟩,r⟩
 | Ry lo hi=>obtain ⟨t,u,v,e⟩:=x;exact ⟨t,u,v,k _ _ (.inl rfl) e⟩
 | BI ob u ih=>obtain ⟨e,q⟩:=x;exact ⟨k _ _ (.inl rfl) e,ih q⟩
 | Ir ps=>
  have e:h.get? a=some { cls:= .none,data:= .fields ps }:=x
  show h'.get? a=some { cls:= .none,data:= .fields ps }
  exact k a _ (.inl rfl) e
 | met f y=>
  have e:h.get? a=some (PySem.W.methodObj (.ref f) (.ref y)):=x
  show h'.get? a=some (PySem.W.methodObj (.ref f) (.ref y))
  exact k a _ (.inl rfl) e
 | ext φ=>obtain ⟨p,⟨o,e⟩,st⟩:=x;exact ⟨st _ _ p fun o q=>k _ _ (.inl rfl) q,⟨o,k _ _ (.inl rfl) e⟩,st⟩
theorem kz.lt (x:kz P w H h) (e:H a=some o):a<h.objs.size:=(x a o e).lt
theorem kz.fresh (x:kz P w H h) (e:h.objs.size<=a):H a=none:=by
 cases q:H a with
 | none=>rfl
 | some u=>exact absurd (Nat.lt_of_lt_of_le (x.lt q) e) (Nat.lt_irrefl _)
theorem kz.kept (x:kz P w H h) (k: ∀b u,h.get? b=some u->h'.get? b=some u):kz P w H h':=fun a o e=>
 (x a o e).uU (fun b u _ q=>k b u q) (fun _ q=>q) fun _ _ q=>q
theorem kz.laid (x:kz P w H h) (k: ∀b u,h.get? b=some u->h'.get? b=some u) (hp:h.objs.size<=a) (new:cW P w (upd H a o) h' a o):kz P w (upd H a o) h':=fun b u e=>by
 have hn:=x.fresh hp
 by_cases hb:b=a
 ·subst hb;rw[ae]at e;cases e;exact new
 ·rw[aq hb]at e
  exact (x b u e).uU (fun c v _ q=>k c v q) (fun c q=>by rw[aq (ak q hn)];exact q) fun c xs q=>by rw[aq (ak q hn)];exact q
end
def Rd (H:Hp) (a:Addr) (u:HO):Prop:=H a=some u\/ ∃o,H a=some (.BI o u)
theorem Rd.ok {P:Program} {w:World} {H:Hp} {h:Heap} {a:Addr} {u:HO} (r:Rd H a u) (x:kz P w H h):cW P w H h a u:=by
 rcases r with r | ⟨o,r⟩
 ·exact x a u r
 ·obtain ⟨_,q⟩:=x a _ r
  exact q
def Mg:Option HO->Prop
 | some (.lst _)=>True
 | some (.dK _)=>True
 | some (.dT _)=>True
 | some (.set _ _)=>True
 | some (.ins _ _ _)=>True
 | some (.ext _)=>True
 | _=>False
section
variable {P:Program} {w:World} {H:Hp} {h h':Heap} {x e:Addr} {o':HO}
theorem kz.write (ok:kz P w H h) (mu:Mg (H x)) (he:e=x\/H e=some (.own x)) (k: ∀b u,b≠e->h.get? b=some u->h'.get? b=some u) (LF: ∃u,h'.get? e=some u)
  (new:cW P w (upd H x o') h' x o'):kz P w (upd H x o') h':=fun b u q=>by
 have Mh: ∀c y,H c=some (.own y)->c≠x:=fun c y r z=>by subst z;rw[r]at mu;exact mu
 have Rz: ∀c xs,H c=some (.tup xs)->c≠x:=fun c xs r z=>by subst z;rw[r]at mu;exact mu
 by_cases hb:b=x
 ·subst hb;rw[ae]at q;cases q;exact new
 ·rw[aq hb]at q
  by_cases BJ:b=e
  ·have q':H b=some (.own x):=by
    rcases he with z | z
    ·exact absurd (BJ.trans z) hb
    ·rw[BJ];exact z
   rw[q]at q';cases q'
   obtain ⟨v,hv⟩:=LF
   exact ⟨v,by rw[BJ];exact hv⟩
  ·refine (ok b u q).uU (fun c v hc r=>k c v ?_ r) (fun c r=>by rw[aq (Mh c b r)];exact r) fun c xs r=>by rw[aq (Rz c xs r)];exact r
   rcases hc with rfl | hc
   ·exact BJ
   ·rintro rfl
    rcases he with z | z
    ·exact Mh c b hc z
    ·rw[hc]at z;cases z;exact hb rfl
end
structure Un (fs ex:List Addr) (H H':Hp) (h h':Heap):Prop where
 keep: ∀b o,h.get? b=some o->H b=none->b∉fs->b∉ex->h'.get? b=some o
 slot: ∀b o,h.get? b=some o->H b=none->b∈fs->b∉ex-> ∃sl,h'.get? b=some { o with slots:=sl }
 free: ∀b o,h.get? b=some o->H b=none->b∉ex->H' b=none
 there: ∀b o,h.get? b=some o->b∉ex-> ∃o',h'.get? b=some o'
 lV: ∀b xs,H b=some (.tup xs)->H' b=some (.tup xs)
 nY: ∀b o u,H b=some (.BI o u)->H' b=some (.BI o u)
 sY: ∀b ps,H b=some (.Ir ps)-> ∃more,H' b=some (.Ir (ps++more))
section
variable {fs fs' ex ex':List Addr} {H H1 H2:Hp} {h h1 h2 h':Heap} {a x e:Addr} {o:HO}
theorem Un.any (u:Un fs ex H H1 h h1) {b:Addr} {ob:Obj} (q:h.get? b=some ob) (n:H b=none) (hx:b∉ex): ∃sl,h1.get? b=some { ob with slots:=sl }:=by
 by_cases hb:b∈fs
 ·exact u.slot b ob q n hb hx
 ·exact ⟨ob.slots,u.keep b ob q n hb hx⟩
theorem Un.kept (k: ∀b u,h.get? b=some u->h'.get? b=some u):Un fs ex H H h h':=
 ⟨fun b ob q _ _ _=>k b ob q,fun b ob q _ _ _=>⟨ob.slots,k b ob q⟩,fun _ _ _ n _=>n,fun b ob q _=>⟨ob,k b ob q⟩,fun _ _ q=>q,fun _ _ _ q=>q,fun _ ps q=>⟨#[],by rw[q];simp⟩⟩
theorem Un.refl:Un fs ex H H h h:=Un.kept fun _ _ q=>q
theorem Un.laid (k: ∀b u,h.get? b=some u->h'.get? b=some u) (hp:h.objs.size<=a) (hn:H a=none):Un fs ex H (upd H a o) h h' where
 keep:=fun b u q _ _ _=>k b u q
 slot:=fun b u q _ _ _=>⟨u.slots,k b u q⟩
 free:=fun b u q n _=>by rw[aq (Nat.ne_of_lt (Nat.lt_of_lt_of_le (Heap.lt_size q) hp))];exact n
 there:=fun b u q _=>⟨u,k b u q⟩
 lV:=fun b xs q=>by rw[aq (ak q hn)];exact q
 nY:=fun b u xs q=>by rw[aq (ak q hn)];exact q
 sY:=fun b ps q=>⟨#[],by rw[aq (ak q hn),q];simp⟩
theorem Un.write (mu:Mg (H x)) (he:e=x\/H e=some (.own x)) (k: ∀b u,b≠e->h.get? b=some u->h'.get? b=some u) (LF: ∃u,h'.get? e=some u):Un fs ex H (upd H x o) h h':=by
 have hx: ∀b,H b=none->b≠x:=fun b n z=>by subst z;rw[n]at mu;exact mu
 have hb: ∀b,H b=none->b≠e:=fun b n z=>by
  subst z
  rcases he with r | r
  ·exact hx b n r
  ·rw[n]at r;cases r
 have hm: ∀b u,H b=some u-> ¬Mg (some u)->b≠x:=fun b u q nm z=>by subst z;rw[q]at mu;exact nm mu
 refine ⟨fun b u q n _ _=>k b u (hb b n) q,fun b u q n _ _=>⟨u.slots,k b u (hb b n) q⟩,fun b u q n _=>by rw[aq (hx b n)];exact n,fun b u q _=>?_,
  fun b xs q=>by rw[aq (hm b _ q fun z=>z)];exact q,fun b u xs q=>by rw[aq (hm b _ q fun z=>z)];exact q,fun b ps q=>⟨#[],by rw[aq (hm b _ q fun z=>z),q];simp⟩⟩
 by_cases BJ:b=e
 ·subst BJ;exact LF
 ·exact ⟨u,k b u BJ q⟩
end
noncomputable def PR (h:Heap) (H:Hp):List Addr:=(List.range h.objs.size).filter fun a=>(H a).isSome
noncomputable def sZ (h:Heap) (H:Hp):Heap:=PySem.W.hideAll h (PR h H)
theorem zU (h:Heap) (H:Hp):(sZ h H).objs.size=h.objs.size:=PySem.W.hideAll_size _ _
theorem BY {h:Heap} {H:Hp} {b:Addr} {o:Obj} (e:h.get? b=some o) (n:H b=none):(sZ h H).get? b=some o:=
 PySem.W.hideAll_get _ e fun hm=>by
  have q:(H b).isSome=true:=(List.mem_filter.mp hm).2
  rw[n]at q;simp at q
theorem ED {h:Heap} {H:Hp} {b:Addr} {o:Obj} (e:(sZ h H).get? b=some o):h.get? b=some o/\H b=none:=by
 have e':h.get? b=some o:=PySem.W.of_hideAll (PR h H) e
 refine ⟨e',?_⟩
 cases q:H b with
 | none=>rfl
 | some x=>
  have hm:b∈PR h H:=List.mem_filter.mpr ⟨List.mem_range.mpr (Heap.lt_size e'),by simp[q]⟩
  have z:(sZ h H).get? b=none:=PySem.W.hideAll_none (PR h H) hm
  rw[z]at e;cases e
noncomputable def EE (g h:Heap) (L:Addr):List (Addr×Obj):=(List.range h.objs.size).filterMap fun a=>if a=L\/(g.get? a).isSome=true then none else (h.get? a).map fun o=>(a,o)
noncomputable def rest (g h:Heap) (L d:Addr):List (Addr×Obj):=(EE g h L).filter fun p=>decide (p.1≠d)
end L2
namespace L2
open PySem PySem.Spec PyProof.Rows
structure Mod (K:PySem.W.Frag) (mg:Str->Option Value) (base:Heap):Prop where
 RA:K.In base
 glob:base.Ns mainGlobals mg
 blt: ∃mb,base.Ns builtinsNs mb/\ ∀x:Str,x≠"__name__"->mb x=bootBuiltins x
 nolimit:base.NoLimit
structure Cx where
 prog:Program
 w:World
 K:PySem.W.Frag
 mg:Str->Option Value
 base:Heap
 A:Around
 N:List Str
 s₀:Shared
 H₀:Hp
 env:Env
 outer:List Env
 stack:List Env
 ex:List Addr
 fn:Str->Bool
 calm:Bool
 pn:List (Addr×Obj)
 xe:Value->Shared->Prop
noncomputable def yy (l:List Env):List Addr:=l.filterMap (·.frame)
noncomputable abbrev Cx.fs (X:Cx):List Addr:=yy X.outer
def Mi (sc:Scope) (x:Str):Prop:=sc.names.lookup x=some .local\/sc.names.lookup x=some .cell\/sc.names.lookup x=some .free
def Loc (sc:Scope) (x:Str):Prop:=sc.names.lookup x=some .local\/sc.names.lookup x=some .cell
def Look (env:Env) (h:Heap) (m:Str->Option Value) (x:Str) (u:Value):Prop:=
 (env.kindOf x=some .local/\m x=some u)\/((env.kindOf x=some .cell\/env.kindOf x=some .free)/\ ∃c,env.cells.lookup x=some c/\h.IsCell c (some u))
structure Cx.Ok (X:Cx):Prop where
 mod:Mod X.K X.mg X.base
 kind:X.env.scope.kind= .function
 glob:X.env.globals=mainGlobals
 blt:X.env.builtins=builtinsNs
 above:X.s₀.heap.objs.size<=X.env.locals
 inj: ∀x y c,X.env.cells.lookup x=some c->X.env.cells.lookup y=some c->x=y
 has: ∀x,(X.env.kindOf x=some .cell\/X.env.kindOf x=some .free)-> ∃c,X.env.cells.lookup x=some c
 Mj: ∀x c,X.fn x=true->X.env.cells.lookup x=some c->X.s₀.heap.objs.size<=c
 hd:X.calm=true->X.A.handled=none
 frames:X.A.frames=some X.stack
 PU:X.stack=X.outer\/(X.stack=X.env::X.outer/\X.env.frame=some X.env.locals)
 exf: ∀b∈X.ex,b≠X.env.locals/\ ∀x c,X.env.cells.lookup x=some c->c≠b
 bs: ∀b o,X.base.get? b=some o->X.s₀.heap.get? b=some o/\X.H₀ b=none
 Gy:X.base.objs.size<=X.s₀.heap.objs.size
 BZ: ∀b o,X.base.get? b=some o->b∉X.ex
 EF: ∀b∈X.ex,b∉X.fs
 nZ:X.s₀.heap.FunFrames X.base X.outer
 LG: ∀b∈X.fs,X.H₀ b=none
structure Inv (X:Cx) (pins:List (Addr×Obj)) (σ:List (Option V)) (H:Hp) (s:Shared):Prop where
 ok:X.Ok
 os:s.os=X.s₀.os
 bare:AllBare s.gens
 base:Un X.fs X.ex X.H₀ H X.s₀.heap s.heap
 loc: ∃m,s.heap.Ns X.env.locals m/\ ∀(i:Nat) (x:Str) (v:V),X.N[i]? =some x->σ[i]? =some (some v)->Mi X.env.scope x-> ∃u,RelV v u/\Look X.env s.heap m x u
 cell: ∀x c,X.env.cells.lookup x=some c-> ∃v,s.heap.IsCell c v
 free:H X.env.locals=none
 i0: ∀x c,X.env.cells.lookup x=some c->H c=none
 pin: ∀p∈X.pn++pins,s.heap.get? p.1=some p.2/\H p.1=none/\p.1≠X.env.locals/\p.1∉X.fs/\ ∀v,p.2.data≠ .cell v
 bu:kz X.prog X.w H s.heap
 len:σ.length=X.N.length
section
variable {X:Cx} {pins:List (Addr×Obj)} {σ:List (Option V)} {H H':Hp} {s:Shared} {h':Heap}
theorem Cx.Ok.RB (ok:X.Ok) {b:Addr} {o:Obj} (e:X.base.get? b=some o):b∉X.fs:=fun hb=>by
 have:=(ok.nZ.mem hb).1
 rw[e]at this;cases this
theorem Inv.bs (I:Inv X pins σ H s): ∀b o,X.base.get? b=some o->s.heap.get? b=some o/\H b=none:=fun b o e=>
 ⟨I.base.keep b o (I.ok.bs b o e).1 (I.ok.bs b o e).2 (I.ok.RB e) (I.ok.BZ b o e),I.base.free b o (I.ok.bs b o e).1 (I.ok.bs b o e).2 (I.ok.BZ b o e)⟩
theorem Inv.bk (I:Inv X pins σ H s): ∀b o,X.base.get? b=some o->s.heap.get? b=some o:=fun b o e=>(I.bs b o e).1
theorem Inv.mod (I:Inv X pins σ H s):Mod X.K X.mg X.base:=I.ok.mod
theorem Inv.LH (I:Inv X pins σ H s):X.K.In s.heap:=I.ok.mod.RA.keeps I.bk
theorem Inv.lt (I:Inv X pins σ H s):X.env.locals<s.heap.objs.size:=let ⟨_,hn,_⟩:=I.loc;hn.lt
theorem Inv.sz (I:Inv X pins σ H s):X.s₀.heap.objs.size<=s.heap.objs.size:=Nat.le_trans I.ok.above (Nat.le_of_lt I.lt)
theorem Inv.Iv (I:Inv X pins σ H s) {a:Addr} (h:s.heap.objs.size<=a):a∉X.fs:=fun hb=>by
 obtain ⟨_,o,ho,_⟩:=I.ok.nZ.mem hb
 exact absurd (Nat.lt_of_lt_of_le (Heap.lt_size ho) (Nat.le_trans I.sz h)) (Nat.lt_irrefl _)
theorem Inv.Iw (I:Inv X pins σ H s): ∀x c,X.env.cells.lookup x=some c->c≠X.env.locals:=fun x c e z=>by
 obtain ⟨v,o,ho,hd⟩:=I.cell x c e
 obtain ⟨m,⟨o',es,ep,jN,Iy,_⟩,_⟩:=I.loc
 rw[z,jN]at ho;cases ho;rw[Iy]at hd;cases hd
theorem Inv.nZ (I:Inv X pins σ H s):s.heap.FunFrames X.base X.outer:=by
 have all: ∀(l:List Env),(∀b∈yy l,b∈X.fs)->X.s₀.heap.FunFrames X.base l->s.heap.FunFrames X.base l:=by
  intro l
  induction l with
  | nil=>intro _ _;trivial
  | cons env r ih=>
   intro hs hl
   obtain ⟨hk,⟨L,o,hf,hn,ho,hd⟩,hr⟩:=hl
   have hL:L∈X.fs:=hs L (by unfold yy;rw[List.filterMap_cons,hf];exact List.mem_cons_self)
   obtain ⟨sl,e⟩:=I.base.slot L o ho (I.ok.LG L hL) hL fun z=>I.ok.EF L z hL
   exact ⟨hk,⟨L,_,hf,hn,e,hd⟩,ih (fun b hb=>hs b (by unfold yy;rw[List.filterMap_cons,hf];exact List.mem_cons_of_mem _ hb)) hr⟩
 exact all X.outer (fun _ hb=>hb) I.ok.nZ
theorem Inv.stack (I:Inv X pins σ H s):s.heap.FunFrames X.base X.stack:=by
 rcases I.ok.PU with e | ⟨e,hf⟩
 ·rw[e];exact I.nZ
 ·rw[e]
  obtain ⟨m,hn,_⟩:=I.loc
  refine .cons (by rw[I.ok.kind];decide) hf hn ?_ I.nZ
  exact Heap.get?_none_of_le (Nat.le_trans I.ok.Gy I.ok.above)
theorem Inv.n0 (I:Inv X pins σ H s): ∀b∈yy X.stack,b∈X.env.locals::X.fs:=fun b hb=>by
 rcases I.ok.PU with e | ⟨e,hf⟩
 ·rw[e]at hb;exact List.mem_cons_of_mem _ hb
 ·rw[e]at hb
  unfold yy at hb
  rw[List.filterMap_cons,hf]at hb
  exact hb
theorem Inv.yA (I:Inv X pins σ H s): ∀b∈yy X.stack,H b=none:=fun b hb=>by
 rcases List.mem_cons.mp (I.n0 b hb) with e | hb
 ·rw[e];exact I.free
 ·obtain ⟨_,o,ho,_⟩:=I.ok.nZ.mem hb
  exact I.base.free b o ho (I.ok.LG b hb) fun z=>I.ok.EF b z hb
theorem Inv.step {g':Array GenState} {t':Nat} {d':Drawn} {ch:List Addr} (I:Inv X pins σ H s)
  (Ed: ∀b∈ch,(b∈X.ex\/X.s₀.heap.objs.size<=b)/\b≠X.env.locals/\(∀x c,X.env.cells.lookup x=some c->c≠b)/\ ∀p∈X.pn++pins,p.1≠b)
  (keep: ∀b o,b≠X.env.locals->b∉X.fs->b∉ch->s.heap.get? b=some o->H b=none->h'.get? b=some o)
  (slot: ∀b o,b≠X.env.locals->b∈X.fs->b∉ch->s.heap.get? b=some o->H b=none-> ∃sl,h'.get? b=some { o with slots:=sl }) (free: ∀b o,b∉ch->s.heap.get? b=some o->H b=none->H' b=none)
  (there: ∀b o,b∉ch->s.heap.get? b=some o-> ∃o',h'.get? b=some o')
  (lV: ∀b xs,H b=some (.tup xs)->H' b=some (.tup xs)) (nY: ∀b o u,H b=some (.BI o u)->H' b=some (.BI o u)) (sY: ∀b ps,H b=some (.Ir ps)-> ∃more,H' b=some (.Ir (ps++more)))
  (ns: ∀m,s.heap.Ns X.env.locals m->h'.Ns X.env.locals m) (bu:kz X.prog X.w H' h') (hg:AllBare g'):
  Inv X pins σ H' { s with heap:=h',gens:=g',drawn:=d',toks:=t' }:=by
 have neL: ∀b o,X.s₀.heap.get? b=some o->b≠X.env.locals:=fun b o e=>Nat.ne_of_lt (Nat.lt_of_lt_of_le (Heap.lt_size e) I.ok.above)
 have Iz: ∀b o,X.s₀.heap.get? b=some o->b∉X.ex->b∉ch:=fun b o e hx hb=>by
  rcases (Ed b hb).1 with z | z
  ·exact hx z
  ·exact absurd (Nat.lt_of_lt_of_le (Heap.lt_size e) z) (Nat.lt_irrefl _)
 have cellK: ∀x c,X.env.cells.lookup x=some c-> ∀v,s.heap.IsCell c v->h'.IsCell c v:=fun x c e v ⟨o,ho,hd⟩=>by
  have Ml:c∉ch:=fun z=>(Ed c z).2.2.1 x c e rfl
  by_cases hc:c∈X.fs
  ·obtain ⟨sl,q⟩:=slot c o (I.Iw x c e) hc Ml ho (I.i0 x c e)
   exact ⟨_,q,hd⟩
  ·exact ⟨o,keep c o (I.Iw x c e) hc Ml ho (I.i0 x c e),hd⟩
 refine ⟨I.ok,I.os,hg,⟨fun b o e n hb hx=>?_,fun b o e n hb hx=>?_,fun b o e n hx=>?_,fun b o e hx=>?_,fun b xs e=>lV b xs (I.base.lV b xs e),fun b o xs e=>nY b o xs (I.base.nY b o xs e),fun b ps e=>?_⟩,?_,fun x c e=>?_,?_,fun x c e=>?_,fun p hp=>?_,bu,I.len⟩
 ·exact keep b o (neL b o e) hb (Iz b o e hx) (I.base.keep b o e n hb hx) (I.base.free b o e n hx)
 ·obtain ⟨sl,e1⟩:=I.base.slot b o e n hb hx
  obtain ⟨sl',e2⟩:=slot b _ (neL b o e) hb (Iz b o e hx) e1 (I.base.free b o e n hx)
  exact ⟨sl',e2⟩
 ·obtain ⟨o',e1⟩:=I.base.there b o e hx
  exact free b o' (Iz b o e hx) e1 (I.base.free b o e n hx)
 ·obtain ⟨o',e1⟩:=I.base.there b o e hx
  exact there b o' (Iz b o e hx) e1
 ·obtain ⟨m1,e1⟩:=I.base.sY b ps e
  obtain ⟨m2,e2⟩:=sY b _ e1
  exact ⟨m1++m2,by rw[e2,Array.append_assoc]⟩
 ·obtain ⟨m,hn,hl⟩:=I.loc
  refine ⟨m,ns m hn,fun i x v e1 e2 e3=>?_⟩
  obtain ⟨u,r,l⟩:=hl i x v e1 e2 e3
  refine ⟨u,r,?_⟩
  rcases l with l | ⟨k,c,e,z⟩
  ·exact .inl l
  ·exact .inr ⟨k,c,e,cellK x c e _ z⟩
 ·obtain ⟨v,z⟩:=I.cell x c e
  exact ⟨v,cellK x c e v z⟩
 ·obtain ⟨m,⟨o,_,_,ho,_⟩,_⟩:=I.loc
  exact free _ o (fun z=>(Ed _ z).2.1 rfl) ho I.free
 ·obtain ⟨v,o,ho,hd⟩:=I.cell x c e
  exact free c o (fun z=>(Ed c z).2.2.1 x c e rfl) ho (I.i0 x c e)
 ·obtain ⟨e,n,ne,nf,d⟩:=I.pin p hp
  have Ml:p.1∉ch:=fun z=>(Ed p.1 z).2.2.2 p hp rfl
  exact ⟨keep p.1 p.2 ne nf Ml e n,free p.1 p.2 Ml e n,ne,nf,d⟩
theorem Inv.un {t':Nat} (I:Inv X pins σ H s) (u:Un X.fs [] H H' s.heap h') (bu:kz X.prog X.w H' h'):Inv X pins σ H' { s with heap:=h',toks:=t' }:=by
 obtain ⟨m,⟨o,es,ep,ho,r⟩,_⟩:=id I.loc
 obtain ⟨sl,hL⟩:=u.any ho I.free (by simp)
 exact I.step (g':=s.gens) (d':=s.drawn) (ch:=[]) (fun _ z=>nomatch z) (fun b o _ hb _ e n=>u.keep b o e n hb (by simp)) (fun b o _ hb _ e n=>u.slot b o e n hb (by simp)) (fun b o _ e n=>u.free b o e n (by simp)) (fun b o _ e=>u.there b o e (by simp)) u.lV u.nY u.sY (fun m' hm=>by
  obtain ⟨o',RC,RD,jN,r'⟩:=hm
  rw[ho]at jN;cases jN
  exact ⟨_,RC,RD,hL,r'⟩) bu I.bare
theorem Inv.call {g':Array GenState} {t':Nat} {d':Drawn} {ch:List Addr} (I:Inv X pins σ H s) (u:Un (yy X.stack) ch H H' s.heap h') (bu:kz X.prog X.w H' h') (hg:AllBare g')
  (Ed: ∀b∈ch,(b∈X.ex\/X.s₀.heap.objs.size<=b)/\b≠X.env.locals/\(∀x c,X.env.cells.lookup x=some c->c≠b)/\ ∀p∈X.pn++pins,p.1≠b):
  Inv X pins σ H' { s with heap:=h',gens:=g',drawn:=d',toks:=t' }:=by
 obtain ⟨m,⟨o,es,ep,ho,r⟩,_⟩:=id I.loc
 obtain ⟨sl,hL⟩:=u.any ho I.free fun z=>(Ed _ z).2.1 rfl
 exact I.step (ch:=ch) Ed (fun b o hL hb hc e n=>u.keep b o e n (fun z=>(List.mem_cons.mp (I.n0 b z)).elim hL hb) hc) (fun b o _ _ hc e n=>u.any e n hc) (fun b o hc e n=>u.free b o e n hc) (fun b o hc e=>u.there b o e hc) u.lV u.nY u.sY (fun m' hm=>by
  obtain ⟨o',RC,RD,jN,r'⟩:=hm
  rw[ho]at jN;cases jN
  exact ⟨_,RC,RD,hL,r'⟩) bu hg
theorem Inv.turned {t':Nat} {it:Addr} (I:Inv X pins σ H s) (k: ∀b o,b≠it->s.heap.get? b=some o->h'.get? b=some o) (hn:H it=none) (hL:it≠X.env.locals)
  (h1:it∈X.ex\/X.s₀.heap.objs.size<=it) (h2: ∀x c,X.env.cells.lookup x=some c->c≠it) (h3: ∀p∈X.pn++pins,p.1≠it):Inv X pins σ H { s with heap:=h',toks:=t' }:=by
 have Gz: ∀b u,H b=some u->b≠it:=fun b u e z=>by rw[z,hn]at e;cases e
 refine I.step (g':=s.gens) (d':=s.drawn) (ch:=[it]) (fun b hb=>?_) (fun b o _ _ hc e _=>k b o (fun z=>hc (by simp[z])) e) (fun b o _ _ hc e _=>⟨o.slots,k b o (fun z=>hc (by simp[z])) e⟩) (fun _ _ _ _ n=>n)
  (fun b o hc e=>⟨o,k b o (fun z=>hc (by simp[z])) e⟩) (fun _ _ e=>e) (fun _ _ _ e=>e) (fun b ps e=>⟨#[],by rw[e];simp⟩) (fun m hm=>?_) (fun b u e=>?_) I.bare
 ·have e:b=it:=by simpa using hb
  subst e
  exact ⟨h1,hL,h2,h3⟩
 ·obtain ⟨o,es,ep,ho,r⟩:=hm
  exact ⟨o,es,ep,k _ o (Ne.symm hL) ho,r⟩
 ·refine (I.bu b u e).uU (fun c v hc q=>k c v ?_ q) (fun _ q=>q) fun _ _ q=>q
  rcases hc with z | z
  ·rw[z];exact Gz b u e
  ·exact Gz c _ z
theorem Inv.tok (I:Inv X pins σ H s) (t:Nat):Inv X pins σ H { s with toks:=t }:=I.un (h':=s.heap) (t':=t) Un.refl I.bu
theorem Inv.kept {t':Nat} (I:Inv X pins σ H s) (k: ∀b u,s.heap.get? b=some u->h'.get? b=some u):Inv X pins σ H { s with heap:=h',toks:=t' }:=I.un (Un.kept k) (I.bu.kept k)
theorem Inv.laid {a:Addr} {o:HO} {t':Nat} (I:Inv X pins σ H s) (k: ∀b u,s.heap.get? b=some u->h'.get? b=some u) (hp:s.heap.objs.size<=a) (new:cW X.prog X.w (upd H a o) h' a o):
  Inv X pins σ (upd H a o) { s with heap:=h',toks:=t' }:=I.un (Un.laid k hp (I.bu.fresh hp)) (I.bu.laid k hp new)
theorem Inv.write {x e:Addr} {o:HO} {t':Nat} (I:Inv X pins σ H s) (mu:Mg (H x)) (he:e=x\/H e=some (.own x)) (k: ∀b u,b≠e->s.heap.get? b=some u->h'.get? b=some u) (LF: ∃u,h'.get? e=some u)
  (new:cW X.prog X.w (upd H x o) h' x o):Inv X pins σ (upd H x o) { s with heap:=h',toks:=t' }:=I.un (Un.write mu he k LF) (I.bu.write mu he k LF new)
theorem Inv.weak {σ':List (Option V)} (I:Inv X pins σ H s) (hl:σ'.length=σ.length) (w: ∀(i:Nat) v,σ'[i]? =some (some v)->σ[i]? =some (some v)):Inv X pins σ' H s:=
 ⟨I.ok,I.os,I.bare,I.base,let ⟨m,hn,uN⟩:=I.loc;⟨m,hn,fun i x v e1 e2 e3=>uN i x v e1 (w i v e2) e3⟩,I.cell,I.free,I.i0,I.pin,I.bu,hl.trans I.len⟩
theorem Inv.kB {yB:List (Addr×Obj)} (I:Inv X pins σ H s) (h: ∀p∈yB,s.heap.get? p.1=some p.2/\H p.1=none/\p.1≠X.env.locals/\p.1∉X.fs/\ ∀v,p.2.data≠ .cell v):Inv X yB σ H s:=
 ⟨I.ok,I.os,I.bare,I.base,I.loc,I.cell,I.free,I.i0,fun p hp=>(List.mem_append.mp hp).elim (fun z=>I.pin p (List.mem_append_left _ z)) (h p),I.bu,I.len⟩
theorem uV {N:List Str} (hN:N.Nodup) {i j:Nat} {x:Str} (a:N[i]? =some x) (b:N[j]? =some x):i=j:=by
 obtain ⟨h1,e1⟩:=List.getElem?_eq_some_iff.mp a
 obtain ⟨h2,e2⟩:=List.getElem?_eq_some_iff.mp b
 exact (List.getElem_inj hN).mp (e1.trans e2.symm)
theorem zV {M:Model} {A:Around} {E:Value->Shared->Prop} {i:Nat} {x:Str} {v:V} {u:Value} {Q:Unit->Shared->Prop} (I:Inv X pins σ H s) (hN:X.N.Nodup) (hi:X.N[i]? =some x) (hx:Loc X.env.scope x) (r:RelV v u)
  (h: ∀s',Inv X pins (σ.set i (some v)) H s'->(∃a,Heap.SameBut a s.heap s'.heap/\(a=X.env.locals\/X.env.cells.lookup x=some a))->Q () s') (hf:X.fn x=true\/X.env.scope.names.lookup x=some .local:=by first | exact .inl rfl | exact .inr rfl | assumption):wpAny M A (storeName X.env x u) Q E s:=by
 obtain ⟨m,hn,hl⟩:=id I.loc
 have RE:(X.env.scope.kind== .class||(X.env.scope.kind== .module&&X.env.locals != X.env.globals))=false:=by rw[I.ok.kind];rfl
 have hiσ:i<σ.length:=by rw[I.len];exact (List.getElem?_eq_some_iff.mp hi).1
 have Iw:=I.Iw
 have tracked: ∀{a:Addr} {h':Heap},(∃o,s.heap.get? a=some o/\H a=none)->Heap.SameBut a s.heap h'->kz X.prog X.w H h':=fun {a h'} ha hs b ob e=>by
  obtain ⟨_,_,GA⟩:=ha
  refine (I.bu b ob e).uU (fun c w' hc q=>(hs.2 c ?_).trans q) (fun _ q=>q) fun _ _ q=>q
  rintro rfl
  rcases hc with rfl | hc
  ·rw[GA]at e;cases e
  ·rw[GA]at hc;cases hc
 rcases hx with hk | hk
 ·refine wpAny_storeName_local hk hn (fun h' hn' hs=>?_) RE
  obtain ⟨oL,_,_,BK,_⟩:=id hn
  refine h _ ⟨I.ok,I.os,I.bare,⟨fun b o e n hb hx=>?_,fun b o e n hb hx=>?_,I.base.free,fun b o e hx=>?_,I.base.lV,I.base.nY,I.base.sY⟩,⟨_,hn',fun j y v' e1 e2 e3=>?_⟩,fun y c e=>?_,I.free,I.i0,fun p hp=>?_,tracked ⟨oL,BK,I.free⟩ hs,by simpa using I.len⟩ ⟨_,hs, .inl rfl⟩
  ·exact (hs.2 b (Nat.ne_of_lt (Nat.lt_of_lt_of_le (Heap.lt_size e) I.ok.above))).trans (I.base.keep b o e n hb hx)
  ·obtain ⟨sl,e1⟩:=I.base.slot b o e n hb hx
   exact ⟨sl,(hs.2 b (Nat.ne_of_lt (Nat.lt_of_lt_of_le (Heap.lt_size e) I.ok.above))).trans e1⟩
  ·obtain ⟨o',e1⟩:=I.base.there b o e hx
   exact ⟨o',(hs.2 b (Nat.ne_of_lt (Nat.lt_of_lt_of_le (Heap.lt_size e) I.ok.above))).trans e1⟩
  ·by_cases hj:j=i
   ·subst hj
    rw[hi]at e1;cases e1
    rw[List.getElem?_set_self hiσ]at e2
    cases e2
    exact ⟨u,r, .inl ⟨hk,by simp⟩⟩
   ·rw[List.getElem?_set_ne (Ne.symm hj)]at e2
    obtain ⟨u',r',q⟩:=hl j y v' e1 e2 e3
    refine ⟨u',r',?_⟩
    rcases q with ⟨k,e⟩ | ⟨k,c,e,z⟩
    ·refine .inl ⟨k,?_⟩
     have:y≠x:=fun e=>hj (uV hN e1 (e▸hi))
     simp[this,e]
    ·exact .inr ⟨k,c,e,z.sameBut hs (Iw y c e)⟩
  ·obtain ⟨w',z⟩:=I.cell y c e
   exact ⟨w',z.sameBut hs (Iw y c e)⟩
  ·obtain ⟨e,n,ne,nf,d⟩:=I.pin p hp
   exact ⟨(hs.2 p.1 ne).trans e,n,ne,nf,d⟩
 ·have RF:X.fn x=true:=by
   rcases hf with z | z
   ·exact z
   ·rw[z]at hk;cases hk
  obtain ⟨c,hc⟩:=I.ok.has x (.inl hk)
  obtain ⟨w',z⟩:=I.cell x c hc
  refine wpAny_storeName_cell I.ok.kind hk hc z (fun h' zW hs=>?_)
  obtain ⟨oc,hoc,RG⟩:=id z
  refine h { s with heap:=h' } ⟨I.ok,I.os,I.bare,⟨fun b o e n hb hx=>?_,fun b o e n hb hx=>?_,I.base.free,fun b o e hx=>?_,I.base.lV,I.base.nY,I.base.sY⟩,⟨m,hn.sameBut hs (Ne.symm (Iw x c hc)),fun j y v' e1 e2 e3=>?_⟩,fun y c' e=>?_,I.free,I.i0,fun p hp=>?_,tracked ⟨oc,hoc,I.i0 x c hc⟩ hs,by simpa using I.len⟩ ⟨c,hs, .inr hc⟩
  ·exact (hs.2 b (Nat.ne_of_lt (Nat.lt_of_lt_of_le (Heap.lt_size e) (I.ok.Mj x c RF hc)))).trans (I.base.keep b o e n hb hx)
  ·obtain ⟨sl,e1⟩:=I.base.slot b o e n hb hx
   exact ⟨sl,(hs.2 b (Nat.ne_of_lt (Nat.lt_of_lt_of_le (Heap.lt_size e) (I.ok.Mj x c RF hc)))).trans e1⟩
  ·obtain ⟨o',e1⟩:=I.base.there b o e hx
   exact ⟨o',(hs.2 b (Nat.ne_of_lt (Nat.lt_of_lt_of_le (Heap.lt_size e) (I.ok.Mj x c RF hc)))).trans e1⟩
  ·by_cases hj:j=i
   ·subst hj
    rw[hi]at e1;cases e1
    rw[List.getElem?_set_self hiσ]at e2
    cases e2
    exact ⟨u,r, .inr ⟨.inl hk,c,hc,zW⟩⟩
   ·rw[List.getElem?_set_ne (Ne.symm hj)]at e2
    obtain ⟨u',r',q⟩:=hl j y v' e1 e2 e3
    refine ⟨u',r',?_⟩
    rcases q with q | ⟨k,c',e,z'⟩
    ·exact .inl q
    ·refine .inr ⟨k,c',e,z'.sameBut hs ?_⟩
     rintro rfl
     exact hj (uV hN e1 (I.ok.inj _ _ _ e hc▸hi))
  ·by_cases hcc:c'=c
   ·subst hcc;exact ⟨_,zW⟩
   ·obtain ⟨w2,z2⟩:=I.cell y c' e
    exact ⟨w2,z2.sameBut hs hcc⟩
  ·obtain ⟨e,n,ne,nf,d⟩:=I.pin p hp
   refine ⟨(hs.2 p.1 ?_).trans e,n,ne,nf,d⟩
   intro q
   rw[q,hoc]at e
   have q':oc=p.2:=Option.some.inj e
   exact d w' (by rw[<-q'];exact RG)
theorem gT {M:Model} {A:Around} {E:Value->Shared->Prop} {i:Nat} {x:Str} {v:V} {u:Value} {Q:Unit->Shared->Prop} (I:Inv X pins σ H s) (hN:X.N.Nodup) (hi:X.N[i]? =some x) (hx:Loc X.env.scope x) (r:RelV v u)
  (h: ∀s',Inv X pins (σ.set i (some v)) H s'->Q () s') (hf:X.fn x=true\/X.env.scope.names.lookup x=some .local:=by first | exact .inl rfl | exact .inr rfl | assumption):wpAny M A (storeName X.env x u) Q E s:=
 zV I hN hi hx r (fun s' I' _=>h s' I') hf
theorem Inv.Mm {s':Shared} {ch:List Addr} (I:Inv X pins σ H s) (ho:s'.os=s.os) (u:Un (yy X.stack) ch H H' s.heap s'.heap) (bu:kz X.prog X.w H' s'.heap) (hg:AllBare s'.gens)
  (Ed: ∀b∈ch,(b∈X.ex\/X.s₀.heap.objs.size<=b)/\b≠X.env.locals/\(∀x c,X.env.cells.lookup x=some c->c≠b)/\ ∀p∈X.pn++pins,p.1≠b):Inv X pins σ H' s':=by
 obtain ⟨h',g',d',t',o'⟩:=s'
 have e:o'=s.os:=ho
 subst e
 exact I.call (g':=g') (t':=t') (d':=d') u bu hg Ed
end
abbrev XK:=Value->Option Addr->Hp->Prop
abbrev St:=List (Option V)
abbrev VK:=V->Hp->Prop
abbrev TE:=St->Hp->VK->Prop
abbrev TT:=St->Hp->(Bool->Hp->Prop)->Prop
abbrev TA:=St->Hp->(List V->Hp->Prop)->Prop
structure Ends where
 nx:St->Hp->Prop
 rt:VK
 bk:St->Hp->Prop:=fun _ _=>False
 ct:St->Hp->Prop:=fun _ _=>False
abbrev TS:=Ends->St->Hp->Prop
def EP (X:Cx) (pins:List (Addr×Obj)) (σ:St) (Q:VK) (u:Value) (s':Shared):Prop:= ∃v H',Inv X pins σ H' s'/\RelV v u/\Q v H'
def TP (X:Cx) (pins:List (Addr×Obj)) (σ:St) (Q:Bool->Hp->Prop) (b:Bool) (s':Shared):Prop:= ∃H',Inv X pins σ H' s'/\Q b H'
def AP (X:Cx) (pins:List (Addr×Obj)) (σ:St) (Q:List V->Hp->Prop) (us:List Value) (s':Shared):Prop:= ∃vs H',Inv X pins σ H' s'/\Vals vs us/\Q vs H'
def SP (X:Cx) (pins:List (Addr×Obj)) (D:Ends) (f:Flow) (s':Shared):Prop:=
 match f with
 | .next=> ∃σ' H',Inv X pins σ' H' s'/\D.nx σ' H'
 | .brk=> ∃σ' H',Inv X pins σ' H' s'/\D.bk σ' H'
 | .cont=> ∃σ' H',Inv X pins σ' H' s'/\D.ct σ' H'
 | .ret u=> ∃v σ' H',Inv X pins σ' H' s'/\RelV v u/\D.rt v H'
def PE (X:Cx) (e:Expr) (t:TE):Prop:=
 ∀(pins:List (Addr×Obj)) (s:Shared) (σ:St) (H:Hp) (Q:VK),Inv X pins σ H s->t σ H Q->wpAny (model X.prog X.w) X.A (eval e X.env) (EP X pins σ Q) X.xe s
def PT (X:Cx) (e:Expr) (t:TT):Prop:=
 ∀(pins:List (Addr×Obj)) (s:Shared) (σ:St) (H:Hp) (Q:Bool->Hp->Prop),Inv X pins σ H s->t σ H Q->wpAny (model X.prog X.w) X.A (isTrue e X.env (eval e X.env)) (TP X pins σ Q) X.xe s
def PW (X:Cx) (e:Expr) (t:TT):Prop:=
 ∀(whole:Sem Value) (pins:List (Addr×Obj)) (s:Shared) (σ:St) (H:Hp) (Q:Bool->Hp->Prop),Inv X pins σ H s->t σ H Q->wpAny (model X.prog X.w) X.A (isTrue e X.env whole) (TP X pins σ Q) X.xe s
theorem PW.pt {X:Cx} {e:Expr} {t:TT} (h:PW X e t):PT X e t:=h _
def PA (X:Cx) (es:List Expr) (t:TA):Prop:=
 ∀(pos:Pos) (pins:List (Addr×Obj)) (s:Shared) (σ:St) (H:Hp) (Q:List V->Hp->Prop),Inv X pins σ H s->t σ H Q->wpAny (model X.prog X.w) X.A (spliced (backTo pos (starEach es X.env))) (AP X pins σ Q) X.xe s
def PS (X:Cx) (st:Stmt) (t:TS):Prop:=
 ∀(pins:List (Addr×Obj)) (s:Shared) (σ:St) (H:Hp) (D:Ends),Inv X pins σ H s->t D σ H->wpAny (model X.prog X.w) X.A (exec st X.env) (SP X pins D) X.xe s
def zX (X:Cx) (st:List Stmt) (t:TS):Prop:=
 ∀(pins:List (Addr×Obj)) (s:Shared) (σ:St) (H:Hp) (D:Ends),Inv X pins σ H s->t D σ H->wpAny (model X.prog X.w) X.A (execs st X.env) (SP X pins D) X.xe s
theorem bZ {α:Type} {t:Sem α} {Q Q':α->Shared->Prop} {M:Model} {A:Around} {E:Value->Shared->Prop} {s:Shared} (h:wpAny M A t Q E s) (hQ: ∀a s,Q a s->Q' a s):wpAny M A t Q' E s:=wpAny_mono h hQ fun _ _ x=>x
end L2
namespace L2
open PySem PySem.Spec PyProof.Rows
section
variable {X:Cx}
def Mn (i:Nat):TE:=fun σ H Q=> ∃v,σ[i]? =some (some v)/\Q v H
def tC (v:V):TE:=fun _ H Q=>Q v H
theorem IA {i:Nat} {x:Str} {pos:Pos} (hN:X.N[i]? =some x) (hv:Mi X.env.scope x) (hd:(x==("__debug__":Str))=false:=by decide) (uW:(x==("__classdict__":Str))=false:=by decide):PE X (.Name x pos) (Mn i):=by
 intro pins s σ H Q I h
 obtain ⟨v,e,h⟩:=h
 obtain ⟨m,hn,hl⟩:=I.loc
 obtain ⟨u,r,l⟩:=hl i x v hN e hv
 have fin:EP X pins σ Q u s:=⟨v,H,I,r,h⟩
 rcases l with ⟨hk,hm⟩ | ⟨hk,c,hc,gU⟩
 ·exact wpAny_Name (wpAny_loadName_local I.ok.kind hk hn hm fin) hd
 ·rcases hk with hk | hk
  ·exact wpAny_Name (wpAny_loadName_cell I.ok.kind hk hc gU fin) hd
  ·exact wpAny_Name (wpAny_loadName_free I.ok.kind hk hc gU fin uW) hd
theorem ag {i j pos}:PE X (.Constant (.int i) j pos) (tC (.int i)):=fun _ _ _ H _ I h=>wpAny_Constant_int ⟨.int i,H,I.tok _,⟨_,rfl⟩,h⟩
theorem gI {b j pos}:PE X (.Constant (.bool b) j pos) (tC (.bl b)):=fun _ _ _ H _ I h=>Constant_bool ⟨.bl b,H,I,rfl,h⟩
theorem eP {j pos}:PE X (.Constant .none j pos) (tC .ck):=fun _ _ _ H _ I h=>Constant_none ⟨.ck,H,I,rfl,h⟩
theorem IB {x j pos}:PE X (.Constant (.str x) j pos) (tC (.str x)):=fun _ _ _ H _ I h=>Calls.Constant_str ⟨.str x,H,I.tok _,⟨_,rfl⟩,h⟩
def Gl (X:Cx) (x:Str):Prop:=X.env.kindOf x=some .globalImplicit
theorem yC {E:Value->Shared->Prop} {pins:List (Addr×Obj)} {s:Shared} {σ:St} {H:Hp} {x:Str} {u:Value} {pos:Pos} {Q:Value->Shared->Prop} (I:Inv X pins σ H s) (hg:Gl X x) (hm:X.mg x=some u) (h:Q u s)
  (hd:(x==("__debug__":Str))=false:=by decide):wpAny (model X.prog X.w) X.A (eval (.Name x pos) X.env) Q E s:=
 Calls.Name_function_global I.ok.kind hg (Calls.loadGlobal_global (by rw[I.ok.glob];exact I.mod.glob.keeps I.bk) hm h) hd
theorem dE {E:Value->Shared->Prop} {pins:List (Addr×Obj)} {s:Shared} {σ:St} {H:Hp} {x:Str} {u:Value} {pos:Pos} {Q:Value->Shared->Prop} (I:Inv X pins σ H s) (hg:Gl X x) (hm:X.mg x=none) (hv:bootBuiltins x=some u) (h:Q u s)
  (hn:x≠"__name__":=by decide) (hd:(x==("__debug__":Str))=false:=by decide):wpAny (model X.prog X.w) X.A (eval (.Name x pos) X.env) Q E s:=by
 obtain ⟨mb,h1,h2⟩:=I.mod.blt
 exact Calls.Name_function_global I.ok.kind hg (Calls.loadGlobal_builtin (by rw[I.ok.glob];exact I.mod.glob.keeps I.bk) hm (by rw[I.ok.blt];exact h1.keeps I.bk) ((h2 x hn).trans hv) h) hd
theorem EG {x:Str} {v:V} {u:Value} {pos:Pos} (hg:Gl X x) (hm:X.mg x=some u) (r:RelV v u) (hd:(x==("__debug__":Str))=false:=by decide):PE X (.Name x pos) (tC v):=
 fun _ _ _ H _ I h=>yC I hg hm ⟨v,H,I,r,h⟩ hd
variable {a b:Expr} {ta tb:TE} {pos:Pos}
def PC (X:Cx) (op:CmpOp) (a b:Expr) (t:TE):Prop:=
 ∀(pins:List (Addr×Obj)) (s:Shared) (σ:St) (H:Hp) (Q:VK),Inv X pins σ H s->t σ H Q->
  wpAny (model X.prog X.w) X.A (eval a X.env) (fun v s₁=>wpAny (model X.prog X.w) X.A (eval b X.env) (fun u s₂=>wpAny (model X.prog X.w) X.A (compareOp op v u) (EP X pins σ Q) X.xe s₂) X.xe s₁) X.xe s
def tB (t:TE):TT:=fun σ H Q=>t σ H fun x H1=> ∃c,x= .bl c/\Q c H1
theorem IC {op:CmpOp} {t:TE} (h:PC X op a b t) (h1:behindInMarks op b=false:=by first | exact Mo _ (by decide) (by decide) | rfl):PT X (.Compare a [op] [b] pos) (tB t):=by
 intro pins s σ H Q I hw
 refine wpAny_isTrue_Compare1 (bZ (h pins s σ H _ I hw) fun v s1 h1=>bZ h1 fun u s2 h2=>bZ h2 fun c s3 ⟨x,H1,I1,r1,q1⟩=>?_) h1
 obtain ⟨d,rfl,q⟩:=q1
 cases r1
 exact wpAny_truthy_bool ⟨H1,I1,q⟩
theorem lW {e:Expr} {t:TE} (h:PE X e t) (he: ∀whole,isTrue e X.env whole=(do let v <-whole;standAt e.pos;holding [v] (truthy v)):=by intro _;rfl):PT X e (tB t):=by
 intro pins s σ H Q I hw
 refine isTrue_plain (bZ (h pins s σ H _ I hw) fun v s1 ⟨x,H1,I1,r1,q1⟩=>?_) (he _)
 obtain ⟨d,rfl,q⟩:=q1
 cases r1
 exact wpAny_truthy_bool ⟨H1,I1,q⟩
variable {tA PV:TT} {rest:List Expr}
def RH (t u:TT):TT:=fun σ H Q=>t σ H fun c H1=>if c=true then u σ H1 Q else Q false H1
def tOr (t u:TT):TT:=fun σ H Q=>t σ H fun c H1=>if c=true then Q true H1 else u σ H1 Q
def RI (t:TT):TT:=fun σ H Q=>t σ H fun c H1=>Q (!c) H1
theorem jw (ha:PT X a tA):PW X (.BoolOp .And [a] pos) tA:=by
 intro wh pins s σ H Q I h
 refine isTrue_and (bZ (ha pins s σ H Q I h) fun c s1 e=>?_)
 cases c with
 | true=>exact isTrue_and_nil e
 | false=>exact e
theorem i4 (ha:PT X a tA):PW X (.BoolOp .Or [a] pos) tA:=by
 intro wh pins s σ H Q I h
 refine isTrue_or (bZ (ha pins s σ H Q I h) fun c s1 e=>?_)
 cases c with
 | false=>exact isTrue_or_nil e
 | true=>exact e
theorem i5 (ha:PT X a tA) (hb:PW X (.BoolOp .And (b::rest) pos) PV):PW X (.BoolOp .And (a::b::rest) pos) (RH tA PV):=by
 intro wh pins s σ H Q I h
 refine isTrue_and (bZ (ha pins s σ H _ I h) fun c s1 ⟨H1,I1,q1⟩=>?_)
 cases c with
 | true=>exact hb wh pins s1 σ H1 Q I1 q1
 | false=>exact ⟨H1,I1,q1⟩
theorem kC (ha:PT X a tA) (hb:PW X (.BoolOp .Or (b::rest) pos) PV):PW X (.BoolOp .Or (a::b::rest) pos) (tOr tA PV):=by
 intro wh pins s σ H Q I h
 refine isTrue_or (bZ (ha pins s σ H _ I h) fun c s1 ⟨H1,I1,q1⟩=>?_)
 cases c with
 | true=>exact ⟨H1,I1,q1⟩
 | false=>exact hb wh pins s1 σ H1 Q I1 q1
theorem j9 (ha:PT X a tA):PT X (.UnaryOp .Not a pos) (RI tA):=by
 intro pins s σ H Q I h
 exact isTrue_not (ha pins s σ H (fun c H1=>Q (!c) H1) I h)
def Mp (ta tb:TE):TE:=fun σ H Q=>ta σ H fun x H1=> ∃c,x= .bl c/\if c=true then tb σ H1 Q else Q (.bl false) H1
theorem ID {op} {t:TE} (h:PE X a t):PE X (.BoolOp op [a] pos) t:=fun pins s σ H Q I hw=>BoolOp_one (h pins s σ H Q I hw)
theorem IE (ha:PE X a ta) (hb:PE X (.BoolOp .And (b::rest) pos) tb):PE X (.BoolOp .And (a::b::rest) pos) (Mp ta tb):=by
 intro pins s σ H Q I h
 refine BoolOp_and (bZ (ha pins s σ H _ I h) fun v s1 ⟨x,H1,I1,r1,q1⟩=>?_)
 obtain ⟨c,rfl,q1⟩:=q1
 cases r1
 refine wpAny_truthy_bool ?_
 cases c with
 | true=>exact hb pins s1 σ H1 Q I1 q1
 | false=>exact ⟨.bl false,H1,I1,rfl,q1⟩
def tIf (t:TT) (ta tb:TE):TE:=fun σ H Q=>t σ H fun c H1=>if c=true then ta σ H1 Q else tb σ H1 Q
theorem uX {c:Expr} (hc:PT X c tA) (ha:PE X a ta) (hb:PE X b tb):PE X (.IfExp c a b pos) (tIf tA ta tb):=by
 intro pins s σ H Q I h
 refine wpAny_IfExp (bZ (hc pins s σ H _ I h) fun d s1 ⟨H1,I1,q1⟩=>?_)
 cases d with
 | true=>exact ha pins s1 σ H1 Q I1 q1
 | false=>exact hb pins s1 σ H1 Q I1 q1
end
end L2
namespace L2
open PySem PySem.Spec PyProof.Rows
def aT (K:PySem.W.Frag) (H:Hp) (a:Addr) (xs:List V):Prop:=
 Rd H a (.lst xs)\/
  ∃(o:Obj) (aI:Array Value) (n:Nat),K.lookup a=some o/\o.cls= .type "list"/\o.dict=none/\o.data= .seq aI n/\aI.size<=sizeLine/\Vals xs aI.toList
def aW (K:PySem.W.Frag) (H:Hp) (a:Addr) (xs:List V):Prop:=
 Rd H a (.tup xs)\/
  ∃(o:Obj) (aI:Array Value) (n:Nat),K.lookup a=some o/\o.cls= .type "tuple"/\o.data= .seq aI n/\aI.size<=sizeLine/\Vals xs aI.toList
noncomputable def RJ:Value->Option V
 | .none=>some .ck
 | .bool b=>some (.bl b)
 | .int i _=>some (.int i)
 | .str x _=>some (.str x)
 | .bytes b _=>some (.zT b)
 | .float b _=>some (.Me b)
 | .ref a=>some (.ref a)
 | .type n=>some (.ty n)
 | _=>none
theorem RelV.abs {x:V} {u:Value} (r:RelV x u):RJ u=some x:=by
 cases x with
 | ck=>cases r;rfl
 | bl _=>cases r;rfl
 | int _=>obtain ⟨t,rfl⟩:=r;rfl
 | str _=>obtain ⟨t,rfl⟩:=r;rfl
 | zT _=>obtain ⟨t,rfl⟩:=r;rfl
 | Me _=>obtain ⟨t,rfl⟩:=r;rfl
 | ref _=>cases r;rfl
 | ty _=>cases r;rfl
theorem RelV.inj {x y:V} {u:Value} (r:RelV x u) (q:RelV y u):x=y:=Option.some.inj (r.abs.symm.trans q.abs)
theorem Vals.inj: ∀{xs ys:List V} {us:List Value},Vals xs us->Vals ys us->xs=ys
 | _,_,_, .nil, .nil=>rfl
 | _,_,_, .cons r t, .cons r' t'=>by rw[r.inj r',Vals.inj t t']
section
variable {X:Cx} {pins:List (Addr×Obj)} {σ:St} {H:Hp} {s:Shared} {a:Addr} {xs ys:List V}
theorem aT.of {K:PySem.W.Frag} (h:H a=some (.lst xs)):aT K H a xs:= .inl (.inl h)
theorem aW.of {K:PySem.W.Frag} (h:H a=some (.tup xs)):aW K H a xs:= .inl (.inl h)
theorem Inv.list (I:Inv X pins σ H s) (h:aT X.K H a xs): ∃aI:List Value,Vals xs aI/\PlainL s.heap a aI.toArray/\xs.length<=sizeLine:=by
 rcases h with h | ⟨o,aI,n,hk,hc,hd,hs,hz,r⟩
 ·obtain ⟨z,aI,n,r,e⟩:=h.ok I.bu
  exact ⟨aI,r,⟨_,n,e,rfl,rfl,rfl⟩,z⟩
 ·refine ⟨aI.toList,r,⟨o,n,I.LH a o hk,hc,hd,by simpa using hs⟩,?_⟩
  have e:=r.length
  simp only[Array.length_toList]at e
  omega
theorem Inv.tuple (I:Inv X pins σ H s) (h:aW X.K H a xs): ∃aI:List Value,Vals xs aI/\IsTup s.heap a aI.toArray/\xs.length<=sizeLine:=by
 rcases h with h | ⟨o,aI,n,hk,hc,hs,hz,r⟩
 ·obtain ⟨z,aI,r,p⟩:=h.ok I.bu
  exact ⟨aI,r,p,z⟩
 ·refine ⟨aI.toList,r,⟨o,I.LH a o hk,hc,n,by simpa using hs⟩,?_⟩
  have e:=r.length
  simp only[Array.length_toList]at e
  omega
theorem Inv.n_ (I:Inv X pins σ H s) (h:aT X.K H a xs) (h':aT X.K H a ys):xs=ys:=by
 obtain ⟨aI,r,⟨o,n,e,_,_,d⟩,_⟩:=I.list h
 obtain ⟨its',r',⟨o',n',e',_,_,d'⟩,_⟩:=I.list h'
 rw[e]at e';cases e'
 rw[d]at d'
 injection d' with d1 _
 have:aI=its':=by simpa using congrArg Array.toList d1
 subst this
 exact r.inj r'
theorem Inv.lX (I:Inv X pins σ H s) (h:aW X.K H a xs) (h':aW X.K H a ys):xs=ys:=by
 obtain ⟨aI,r,⟨o,e,_,n,d⟩,_⟩:=I.tuple h
 obtain ⟨its',r',⟨o',e',_,n',d'⟩,_⟩:=I.tuple h'
 rw[e]at e';cases e'
 rw[d]at d'
 injection d' with d1 _
 have:aI=its':=by simpa using congrArg Array.toList d1
 subst this
 exact r.inj r'
end
noncomputable abbrev Cx.qx (X:Cx) (E:Value->Shared->Prop):Cx:={ X with xe:=E }
noncomputable abbrev Cx.PZ (X:Cx):Cx:=X.qx fun _ _=>False
theorem Cx.Ok.qx {X:Cx} (ok:X.Ok) (E:Value->Shared->Prop):(X.qx E).Ok:=
 ⟨ok.mod,ok.kind,ok.glob,ok.blt,ok.above,ok.inj,ok.has,ok.Mj,ok.hd,ok.frames,ok.PU,ok.exf,ok.bs,ok.Gy,ok.BZ,ok.EF,ok.nZ,ok.LG⟩
theorem Cx.Ok.i6 {X:Cx} {E:Value->Shared->Prop} (ok:(X.qx E).Ok):X.Ok:=
 ⟨ok.mod,ok.kind,ok.glob,ok.blt,ok.above,ok.inj,ok.has,ok.Mj,ok.hd,ok.frames,ok.PU,ok.exf,ok.bs,ok.Gy,ok.BZ,ok.EF,ok.nZ,ok.LG⟩
section
variable {X:Cx} {pins:List (Addr×Obj)} {σ:St} {H:Hp} {s:Shared} {E:Value->Shared->Prop}
theorem Inv.qx (I:Inv X pins σ H s) (E:Value->Shared->Prop):Inv (X.qx E) pins σ H s:=⟨I.ok.qx E,I.os,I.bare,I.base,I.loc,I.cell,I.free,I.i0,I.pin,I.bu,I.len⟩
theorem Inv.i6 (I:Inv (X.qx E) pins σ H s):Inv X pins σ H s:=⟨I.ok.i6,I.os,I.bare,I.base,I.loc,I.cell,I.free,I.i0,I.pin,I.bu,I.len⟩
theorem SP.i6 {D:Ends} {f:Flow} {s':Shared} (h:SP (X.qx E) pins D f s'):SP X pins D f s':=by
 cases f with
 | next=>obtain ⟨σ',H',I,q⟩:=h;exact ⟨σ',H',I.i6,q⟩
 | brk=>obtain ⟨σ',H',I,q⟩:=h;exact ⟨σ',H',I.i6,q⟩
 | cont=>obtain ⟨σ',H',I,q⟩:=h;exact ⟨σ',H',I.i6,q⟩
 | ret u=>obtain ⟨v,σ',H',I,r,q⟩:=h;exact ⟨v,σ',H',I.i6,r,q⟩
theorem zX.PZ {st:List Stmt} {t:TS} (h:zX X.PZ st t):zX X st t:=fun pins s σ H D I hw=>
 wpAny_mono (h pins s σ H D (I.qx _) hw) (fun _ _ q=>q.i6) fun _ _ z=>False.elim z
end
section
variable {X:Cx} {st:Stmt} {rest:List Stmt} {t u:TS} {e:Expr} {te:TE} {pos:Pos}
def Mq:TS:=fun D σ H=>D.nx σ H
def RK (t u:TS):TS:=fun D σ H=>t { D with nx:=u D } σ H
theorem aV:zX X [] Mq:=fun _ _ σ H _ I h=>wpAny_execs_nil ⟨σ,H,I,h⟩
theorem af (h1:PS X st t) (h2:zX X rest u):zX X (st::rest) (RK t u):=by
 intro pins s σ H D I h
 refine wpAny_execs_cons (bZ (h1 pins s σ H { D with nx:=u D } I h) fun f s1 q=>?_)
 cases f with
 | next=>
  obtain ⟨σ',H',I',q⟩:=q
  exact h2 pins s1 σ' H' D I' q
 | ret v=>exact q
 | brk=>exact q
 | cont=>exact q
theorem ah (h1:PS X st t):zX X [st] t:=by
 intro pins s σ H D I h
 refine wpAny_execs_cons (bZ (h1 pins s σ H D I h) fun f s1 q=>?_)
 cases f with
 | next=>exact wpAny_execs_nil q
 | ret v=>exact q
 | brk=>exact q
 | cont=>exact q
def IF:TS:=fun D σ H=>D.bk σ H
theorem B0:PS X (.Break pos) IF:=fun _ _ σ H _ I h=>wpAny_Break ⟨σ,H,I,h⟩
theorem Inv.quiet {pins:List (Addr×Obj)} {σ:St} {H:Hp} {s:Shared} (I:Inv X pins σ H s):interactive X.env=false:=by simp[interactive,I.ok.kind]
def Mr (te:TE):TS:=fun D σ H=>te σ H fun _ H1=>D.nx σ H1
theorem aY (he:PE X e te) (hs:swapsWith e none pos.line X.env=pure false:=by rfl):PS X (.Expr e pos) (Mr te):=by
 intro pins s σ H D I h
 exact wpAny_Expr_any (bZ (he pins s σ H _ I h) fun v s1 ⟨x,H1,I1,r1,q1⟩=>⟨σ,H1,I1,q1⟩) I.quiet hs
def RL (te:TE):TS:=fun D σ H=>te σ H D.rt
theorem aD (he:PE X e te):PS X (.Return (some e) pos) (RL te):=by
 intro pins s σ H D I h
 exact wpAny_Return_some (bZ (he pins s σ H _ I h) fun v s1 ⟨x,H1,I1,r1,q1⟩=>⟨x,σ,H1,I1,r1,q1⟩)
def RM (c:TT) (t u:TS):TS:=fun D σ H=>c σ H fun b H1=>if b=true then t D σ H1 else u D σ H1
theorem bC {c:Expr} {a b:List Stmt} {tc:TT} (hc:PT X c tc) (ha:zX X a t) (hb:zX X b u):PS X (.If c a b pos) (RM tc t u):=by
 intro pins s σ H D I h
 refine wpAny_If (bZ (hc pins s σ H _ I h) fun d s1 ⟨H1,I1,q1⟩=>?_)
 cases d with
 | true=>exact ha pins s1 σ H1 D I1 q1
 | false=>exact hb pins s1 σ H1 D I1 q1
def IG:TS:=fun _ _ _=>False
theorem gW:PS X st IG:=fun _ _ _ _ _ _ h=>h.elim
end
abbrev TG:=V->St->Hp->(St->Hp->Prop)->Prop
abbrev GB:=List V->St->Hp->(St->Hp->Prop)->Prop
def PG (X:Cx) (target:Expr) (t:TG):Prop:=
 ∀(pins:List (Addr×Obj)) (s:Shared) (σ:St) (H:Hp) (v:V) (u:Value) (Q:St->Hp->Prop),Inv X pins σ H s->RelV v u->t v σ H Q->
  wpAny (model X.prog X.w) X.A (assign target X.env u) (fun _ s'=> ∃σ' H',Inv X pins σ' H' s'/\Q σ' H') X.xe s
def Ms (X:Cx) (ts:List Expr) (t:GB):Prop:=
 ∀(pins:List (Addr×Obj)) (s:Shared) (σ:St) (H:Hp) (vs:List V) (us:List Value) (Q:St->Hp->Prop),Inv X pins σ H s->Vals vs us->t vs σ H Q->
  wpAny (model X.prog X.w) X.A (assignInOrder ((assignEach ts X.env).map (·.2)) us) (fun _ s'=> ∃σ' H',Inv X pins σ' H' s'/\Q σ' H') X.xe s
abbrev IH:=V->V->V->Hp->(Hp->Prop)->Prop
def Mt (X:Cx) (t:IH):Prop:=
 ∀(pins:List (Addr×Obj)) (s:Shared) (σ:St) (H:Hp) (o i v:V) (ov iv u:Value) (Q:Hp->Prop),Inv X pins σ H s->RelV o ov->RelV i iv->RelV v u->t o i v H Q->
  wpAny (model X.prog X.w) X.A (setItem ov iv u) (fun _ s'=> ∃H',Inv X pins σ H' s'/\Q H') X.xe s
abbrev P0:=V->V->Hp->VK->Prop
def RN (X:Cx) (op:Operator) (t:P0):Prop:=
 ∀(pins:List (Addr×Obj)) (s:Shared) (σ:St) (H:Hp) (x y:V) (v u:Value) (Q:VK),Inv X pins σ H s->RelV x v->RelV y u->t x y H Q->
  wpAny (model X.prog X.w) X.A (inplaceOp op v u) (EP X pins σ Q) X.xe s
section
variable {X:Cx} {pos:Pos}
def uY (i:Nat):TG:=fun v σ H Q=>Q (σ.set i (some v)) H
theorem aw {i:Nat} {x:Str} (hN:X.N.Nodup) (hi:X.N[i]? =some x) (hx:Loc X.env.scope x) (hf:X.fn x=true\/X.env.scope.names.lookup x=some .local:=by first | exact .inl rfl | exact .inr rfl | assumption):PG X (.Name x pos) (uY i):=by
 intro pins s σ H v u Q I r h
 exact wpAny_assign_Name (gT I hN hi hx r (fun s' I'=>⟨_,H,I',h⟩) hf)
def RO:GB:=fun vs σ H Q=>vs=[]/\Q σ H
def Mu (t:TG) (u:GB):GB:=fun vs σ H Q=> ∃v r,vs=v::r/\t v σ H fun σ' H'=>u r σ' H' Q
theorem bU:Ms X [] RO:=by
 intro pins s σ H vs us Q I r h
 obtain ⟨e,h⟩:=h
 subst e
 cases r
 exact assignInOrder_nil ⟨σ,H,I,h⟩
theorem aP {e:Expr} {es:List Expr} {t:TG} {u:GB} (h1:PG X e t) (h2:Ms X es u)
  (hs:(assignEach (e::es) X.env).map (·.2)=assign e X.env::(assignEach es X.env).map (·.2):=by rfl):Ms X (e::es) (Mu t u):=by
 intro pins s σ H vs us Q I r h
 obtain ⟨v,vr,e1,h⟩:=h
 subst e1
 cases r with
 | cons r rr=>
  rw[hs]
  refine assignInOrder_cons (bZ (h1 pins s σ H _ _ _ I r h) fun _ s1 ⟨σ1,H1,I1,q1⟩=>?_)
  exact h2 pins s1 σ1 H1 _ _ Q I1 rr q1
def Mv (K:PySem.W.Frag) (n:Nat) (t:GB):TG:=fun v σ H Q=> ∃a xs,v= .ref a/\aW K H a xs/\xs.length=n/\t xs σ H Q
theorem II {es:List Expr} {k:Nat} {t:GB} {n:Nat} (hc:X.calm=true) (h:Ms X es t)
  (hn:(assignEach es X.env).length=n:=by rfl) (RP:(assignEach es X.env).findIdx? (·.1)=none:=by rfl):PG X (.Tuple es k pos) (Mv X.K n t):=by
 intro pins s σ H v u Q I r hw
 obtain ⟨a,xs,e1,hq,hl,hw⟩:=hw
 subst e1
 cases r
 obtain ⟨aI,rv,ht,hz⟩:=I.tuple hq
 refine assign_Tuple_tuple (I.ok.hd hc) ht (by simp[hn, <-hl,rv.length]) RP fun h' hx=>?_
 have I1:Inv X pins σ H { s with heap:=h' }:=I.kept (t':=s.toks) fun b o e=>hx b o (Nat.ne_of_lt (Heap.lt_size e)) e
 exact h pins _ σ H xs _ Q I1 (by simpa using rv) hw
def RQ (to ti:TE) (t:IH):TG:=fun v σ H Q=>to σ H fun o H1=>ti σ H1 fun i H2=>t o i v H2 fun H3=>Q σ H3
theorem j_ {o i:Expr} {to ti:TE} {t:IH} (ho:PE X o to) (hi:PE X i ti) (hs:Mt X t)
  (ha: ∀v,assign (.Subscript o i pos) X.env v=(do
   let ov <-holding [v] (eval o X.env)
   let iv <-holding [v,ov] (eval i X.env)
   standAt pos
   holding [v,ov,iv] (setItem ov iv v)
   release [v,ov,iv] []):=by intro _;rfl):PG X (.Subscript o i pos) (RQ to ti t):=by
 intro pins s σ H v u Q I r h
 rw[ha]
 refine wpAny_bind (wpAny_holding (bZ (ho pins s σ H _ I h) fun ov s1 ⟨x,H1,I1,r1,q1⟩=>?_))
 refine wpAny_bind (wpAny_holding (bZ (hi pins s1 σ H1 _ I1 q1) fun iv s2 ⟨y,H2,I2,r2,q2⟩=>?_))
 refine wpAny_bind (wpAny_standAt (wpAny_bind (wpAny_holding (bZ (hs pins s2 σ H2 x y v ov iv u _ I2 r1 r2 r q2) fun _ s3 ⟨H3,I3,q3⟩=>?_))))
 exact wpAny_release ⟨σ,H3,I3,q3⟩
def EH (te:TE) (g:TG):TS:=fun D σ H=>te σ H fun x H1=>g x σ H1 D.nx
theorem i7 {tg e:Expr} {te:TE} {g:TG} (he:PE X e te) (hg:PG X tg g) (hs:swapsWithSole [tg] e pos.line X.env=pure false:=by rfl) (hw:swappedStores [tg] e X.env=pure none:=by rfl)
  (h1:(assignEach [tg] X.env).map (·.2)=[assign tg X.env]:=by rfl):PS X (.Assign [tg] e pos) (EH te g):=by
 intro pins s σ H D I h
 refine wpAny_Assign_stores (bZ (he pins s σ H _ I h) fun v s1 ⟨x,H1,I1,r1,q1⟩=>?_) hs hw
 rw[h1]
 exact bZ (hg pins s1 σ H1 x v _ I1 r1 q1) fun _ s2 q=>q
theorem au {i:Nat} {x:Str} {e:Expr} {te:TE} {pos':Pos} (hN:X.N.Nodup) (hi:X.N[i]? =some x) (hx:Loc X.env.scope x) (he:PE X e te) (hs:swapsWith e (some (.Name x pos')) pos.line X.env=pure false:=by rfl) (hf:X.fn x=true\/X.env.scope.names.lookup x=some .local:=by first | exact .inl rfl | exact .inr rfl | assumption):
  PS X (.Assign [.Name x pos'] e pos) (EH te (uY i)):=by
 intro pins s σ H D I h
 refine wpAny_Assign_Name (bZ (he pins s σ H _ I h) fun v s1 ⟨y,H1,I1,r1,q1⟩=>?_) hs
 exact gT I1 hN hi hx r1 (fun s2 I2=>⟨_,H1,I2,q1⟩) hf
def RS (i j:Nat) (ta:TA):TS:=fun D σ H=>ta σ H fun vs H1=> ∃v w,vs=[v,w]/\D.nx ((σ.set i (some v)).set j (some w)) H1
theorem IJ {i j:Nat} {x y:Str} {a b:Expr} {ta:TA} {px py pt:Pos} {kt k2 RT} (hc:X.calm=true) (hN:X.N.Nodup) (hi:X.N[i]? =some x) (hj:X.N[j]? =some y) (uZ:i≠j)
  (hx:X.env.scope.names.lookup x=some .local) (hy:X.env.scope.names.lookup y=some .local) (ha:PA X [a,b] ta)
  (hw:swappedStores [.Tuple [.Name x px, .Name y py] kt pt] (.Tuple [a,b] k2 RT) X.env=pure (some [x,y]))
  (hs:swapsWithSole [.Tuple [.Name x px, .Name y py] kt pt] (.Tuple [a,b] k2 RT) pos.line X.env=pure false:=by rfl):
  PS X (.Assign [.Tuple [.Name x px, .Name y py] kt pt] (.Tuple [a,b] k2 RT) pos) (RS i j ta):=by
 intro pins s σ H D I h
 rw[exec_Assign_arm]
 refine wpAny_bind (wpAny_standAt ?_)
 rw[hs]
 refine wpAny_bind (wpAny_pure ?_)
 rw[if_neg (by decide)]
 refine wpAny_bind (Tuple_ (bZ (ha _ pins s σ H _ I h) fun us s1 ⟨vs,H1,I1,r1,q1⟩=>?_))
 obtain ⟨v,w,e1,q1⟩:=q1
 subst e1
 obtain ⟨u1,u2,rfl,rv,zY⟩: ∃u1 u2,us=[u1,u2]/\RelV v u1/\RelV w u2:=by
  cases r1 with
  | cons p q=>
   cases q with
   | cons p' q'=>
    cases q'
    exact ⟨_,_,rfl,p,p'⟩
 refine wpAny_newObj_type ?_ (by show 2<=sizeLine;decide)
 have I2:Inv X pins σ H1 { s1 with heap:=s1.heap.push { cls:= .type "tuple",data:= .seq [u1,u2].toArray } }:=I1.kept (t':=s1.toks) fun b o e=>Heap.get?_push_of_some _ e
 rw[hw]
 refine wpAny_bind (wpAny_pure ?_)
 show wpAny (model X.prog X.w) X.A (do rule "assign.swapped-stores";let items <-unpackItems (.ref s1.heap.objs.size) 2 none;assignInOrder [fun v=>bindName X.env y v,fun v=>bindName X.env x v] items.reverse;pure Flow.next) _ _ _
 refine wpAny_bind (wpAny_rule (wpAny_bind (unpackItems_tuple (items:= #[u1,u2]) (I.ok.hd hc) (IsTup.new s1.heap _) fun h' RU=>?_)))
 have I3:=I2.kept (h':=h') (t':=s1.toks) fun b o e=>RU b o (Nat.ne_of_lt (Heap.lt_size e)) e
 show wpAny _ _ (assignInOrder [fun v=>bindName X.env y v,fun v=>bindName X.env x v] [u2,u1] >>= fun _=>pure Flow.next) _ _ _
 refine wpAny_bind (assignInOrder_cons (wpAny_bindName (gT I3 hN hj (.inl hy) zY (fun s2 I4=>?_) (.inr hy))))
 refine assignInOrder_cons (wpAny_bindName (gT I4 hN hi (.inl hx) rv (fun s3 I5=>assignInOrder_nil (wpAny_pure ?_)) (.inr hx)))
 rw[List.set_comm _ _ (Ne.symm uZ)]at I5
 exact ⟨_,H1,I5,q1⟩
def RV (i:Nat) (te:TE) (ti:P0):TS:=fun D σ H=> ∃x,σ[i]? =some (some x)/\te σ H fun y H1=>ti x y H1 fun z H2=>D.nx (σ.set i (some z)) H2
theorem lY {i:Nat} {x:Str} {e:Expr} {te:TE} {op:Operator} {ti:P0} {pos':Pos} (hN:X.N.Nodup) (hi:X.N[i]? =some x) (hx:Loc X.env.scope x) (he:PE X e te) (ho:RN X op ti) (hf:X.fn x=true\/X.env.scope.names.lookup x=some .local:=by first | exact .inl rfl | exact .inr rfl | assumption):
  PS X (.AugAssign (.Name x pos') op e pos) (RV i te ti):=by
 intro pins s σ H D I h
 obtain ⟨v,e1,h⟩:=h
 obtain ⟨m,hn,hl⟩:=I.loc
 have vis:Mi X.env.scope x:=by rcases hx with k | k;exact .inl k;exact .inr (.inl k)
 obtain ⟨u,r,l⟩:=hl i x v hi e1 vis
 refine wpAny_AugAssign_Name ?_
 have go:wpAny (model X.prog X.w) X.A (eval e X.env) (fun w s₂=>wpAny (model X.prog X.w) X.A (inplaceOp op u w) (fun r s₃=>wpAny (model X.prog X.w) X.A (storeName X.env x r) (fun _=>SP X pins D .next) X.xe s₃) X.xe s₂) X.xe s:=by
  refine bZ (he pins s σ H _ I h) fun w s1 ⟨y,H1,I1,r1,q1⟩=>?_
  refine bZ (ho pins s1 σ H1 v y u w _ I1 r r1 q1) fun z s2 ⟨zv,H2,I2,r2,q2⟩=>?_
  exact gT I2 hN hi hx r2 (fun s3 I3=>⟨_,H2,I3,q2⟩) hf
 rcases l with ⟨hk,hm⟩ | ⟨hk,c,hc,gU⟩
 ·exact wpAny_loadName_local I.ok.kind hk hn hm go
 ·rcases hk with hk | hk
  ·exact wpAny_loadName_cell I.ok.kind hk hc gU go
  ·rcases hx with k | k
   ·have:X.env.scope.names.lookup x=some .free:=hk
    rw[k]at this;cases this
   ·have:X.env.scope.names.lookup x=some .free:=hk
    rw[k]at this;cases this
def ipI (f:Int->Int->Int):P0:=fun x y H Q=> ∃i j,x= .int i/\y= .int j/\Q (.int (f i j)) H
theorem s_:RN X .Add (ipI fun i j=>i+j):=by
 intro pins s σ H x y v u Q I r1 r2 h
 obtain ⟨i,j,e1,e2,q⟩:=h
 subst e1;subst e2
 obtain ⟨t,rfl⟩:=r1
 obtain ⟨t',rfl⟩:=r2
 exact iadd_int ⟨.int _,H,I.tok _,⟨_,rfl⟩,q⟩
theorem B1:RN X .Sub (ipI fun i j=>i - j):=by
 intro pins s σ H x y v u Q I r1 r2 h
 obtain ⟨i,j,e1,e2,q⟩:=h
 subst e1;subst e2
 obtain ⟨t,rfl⟩:=r1
 obtain ⟨t',rfl⟩:=r2
 exact isub_int ⟨.int _,H,I.tok _,⟨_,rfl⟩,q⟩
end
section
variable {X:Cx} {pos:Pos}
end
structure It where
 go:Nat->Hp->Prop
 yD:Nat->Hp->V->Hp->Prop
 stop:Nat->Hp->Prop
def nj (X:Cx) (pins:List (Addr×Obj)) (H:Hp) (b:Addr):Prop:=
 H b=none/\b≠X.env.locals/\b∉X.fs/\(b∈X.ex\/X.s₀.heap.objs.size<=b)/\(∀x c,X.env.cells.lookup x=some c->c≠b)/\ ∀p∈X.pn++pins,p.1≠b
theorem Inv.kD {X:Cx} {pins:List (Addr×Obj)} {σ:St} {H H':Hp} {s:Shared} {b:Addr} (I:Inv X pins σ H s) (hb:s.heap.objs.size<=b) (hn:H' b=none):nj X pins H' b:=by
 refine ⟨hn,Nat.ne_of_gt (Nat.lt_of_lt_of_le I.lt hb),I.Iv hb, .inr (Nat.le_trans I.sz hb),fun x c e z=>?_,fun p hp z=>?_⟩
 ·obtain ⟨v,q⟩:=I.cell x c e
  exact absurd (Nat.lt_of_lt_of_le q.lt (by rw[z];exact hb)) (Nat.lt_irrefl _)
 ·exact absurd (Nat.lt_of_lt_of_le (Heap.lt_size (I.pin p hp).1) (by rw[z];exact hb)) (Nat.lt_irrefl _)
structure Turn (P:Program) (w:World) (K:PySem.W.Frag) (tg:Expr) (J:It) (fp:List Addr) (it:Addr) (tn:Nat->Heap->Prop):Prop where
 mem:it∈fp
 obj: ∀i h,tn i h-> ∀b∈fp, ∃o,h.get? b=some o/\ ∀v,o.data≠ .cell v
 keep: ∀i h h',tn i h->(∀b∈fp, ∀o,h.get? b=some o->h'.get? b=some o)->tn i h'
 item: ∀(X:Cx),X.prog=P->X.w=w->X.K=K->X.calm=true-> ∀(i:Nat) (pins:List (Addr×Obj)) (s:Shared) (σ:St) (H:Hp) (E:Value->Shared->Prop),Inv X pins σ H s->(∀b∈fp,nj X pins H b)->tn i s.heap->J.go i H->
  wpAny (model P w) X.A (pyNext (.ref it)) (fun r s1=> ∃u,r=some u/\
   wpAny (model P w) X.A (letOwnedTupleGo tg (.ref it) u) (fun _ s2=> ∃x H',Inv X pins σ H' s2/\RelV x u/\J.yD i H x H'/\tn (i+1) s2.heap/\ ∀b∈fp,H' b=none) E s1) E s
 done: ∀(X:Cx),X.prog=P->X.w=w->X.K=K->X.calm=true-> ∀(i:Nat) (pins:List (Addr×Obj)) (s:Shared) (σ:St) (H:Hp) (E:Value->Shared->Prop),Inv X pins σ H s->(∀b∈fp,nj X pins H b)->tn i s.heap->J.stop i H->
  wpAny (model P w) X.A (pyNext (.ref it)) (fun r s1=>r=none/\Inv X pins σ H s1) E s
 self: ∀(A:Around) (i:Nat) (s:Shared) (Q:Value->Shared->Prop) (E:Value->Shared->Prop),tn i s.heap->Q (.ref it) s->wpAny (model P w) A (pyIter (.ref it)) Q E s
abbrev TI:=St->Hp->(It->Hp->Prop)->Prop
def RW (X:Cx) (pins:List (Addr×Obj)) (σ:St) (tg:Expr) (R:It->Hp->Prop) (RX:Value) (s2:Shared):Prop:=
 ∃(it:Addr) (fp:List Addr) (tn:Nat->Heap->Prop) (J:It) (H':Hp),RX= .ref it/\Inv X pins σ H' s2/\Turn X.prog X.w X.K tg J fp it tn/\tn 0 s2.heap/\(∀b∈fp,nj X pins H' b)/\R J H'
def PI (X:Cx) (tg iter:Expr) (wi:TI):Prop:=
 ∀(pins:List (Addr×Obj)) (s:Shared) (σ:St) (H:Hp) (R:It->Hp->Prop),Inv X pins σ H s->wi σ H R->
  wpAny (model X.prog X.w) X.A (eval iter X.env) (fun v s1=>wpAny (model X.prog X.w) X.A (pyIter v) (RW X pins σ tg R) X.xe s1) X.xe s
theorem oa {M:Model} {A:Around} {E:Value->Shared->Prop} {s:Shared} {tg:Expr} {it:Addr} {u:Value} {o:Obj} {n:String} {vs:Array Value} {Q:Unit->Shared->Prop} (ho:s.heap.get? it=some o) (hc:o.cls= .type n) (hd:o.data= .fields vs)
  (hn:["enumerate","zip","dict_itemiterator","dict_reverseitemiterator","odict_iterator","itertools.zip_longest","itertools.pairwise"].contains n=false) (hQ:Q () s):wpAny M A (letOwnedTupleGo tg (.ref it) u) Q E s:=by
 unfold letOwnedTupleGo
 cases tg<;>first
  | exact wpAny_pure hQ
  |(cases u<;>first
    | exact wpAny_pure hQ
    |(refine wpAny_bind (wpAny_load ho ?_)
      rw[hc,hd]
      show wpAny M A (if (["enumerate","zip","dict_itemiterator","dict_reverseitemiterator","odict_iterator","itertools.zip_longest","itertools.pairwise"].contains n&&vs[0]? ==some (rawInt _))=true then _ else _) Q E s
      rw[if_neg (by intro h;rw[hn,Bool.false_and]at h;cases h)]
      exact wpAny_pure hQ))
noncomputable def LI (K:PySem.W.Frag) (a:Addr):It:=
 ⟨fun i H=> ∃xs x,aT K H a xs/\xs[i]? =some x,fun i H x H'=>H'=H/\ ∀xs,aT K H a xs->xs[i]? =some x,fun i H=> ∃xs,aT K H a xs/\xs.length<=i⟩
noncomputable def RY (K:PySem.W.Frag) (a:Addr):It:=
 ⟨fun i H=> ∃xs x,aW K H a xs/\xs[i]? =some x,fun i H x H'=>H'=H/\ ∀xs,aW K H a xs->xs[i]? =some x,fun i H=> ∃xs,aW K H a xs/\xs.length<=i⟩
noncomputable def GC (lo:Int) (n:Nat):It:=⟨fun i _=>i<n,fun i H x H'=>H'=H/\x= .int (lo+i),fun i _=>n<=i⟩
theorem zZ {P:Program} {w:World} {K:PySem.W.Frag} {tg:Expr} (a it:Addr):Turn P w K tg (LI K a) [it] it (fun i h=>h.IsListIter it a i) where
 mem:=by simp
 obj:=fun i h st b hb=>by
  have e:b=it:=by simpa using hb
  subst e
  obtain ⟨o,e,c,d⟩:=st
  exact ⟨o,e,fun v z=>by rw[d]at z;cases z⟩
 keep:=fun i h h' st k=>st.at fun o e=>k it (by simp) o e
 item:=by
  intro X hP hw hK hc i pins s σ H E I hf st hg
  subst hP hw hK
  obtain ⟨xs,x,hq,hx⟩:=hg
  obtain ⟨aI,rv,p,hz⟩:=I.list hq
  obtain ⟨u,hu,ru⟩:=rv.get hx
  obtain ⟨f0,f1,f2,f3,f4,f5⟩:=hf it (by simp)
  refine wpAny_pyNext_list_item st p.isList (x:=u) (by simpa using hu) fun h' jO sb=>?_
  have I1:Inv X pins σ H { s with heap:=h' }:=I.turned (t':=s.toks) (fun b o hb e=>(sb.2 b hb).trans e) f0 f1 f3 f4 f5
  obtain ⟨o,e,c,d⟩:=id jO
  exact ⟨u,rfl,oa (s:={ s with heap:=h' }) e c d (by decide) ⟨x,H,I1,ru,⟨rfl,fun ys hy=>by rw[I.n_ hy hq];exact hx⟩,jO,fun b hb=>(hf b hb).1⟩⟩
 done:=by
  intro X hP hw hK hc i pins s σ H E I hf st hg
  subst hP hw hK
  obtain ⟨xs,hq,hx⟩:=hg
  obtain ⟨aI,rv,p,hz⟩:=I.list hq
  obtain ⟨f0,f1,f2,f3,f4,f5⟩:=hf it (by simp)
  have hl:=rv.length
  exact wpAny_pyNext_list_end (I.ok.hd hc) st p.isList (by simp;omega) fun h' eb=>⟨rfl,I.turned (t':=s.toks) (fun b o hb e=>eb b o hb e) f0 f1 f3 f4 f5⟩
 self:=fun _ _ _ _ _ st h=>wpAny_pyIter_listiter st h
theorem w9 {P:Program} {w:World} {K:PySem.W.Frag} {tg:Expr} (a it:Addr):Turn P w K tg (RY K a) [it] it (fun i h=>h.IsTupleIter it a i) where
 mem:=by simp
 obj:=fun i h st b hb=>by
  have e:b=it:=by simpa using hb
  subst e
  obtain ⟨o,e,c,d⟩:=st
  exact ⟨o,e,fun v z=>by rw[d]at z;cases z⟩
 keep:=fun i h h' st k=>st.at fun o e=>k it (by simp) o e
 item:=by
  intro X hP hw hK hc i pins s σ H E I hf st hg
  subst hP hw hK
  obtain ⟨xs,x,hq,hx⟩:=hg
  obtain ⟨aI,rv,p,hz⟩:=I.tuple hq
  obtain ⟨u,hu,ru⟩:=rv.get hx
  obtain ⟨f0,f1,f2,f3,f4,f5⟩:=hf it (by simp)
  refine wpAny_pyNext_tuple_item st (show s.heap.IsTuple a aI.toArray from p) (x:=u) (by simpa using hu) fun h' jO sb=>?_
  have I1:Inv X pins σ H { s with heap:=h' }:=I.turned (t':=s.toks) (fun b o hb e=>(sb.2 b hb).trans e) f0 f1 f3 f4 f5
  obtain ⟨o,e,c,d⟩:=id jO
  exact ⟨u,rfl,oa (s:={ s with heap:=h' }) e c d (by decide) ⟨x,H,I1,ru,⟨rfl,fun ys hy=>by rw[I.lX hy hq];exact hx⟩,jO,fun b hb=>(hf b hb).1⟩⟩
 done:=by
  intro X hP hw hK hc i pins s σ H E I hf st hg
  subst hP hw hK
  obtain ⟨xs,hq,hx⟩:=hg
  obtain ⟨aI,rv,p,hz⟩:=I.tuple hq
  obtain ⟨f0,f1,f2,f3,f4,f5⟩:=hf it (by simp)
  have hl:=rv.length
  exact wpAny_pyNext_tuple_end (I.ok.hd hc) st (show s.heap.IsTuple a aI.toArray from p) (by simp;omega) fun h' eb=>⟨rfl,I.turned (t':=s.toks) (fun b o hb e=>eb b o hb e) f0 f1 f3 f4 f5⟩
 self:=fun _ _ _ _ _ st h=>wpAny_pyIter_tupleiter st h
theorem w_ {P:Program} {w:World} {K:PySem.W.Frag} {tg:Expr} (it:Addr) (lo:Int) (n:Nat):Turn P w K tg (GC lo n) [it] it (fun i h=>IsRangeIter h it (lo+(i:Nat)*1) ((n:Int) - (i:Nat)) 1) where
 mem:=by simp
 obj:=fun i h st b hb=>by
  have e:b=it:=by simpa using hb
  subst e
  exact ⟨_,st,fun v z=>by
   have z':Data.fields _=Data.cell v:=z
   cases z'⟩
 keep:=fun i h h' st k=>k it (by simp) _ st
 item:=by
  intro X hP hw hK hc i pins s σ H E I hf st hg
  subst hP hw hK
  obtain ⟨f0,f1,f2,f3,f4,f5⟩:=hf it (by simp)
  have W:=Walks.range (prog:=X.prog) (w:=X.w) (I.ok.hd hc) it lo 1 n
  refine W.item i s _ _ hg st fun v h' tk hv jO kk=>?_
  obtain ⟨t,rfl⟩:=hv
  have I1:Inv X pins σ H { s with heap:=h',toks:=tk }:=I.turned (fun b o hb e=>kk b o (by simpa using hb) e) f0 f1 f3 f4 f5
  refine ⟨_,rfl,oa (s:={ s with heap:=h',toks:=tk }) (n:="range_iterator") jO rfl rfl (by decide) ⟨.int (lo+i),H,I1,⟨t,?_⟩,⟨rfl,rfl⟩,jO,fun b hb=>(hf b hb).1⟩⟩
  rw[Int.mul_one]
 done:=by
  intro X hP hw hK hc i pins s σ H E I hf st hg
  subst hP hw hK
  obtain ⟨f0,f1,f2,f3,f4,f5⟩:=hf it (by simp)
  exact wpAny_pyNext_range_end (I.ok.hd hc) st (by have:n<=i:=hg;omega) fun h' eb=>⟨rfl,I.turned (t':=s.toks) (fun b o hb e=>eb b o hb e) f0 f1 f3 f4 f5⟩
 self:=fun _ _ _ _ _ st h=>wpAny_pyIter_rangeiter st h
end L2
namespace L2
open PySem PySem.Spec PyProof.Rows
section
variable {X:Cx} {tg:Expr}
def GD (K:PySem.W.Frag) (tl:TE):TI:=fun σ H R=>tl σ H fun x H1=> ∃a,x= .ref a/\(∃xs,aT K H1 a xs)/\R (LI K a) H1
def Mw (K:PySem.W.Frag) (tl:TE):TI:=fun σ H R=>tl σ H fun x H1=> ∃a,x= .ref a/\(∃xs,aW K H1 a xs)/\R (RY K a) H1
theorem EI {l:Expr} {tl:TE} (hl:PE X l tl):PI X tg l (GD X.K tl):=by
 intro pins s σ H R I h
 refine bZ (hl pins s σ H _ I h) fun v s1 ⟨x,H1,I1,r1,q1⟩=>?_
 obtain ⟨a,e,⟨xs,hq⟩,q⟩:=q1
 subst e
 cases r1
 obtain ⟨aI,rv,p,hz⟩:=I1.list hq
 refine wpAny_pyIter_list p.isList ?_
 refine ⟨s1.heap.objs.size,[s1.heap.objs.size],_,_,H1,rfl,I1.kept (t':=s1.toks) fun b o e=>Heap.get?_push_of_some _ e,zZ a _,⟨_,Heap.get?_push_size _ rfl,rfl,rfl⟩,fun b hb=>?_,q⟩
 have e:b=s1.heap.objs.size:=by simpa using hb
 subst e
 exact I1.kD (Nat.le_refl _) (I1.bu.fresh (Nat.le_refl _))
theorem IK {l:Expr} {tl:TE} (hl:PE X l tl):PI X tg l (Mw X.K tl):=by
 intro pins s σ H R I h
 refine bZ (hl pins s σ H _ I h) fun v s1 ⟨x,H1,I1,r1,q1⟩=>?_
 obtain ⟨a,e,⟨xs,hq⟩,q⟩:=q1
 subst e
 cases r1
 obtain ⟨aI,rv,p,hz⟩:=I1.tuple hq
 refine wpAny_pyIter_tuple (show s1.heap.IsTuple a aI.toArray from p) ?_
 refine ⟨s1.heap.objs.size,[s1.heap.objs.size],_,_,H1,rfl,I1.kept (t':=s1.toks) fun b o e=>Heap.get?_push_of_some _ e,w9 a _,⟨_,Heap.get?_push_size _ rfl,rfl,rfl⟩,fun b hb=>?_,q⟩
 have e:b=s1.heap.objs.size:=by simpa using hb
 subst e
 exact I1.kD (Nat.le_refl _) (I1.bu.fresh (Nat.le_refl _))
theorem u3 {pins:List (Addr×Obj)} {σ:St} {H:Hp} {s:Shared} {R:It->Hp->Prop} {E:Value->Shared->Prop} {lo hi:Int} {t u v:Tok} {tk:Nat} (I:Inv X pins σ H s) (h1: -(2 ^ 62)<=lo) (h2:lo<2 ^ 62) (h3: -(2 ^ 62)<=hi) (h4:hi<2 ^ 62)
  (q:R (GC lo (hi - lo).toNat) H):wpAny (model X.prog X.w) X.A (pyIter (.ref s.heap.objs.size)) (RW X pins σ tg R) E { s with heap:=s.heap.push { cls:= .type "range",data:= .fields #[.int lo t, .int hi u, .int 1 v] },toks:=tk }:=by
 refine wpAny_pyIter_range (IsRange.new ..) (small_one h1 h2 h3 h4) ?_
 have I1:Inv X pins σ H { s with heap:=s.heap.push { cls:= .type "range",data:= .fields #[.int lo t, .int hi u, .int 1 v] },toks:=tk }:=I.kept fun b o e=>Heap.get?_push_of_some _ e
 refine ⟨(s.heap.push { cls:= .type "range",data:= .fields #[.int lo t, .int hi u, .int 1 v] }).objs.size,[(s.heap.push { cls:= .type "range",data:= .fields #[.int lo t, .int hi u, .int 1 v] }).objs.size],_,_,H,rfl,
  I1.kept (t':=tk) fun b o e=>Heap.get?_push_of_some _ e,w_ _ lo (hi - lo).toNat,?_,fun b hb=>?_,q⟩
 ·have e1:lo+((0:Nat):Int)*1=lo:=by simp
  have e2:(((hi - lo).toNat:Nat):Int) - ((0:Nat):Int)=Builtin.Range.rangeSize lo hi 1:=by rw[rangeSize_one];split<;>omega
  show IsRangeIter _ _ (lo+((0:Nat):Int)*1) ((((hi - lo).toNat:Nat):Int) - ((0:Nat):Int)) 1
  rw[e1,e2]
  exact Heap.get?_push_size _ rfl
 ·have e:b=(s.heap.push { cls:= .type "range",data:= .fields #[.int lo t, .int hi u, .int 1 v] }).objs.size:=by simpa using hb
  subst e
  exact I1.kD (Nat.le_refl _) (I1.bu.fresh (Nat.le_refl _))
def Mx (ta:TA):TI:=fun σ H R=>ta σ H fun vs H1=> ∃j:Int,vs=[.int j]/\ -(2 ^ 62)<=j/\j<2 ^ 62/\R (GC 0 j.toNat) H1
def Mz (ta:TA):TI:=fun σ H R=>ta σ H fun vs H1=> ∃i j:Int,vs=[.int i, .int j]/\(-(2 ^ 62)<=i/\i<2 ^ 62/\ -(2 ^ 62)<=j/\j<2 ^ 62)/\R (GC i (j - i).toNat) H1
theorem fQ {a:Expr} {ta:TA} {p pos:Pos} (hg:Gl X "range") (hm:X.mg "range"=none) (ha:PA X [a] ta) (hs:starEach [a] X.env=[(false,eval a X.env)]:=by rfl):PI X tg (.Call (.Name "range" p) [a] [] pos) (Mx ta):=by
 intro pins s σ H R I h
 refine Call_ (dE I hg hm boot_range (PyProof.Rows.callWith_type1 (bZ (ha pos pins s σ H _ I h) fun us s1 ⟨vs,H1,I1,r1,q1⟩=>?_) hs rfl))
 obtain ⟨j,e,q1,q2,q⟩:=q1
 subst e
 cases r1 with
 | cons r rr=>
  cases rr
  obtain ⟨t,rfl⟩:=r
  exact call_range_1 (u3 I1 (by omega) (by omega) q1 q2 (by simpa using q))
theorem q_ {a b:Expr} {ta:TA} {p pos:Pos} (hg:Gl X "range") (hm:X.mg "range"=none) (ha:PA X [a,b] ta) (hs:starEach [a,b] X.env=[(false,eval a X.env),(false,eval b X.env)]:=by rfl) (tf:starEach [b] X.env=[(false,eval b X.env)]:=by rfl):
  PI X tg (.Call (.Name "range" p) [a,b] [] pos) (Mz ta):=by
 intro pins s σ H R I h
 refine Call_ (dE I hg hm boot_range (PyProof.Rows.callWith_type1 (bZ (ha pos pins s σ H _ I h) fun us s1 ⟨vs,H1,I1,r1,q1⟩=>?_) (by rw[hs,tf]) (by rw[tf];rfl)))
 obtain ⟨i,j,e,⟨q1,q2,q3,q4⟩,q⟩:=q1
 subst e
 cases r1 with
 | cons r rr=>
  cases rr with
  | cons r' rr=>
   cases rr
   obtain ⟨t,rfl⟩:=r
   obtain ⟨t',rfl⟩:=r'
   exact call_range_2 (u3 I1 q1 q2 q3 q4 q)
def RZ (wi:TI) (g:TG) (tb:TS):TS:=fun D σ H=>wi σ H fun J H1=> ∃W:Nat->Nat->St->Hp->Prop,(∃m,W 0 m σ H1)/\ ∀i m σ H,W i m σ H->
 (J.stop i H/\D.nx σ H)\/(J.go i H/\ ∃N:St->Hp->Prop,(∀σ' H',N σ' H'-> ∃m',m'<m/\W (i+1) m' σ' H')/\ ∀x H',J.yD i H x H'->g x σ H' fun σ2 H2=>tb { D with nx:=N,ct:=N,bk:=D.nx } σ2 H2)
noncomputable def og (fp:List Addr) (h:Heap):List (Addr×Obj):=fp.filterMap fun b=>(h.get? b).map fun o=>(b,o)
theorem il {fp:List Addr} {h:Heap} {b:Addr} {o:Obj} (hb:b∈fp) (e:h.get? b=some o):(b,o)∈og fp h:=List.mem_filterMap.mpr ⟨b,hb,by rw[e];rfl⟩
theorem z0 {fp:List Addr} {h:Heap} {p:Addr×Obj} (hp:p∈og fp h):p.1∈fp/\h.get? p.1=some p.2:=by
 obtain ⟨b,hb,e⟩:=List.mem_filterMap.mp hp
 cases q:h.get? b with
 | none=>rw[q]at e;cases e
 | some o=>
  rw[q]at e
  have e':(b,o)=p:=Option.some.inj e
  subst e'
  exact ⟨hb,q⟩
theorem Inv.pinned {pins:List (Addr×Obj)} {σ:St} {H:Hp} {s:Shared} {fp:List Addr} (I:Inv X pins σ H s) (hf: ∀b∈fp,nj X pins H b) (ho: ∀b∈fp, ∃o,s.heap.get? b=some o/\ ∀v,o.data≠ .cell v):Inv X (pins++og fp s.heap) σ H s:=
 I.kB fun p hp=>(List.mem_append.mp hp).elim (fun z=>I.pin p (List.mem_append_right _ z)) fun z=>by
  obtain ⟨hb,e⟩:=z0 z
  obtain ⟨f0,f1,f2,_⟩:=hf p.1 hb
  obtain ⟨o,e',d⟩:=ho p.1 hb
  rw[e]at e';cases e'
  exact ⟨e,f0,f1,f2,d⟩
theorem Inv.i8 {pins pl:List (Addr×Obj)} {σ:St} {H:Hp} {s:Shared} (I:Inv X (pins++pl) σ H s):Inv X pins σ H s:=I.kB fun p hp=>I.pin p (List.mem_append_right _ (List.mem_append_left _ hp))
theorem bp {iter:Expr} {body:List Stmt} {wi:TI} {g:TG} {tb:TS} {pos:Pos} (hp:PassesOwn (model X.prog X.w) X.A X.env X.xe) (hc:X.calm=true) (hi:PI X tg iter wi) (hg:PG X tg g) (hb:zX X body tb)
  (hs: ∀x,foldedSetIterable iter X.env x=pure x:=by intro _;rfl):PS X (.For tg iter body [] pos) (RZ wi g tb):=by
 intro pins s σ H D I h
 refine wpAny_For (bZ (hi pins s σ H _ I h) fun v s1 h1=>bZ h1 fun RX s2 h2=>?_) hs
 obtain ⟨it,fp,tn,J,H2,e,I2,T,lR,f2,W,⟨m0,w0⟩,turn⟩:=h2
 subst e
 -- aa1 stays true of EJ IL objects through EJ loop
 have IM: ∀{H':Hp},(∀b∈fp,H' b=none)-> ∀b∈fp,nj X pins H' b:=fun hn b hb=>⟨hn b hb,(f2 b hb).2⟩
 refine codeAny_forLoop_any (fun n s'=> ∃i σ' H',Inv X pins σ' H' s'/\tn i s'.heap/\(∀b∈fp,H' b=none)/\W i n σ' H') ?_ m0 ⟨0,σ,H2,I2,lR,fun b hb=>(f2 b hb).1,w0⟩
 rintro n s3 ⟨i,σ3,H3,I3,MA,MB,w3⟩
 rcases turn i n σ3 H3 w3 with ⟨stop,qn⟩ | ⟨go,N,hN,step⟩
 ·refine wpAny_passesOwn hp (bZ (T.done X rfl rfl rfl hc i pins s3 σ3 H3 X.xe I3 (IM MB) MA stop) fun r s4 ⟨hr,I4⟩=>?_)
  subst hr
  exact wpAny_execs_nil ⟨σ3,H3,I4,qn⟩
 ·refine wpAny_passesOwn hp (bZ (T.item X rfl rfl rfl hc i pins s3 σ3 H3 X.xe I3 (IM MB) MA go) fun r s4 ⟨u,hr,h4⟩=>?_)
  subst hr
  refine wpAny_passesOwn hp (bZ h4 fun _ s5 ⟨x,H5,I5,r5,y5,IQ,R0⟩=>?_)
  have R1:=I5.pinned (IM R0) (T.obj _ _ IQ)
  refine wpAny_passesOwn hp (bZ (hg _ s5 σ3 H5 x u _ R1 r5 (step x H5 y5)) fun _ s6 ⟨σ6,H6,I6,q6⟩=>?_)
  refine wpAny_passesOwn hp (bZ (hb _ s6 σ6 H6 _ I6 q6) fun f s7 q7=>?_)
  have again: ∀{σ7:St} {H7:Hp},Inv X (pins++og fp s5.heap) σ7 H7 s7->N σ7 H7-> ∃m,m<n/\ ∃i σ' H',Inv X pins σ' H' s7/\tn i s7.heap/\(∀b∈fp,H' b=none)/\W i m σ' H':=fun {σ7 H7} I7 n7=>by
   obtain ⟨m',hm,w7⟩:=hN σ7 H7 n7
   refine ⟨m',hm,i+1,σ7,H7,I7.i8,T.keep _ _ _ IQ fun b hb o e=>(I7.pin (b,o) (List.mem_append_right _ (List.mem_append_right _ (il hb e)))).1,fun b hb=>?_,w7⟩
   obtain ⟨o,e,d⟩:=T.obj _ _ IQ b hb
   exact (I7.pin (b,o) (List.mem_append_right _ (List.mem_append_right _ (il hb e)))).2.1
  cases f with
  | next=>obtain ⟨σ7,H7,I7,n7⟩:=q7;exact again I7 n7
  | cont=>obtain ⟨σ7,H7,I7,n7⟩:=q7;exact again I7 n7
  | brk=>obtain ⟨σ7,H7,I7,q7⟩:=q7;exact ⟨σ7,H7,I7.i8,q7⟩
  | ret v=>obtain ⟨x7,σ7,H7,I7,r7,q7⟩:=q7;exact ⟨x7,σ7,H7,I7.i8,r7,q7⟩
end
theorem f_ {K:PySem.W.Frag} {a:Addr} {xs:List V} {g:TG} {tb:TS} {D:Ends} {σ:St} {H:Hp} (Pv:Nat->St->Hp->Prop) (h0:Pv 0 σ H) (hl: ∀i σ H,i<=xs.length->Pv i σ H->aT K H a xs)
  (hs: ∀i x σ H,xs[i]? =some x->Pv i σ H->g x σ H fun σ2 H2=>tb { D with nx:=Pv (i+1),ct:=Pv (i+1),bk:=D.nx } σ2 H2) (hd: ∀σ H,Pv xs.length σ H->D.nx σ H):
  ∃W:Nat->Nat->St->Hp->Prop,(∃m,W 0 m σ H)/\ ∀i m σ H,W i m σ H->
   ((LI K a).stop i H/\D.nx σ H)\/((LI K a).go i H/\ ∃N:St->Hp->Prop,(∀σ' H',N σ' H'-> ∃m',m'<m/\W (i+1) m' σ' H')/\ ∀x H',(LI K a).yD i H x H'->g x σ H' fun σ2 H2=>tb { D with nx:=N,ct:=N,bk:=D.nx } σ2 H2):=by
 refine ⟨fun i m σ H=>m=xs.length - i/\i<=xs.length/\Pv i σ H,⟨xs.length,by simp,Nat.zero_le _,h0⟩,?_⟩
 rintro i m σ H ⟨rfl,hi,p⟩
 have q:=hl i σ H hi p
 by_cases cy:i<xs.length
 ·refine .inr ⟨⟨xs,xs[i],q,by simp[cy]⟩,Pv (i+1),fun σ' H' p'=>⟨xs.length - (i+1),by omega,rfl,cy,p'⟩,fun x H' y=>?_⟩
  obtain ⟨e,y⟩:=y
  subst e
  exact hs i x σ _ (y xs q) p
 ·have e:i=xs.length:=by omega
  subst e
  exact .inl ⟨⟨xs,q,Nat.le_refl _⟩,hd σ H p⟩
theorem gX {lo:Int} {n:Nat} {g:TG} {tb:TS} {D:Ends} {σ:St} {H:Hp} (Pv:Nat->St->Hp->Prop) (h0:Pv 0 σ H)
  (hs: ∀i σ H,i<n->Pv i σ H->g (.int (lo+i)) σ H fun σ2 H2=>tb { D with nx:=Pv (i+1),ct:=Pv (i+1),bk:=D.nx } σ2 H2) (hd: ∀σ H,Pv n σ H->D.nx σ H):
  ∃W:Nat->Nat->St->Hp->Prop,(∃m,W 0 m σ H)/\ ∀i m σ H,W i m σ H->
   ((GC lo n).stop i H/\D.nx σ H)\/((GC lo n).go i H/\ ∃N:St->Hp->Prop,(∀σ' H',N σ' H'-> ∃m',m'<m/\W (i+1) m' σ' H')/\ ∀x H',(GC lo n).yD i H x H'->g x σ H' fun σ2 H2=>tb { D with nx:=N,ct:=N,bk:=D.nx } σ2 H2):=by
 refine ⟨fun i m σ H=>m=n - i/\i<=n/\Pv i σ H,⟨n,by simp,Nat.zero_le _,h0⟩,?_⟩
 rintro i m σ H ⟨rfl,hi,p⟩
 by_cases cy:i<n
 ·refine .inr ⟨cy,Pv (i+1),fun σ' H' p'=>⟨n - (i+1),by omega,rfl,cy,p'⟩,fun x H' y=>?_⟩
  obtain ⟨e,y⟩:=y
  subst e y
  exact hs i σ _ cy p
 ·have e:i=n:=by omega
  subst e
  exact .inl ⟨Nat.le_refl _,hd σ H p⟩
end L2
namespace L2
open PySem PySem.Spec PyProof.Rows
abbrev R2:=V->V->Hp->VK->Prop
def gD (X:Cx) (f:Value->Value->Sem Value) (r:R2):Prop:=
 ∀(pins:List (Addr×Obj)) (s:Shared) (σ:St) (H:Hp) (x y:V) (v u:Value) (Q:VK),Inv X pins σ H s->RelV x v->RelV y u->r x y H Q->
  wpAny (model X.prog X.w) X.A (f v u) (EP X pins σ Q) X.xe s
def R3 (X:Cx) (f:Value->Sem Value) (r:V->Hp->VK->Prop):Prop:=
 ∀(pins:List (Addr×Obj)) (s:Shared) (σ:St) (H:Hp) (x:V) (v:Value) (Q:VK),Inv X pins σ H s->RelV x v->r x H Q->
  wpAny (model X.prog X.w) X.A (f v) (EP X pins σ Q) X.xe s
def dH (X:Cx) (f:Value) (r:List V->Hp->VK->Prop):Prop:=
 ∀(pins:List (Addr×Obj)) (s:Shared) (σ:St) (H:Hp) (xs:List V) (us:List Value) (Q:VK),Inv X pins σ H s->Vals xs us->r xs H Q->
  wpAny (model X.prog X.w) X.A (call f us) (EP X pins σ Q) X.xe s
def R4 (X:Cx) (r:V->Hp->(Bool->Hp->Prop)->Prop):Prop:=
 ∀(pins:List (Addr×Obj)) (s:Shared) (σ:St) (H:Hp) (x:V) (v:Value) (Q:Bool->Hp->Prop),Inv X pins σ H s->RelV x v->r x H Q->
  wpAny (model X.prog X.w) X.A (truthy v) (TP X pins σ Q) X.xe s
def P4 (r:R2) (ta tb:TE):TE:=fun σ H Q=>ta σ H fun x H1=>tb σ H1 fun y H2=>r x y H2 Q
def tUn (r:V->Hp->VK->Prop) (ta:TE):TE:=fun σ H Q=>ta σ H fun x H1=>r x H1 Q
def rI (C:Int->Int->Prop) (g:Int->Int->V):R2:=fun x y H Q=> ∃i j,x= .int i/\y= .int j/\C i j/\Q (g i j) H
def Ee (g:Int->Int->V):R2:=fun x y H Q=> ∃i j,x= .int i/\y= .int j/\Q (g i j) H
def rU (g:Int->V):V->Hp->VK->Prop:=fun x H Q=> ∃i,x= .int i/\Q (g i) H
section
variable {X:Cx} {a b c:Expr} {ta tb tc:TE} {pos:Pos}
theorem IS (ha:PE X a ta) (hb:PE X b tb) {pins:List (Addr×Obj)} {s:Shared} {σ:St} {H:Hp} {R:V->V->Hp->Prop} (I:Inv X pins σ H s)
  (h:ta σ H fun x H1=>tb σ H1 fun y H2=>R x y H2) {Q:Value->Shared->Prop} {f:Value->Value->Sem Value}
  (hf: ∀v u s2 x y H2,Inv X pins σ H2 s2->RelV x v->RelV y u->R x y H2->wpAny (model X.prog X.w) X.A (f v u) Q X.xe s2):
  wpAny (model X.prog X.w) X.A (eval a X.env) (fun v s₁=>wpAny (model X.prog X.w) X.A (eval b X.env) (fun u s₂=>wpAny (model X.prog X.w) X.A (f v u) Q X.xe s₂) X.xe s₁) X.xe s:=by
 refine bZ (ha pins s σ H _ I h) fun v s1 ⟨x,H1,I1,r1,q1⟩=>?_
 refine bZ (hb pins s1 σ H1 _ I1 q1) fun u s2 ⟨y,H2,I2,r2,q2⟩=>?_
 exact hf v u s2 x y H2 I2 r1 r2 q2
theorem aK {op:Operator} {r:R2} (ho:gD X (binaryOp op) r) (ha:PE X a ta) (hb:PE X b tb):PE X (.BinOp a op b pos) (P4 r ta tb):=by
 intro pins s σ H Q I h
 exact wpAny_BinOp (IS ha hb I h fun v u s2 x y H2 I2 rx ry q=>ho pins s2 σ H2 x y v u Q I2 rx ry q)
theorem B2 {op:UnaryOp} {r:V->Hp->VK->Prop} (ho:R3 X (unaryOp op) r) (ha:PE X a ta):PE X (.UnaryOp op a pos) (tUn r ta):=by
 intro pins s σ H Q I h
 exact UnaryOp_ (bZ (ha pins s σ H _ I h) fun v s1 ⟨x,H1,I1,r1,q1⟩=>ho pins s1 σ H1 x v Q I1 r1 q1)
theorem P5 {f:Value->Value->Sem Value} {C:Int->Int->Prop} {g:Int->Int->Int}
  (rule: ∀(i j:Int) (t u:Tok) (s:Shared) (Q:Value->Shared->Prop) (E:Value->Shared->Prop),C i j->Q (.int (g i j) s.toks) { s with toks:=s.toks+1 }->wpAny (model X.prog X.w) X.A (f (.int i t) (.int j u)) Q E s):
  gD X f (rI C fun i j=> .int (g i j)):=by
 intro pins s σ H x y v u Q I rx ry h
 obtain ⟨i,j,rfl,rfl,hc,q⟩:=h
 obtain ⟨t,rfl⟩:=rx
 obtain ⟨t',rfl⟩:=ry
 exact rule i j t t' s _ _ hc ⟨.int (g i j),H,I.tok _,⟨_,rfl⟩,q⟩
theorem MC {f:Value->Value->Sem Value} {g:Int->Int->Int}
  (rule: ∀(i j:Int) (t u:Tok) (s:Shared) (Q:Value->Shared->Prop) (E:Value->Shared->Prop),Q (.int (g i j) s.toks) { s with toks:=s.toks+1 }->wpAny (model X.prog X.w) X.A (f (.int i t) (.int j u)) Q E s):
  gD X f (Ee fun i j=> .int (g i j)):=by
 intro pins s σ H x y v u Q I rx ry h
 obtain ⟨i,j,rfl,rfl,q⟩:=h
 obtain ⟨t,rfl⟩:=rx
 obtain ⟨t',rfl⟩:=ry
 exact rule i j t t' s _ _ ⟨.int (g i j),H,I.tok _,⟨_,rfl⟩,q⟩
theorem EK {f:Value->Value->Sem Value} {g:Int->Int->Bool}
  (rule: ∀(i j:Int) (t u:Tok) (s:Shared) (Q:Value->Shared->Prop) (E:Value->Shared->Prop),Q (.bool (g i j)) s->wpAny (model X.prog X.w) X.A (f (.int i t) (.int j u)) Q E s):
  gD X f (Ee fun i j=> .bl (g i j)):=by
 intro pins s σ H x y v u Q I rx ry h
 obtain ⟨i,j,rfl,rfl,q⟩:=h
 obtain ⟨t,rfl⟩:=rx
 obtain ⟨t',rfl⟩:=ry
 exact rule i j t t' s _ _ ⟨.bl (g i j),H,I,rfl,q⟩
def R5 (i j:Int):Prop:=0<j/\j<1073741824
def R6 (i j:Int):Prop:=0<=j/\j<=1000000/\i.natAbs<2 ^ 64
def IU (i j:Int):Prop:=(-(2 ^ 64)<i/\i<2 ^ 64)\/(-(2 ^ 64)<j/\j<2 ^ 64)
theorem IU.ok {i j:Int} (h:IU i j):IntMulOk i j:=by
 rcases h with ⟨h1,h2⟩ | ⟨h1,h2⟩
 ·exact .of_left (intBits_le_64 h1 h2)
 ·exact .of_right (intBits_le_64 h1 h2)
theorem bV:gD X (binaryOp .Add) (Ee fun i j=> .int (i+j)):=MC fun _ _ _ _ _ _ _ q=>add_int q
theorem cX:gD X (binaryOp .Sub) (Ee fun i j=> .int (i - j)):=MC fun _ _ _ _ _ _ _ q=>sub_int q
theorem lZ:gD X (binaryOp .Mult) (rI IU fun i j=> .int (i*j)):=P5 fun _ _ _ _ _ _ _ hc q=>mul_int q hc.ok
theorem tm:gD X (binaryOp .FloorDiv) (rI R5 fun i j=> .int (i / j)):=P5 fun i j _ _ _ _ _ hc q=>by
 have h1:(0:Int)<j:=hc.1
 have h2:j<1073741824:=hc.2
 exact floordiv_int (by omega) (by rw[Int.fdiv_eq_ediv_of_nonneg i (by omega)];exact q) (.inl (PyProof.noPylong_small (by omega)))
theorem gP:gD X (binaryOp .Mod) (rI (fun _ j=>0<j) fun i j=> .int (i%j)):=P5 fun i j _ _ _ _ _ hc q=>by
 have h1:(0:Int)<j:=hc
 exact mod_int' (by omega) (by rw[Int.fmod_eq_emod_of_nonneg i (by omega)];exact q)
theorem B3:gD X (binaryOp .Pow) (rI R6 fun i j=> .int (i ^ j.toNat)):=P5 fun _ _ _ _ _ _ _ hc q=>pow_int_small hc.1 hc.2.1 hc.2.2 q
theorem unI {f:Value->Sem Value} {g:Int->Int}
  (rule: ∀(i:Int) (t:Tok) (s:Shared) (Q:Value->Shared->Prop) (E:Value->Shared->Prop),Q (.int (g i) s.toks) { s with toks:=s.toks+1 }->wpAny (model X.prog X.w) X.A (f (.int i t)) Q E s):
  R3 X f (rU fun i=> .int (g i)):=by
 intro pins s σ H x v Q I rx h
 obtain ⟨i,rfl,q⟩:=h
 obtain ⟨t,rfl⟩:=rx
 exact rule i t s _ _ ⟨.int (g i),H,I.tok _,⟨_,rfl⟩,q⟩
theorem xa:R3 X (unaryOp .USub) (rU fun i=> .int (-i)):=unI fun _ _ _ _ _ q=>neg_int q
end
noncomputable def MD:V->V->Bool
 | .ck, .ck=>true | .ck, .int _=>true | .int _, .ck=>true | .ck, .bl _=>true | .bl _, .ck=>true | .ck, .str _=>true | .str _, .ck=>true
 | .int _, .int _=>true | .bl _, .bl _=>true | .str _, .str _=>true | .zT _, .zT _=>true
 | .int _, .str _=>true | .str _, .int _=>true | .bl _, .str _=>true | .str _, .bl _=>true
 | _,_=>false
def rEq:R2:=fun x y H Q=>MD x y=true/\Q (.bl (decide (x=y))) H
def rNe:R2:=fun x y H Q=>MD x y=true/\Q (.bl (!decide (x=y))) H
theorem yE {i j:Int}:decide (V.int i=V.int j)=(i==j):=by
 rw[Bool.eq_iff_iff]
 simp
theorem B4 {i j:Bool}:decide (V.bl i=V.bl j)=(i==j):=by
 rw[Bool.eq_iff_iff]
 simp
theorem yF {i j:Str}:decide (V.str i=V.str j)=(i==j):=by
 rw[Bool.eq_iff_iff]
 simp
theorem yG {i j:Array UInt8}:decide (V.zT i=V.zT j)=(i.toList==j.toList):=by
 rw[Bool.eq_iff_iff]
 cases i
 cases j
 simp
section
variable {X:Cx} {a b c:Expr} {ta tb tc:TE} {pos:Pos}
theorem bq {pins:List (Addr×Obj)} {σ:St} {H:Hp} {s:Shared} {Q:VK} {k k':Bool} (I:Inv X pins σ H s) (q:Q (.bl k) H) (e:k=k'):EP X pins σ Q (.bool k') s:=by
 subst e
 exact ⟨.bl k,H,I,rfl,q⟩
theorem GF:gD X (compareOp .Eq) rEq:=by
 intro pins s σ H x y v u Q I rx ry h
 obtain ⟨hs,q⟩:=h
 cases x with
 | ck=>
  cases rx
  cases y with
  | ck=>cases ry;exact PySem.EqNone.eq_none_none (bq I q (by simp))
  | bl j=>cases ry;exact PySem.EqNone.eq_none_bool (bq I q (by simp))
  | int j=>obtain ⟨t',rfl⟩:=ry;exact PySem.EqNone.eq_none_int (bq I q (by simp))
  | str j=>obtain ⟨t',rfl⟩:=ry;exact PySem.EqNone.eq_none_str (bq I q (by simp))
  | _=>exact absurd (show false=true from hs) Bool.false_ne_true
 | bl i=>
  cases rx
  cases y with
  | ck=>cases ry;exact PySem.EqNone.eq_bool_none (bq I q (by simp))
  | bl j=>cases ry;exact eq_bool (bq I q B4)
  | str j=>obtain ⟨t',rfl⟩:=ry;exact PySem.EqMixed.eq_bool_str (bq I q (by simp))
  | _=>exact absurd (show false=true from hs) Bool.false_ne_true
 | int i=>
  obtain ⟨t,rfl⟩:=rx
  cases y with
  | ck=>cases ry;exact PySem.EqNone.eq_int_none (bq I q (by simp))
  | int j=>obtain ⟨t',rfl⟩:=ry;exact eq_int (bq I q yE)
  | str j=>obtain ⟨t',rfl⟩:=ry;exact PySem.EqMixed.eq_int_str (bq I q (by simp))
  | _=>exact absurd (show false=true from hs) Bool.false_ne_true
 | str i=>
  obtain ⟨t,rfl⟩:=rx
  cases y with
  | ck=>cases ry;exact PySem.EqNone.eq_str_none (bq I q (by simp))
  | bl j=>cases ry;exact PySem.EqMixed.eq_str_bool (bq I q (by simp))
  | int j=>obtain ⟨t',rfl⟩:=ry;exact PySem.EqMixed.eq_str_int (bq I q (by simp))
  | str j=>obtain ⟨t',rfl⟩:=ry;exact eq_str (bq I q yF)
  | _=>exact absurd (show false=true from hs) Bool.false_ne_true
 | zT i=>
  obtain ⟨t,rfl⟩:=rx
  cases y with
  | zT j=>obtain ⟨t',rfl⟩:=ry;exact PySem.W.eq_bytes (bq I q yG)
  | _=>exact absurd (show false=true from hs) Bool.false_ne_true
 | _=>cases y<;>exact absurd (show false=true from hs) Bool.false_ne_true
theorem B5:gD X (compareOp .NotEq) rNe:=by
 intro pins s σ H x y v u Q I rx ry h
 obtain ⟨hs,q⟩:=h
 cases x with
 | ck=>
  cases rx
  cases y with
  | ck=>cases ry;exact PySem.EqNone.ne_none_none (bq I q (by simp))
  | bl j=>cases ry;exact PySem.EqNone.ne_none_bool (bq I q (by simp))
  | int j=>obtain ⟨t',rfl⟩:=ry;exact PySem.EqNone.ne_none_int (bq I q (by simp))
  | str j=>obtain ⟨t',rfl⟩:=ry;exact PySem.EqNone.ne_none_str (bq I q (by simp))
  | _=>exact absurd (show false=true from hs) Bool.false_ne_true
 | bl i=>
  cases rx
  cases y with
  | ck=>cases ry;exact PySem.EqNone.ne_bool_none (bq I q (by simp))
  | bl j=>cases ry;exact ne_bool (bq I q (congrArg not B4))
  | str j=>obtain ⟨t',rfl⟩:=ry;exact PySem.EqMixed.ne_bool_str (bq I q (by simp))
  | _=>exact absurd (show false=true from hs) Bool.false_ne_true
 | int i=>
  obtain ⟨t,rfl⟩:=rx
  cases y with
  | ck=>cases ry;exact PySem.EqNone.ne_int_none (bq I q (by simp))
  | int j=>obtain ⟨t',rfl⟩:=ry;exact ne_int (bq I q (congrArg not yE))
  | str j=>obtain ⟨t',rfl⟩:=ry;exact PySem.EqMixed.ne_int_str (bq I q (by simp))
  | _=>exact absurd (show false=true from hs) Bool.false_ne_true
 | str i=>
  obtain ⟨t,rfl⟩:=rx
  cases y with
  | ck=>cases ry;exact PySem.EqNone.ne_str_none (bq I q (by simp))
  | bl j=>cases ry;exact PySem.EqMixed.ne_str_bool (bq I q (by simp))
  | int j=>obtain ⟨t',rfl⟩:=ry;exact PySem.EqMixed.ne_str_int (bq I q (by simp))
  | str j=>obtain ⟨t',rfl⟩:=ry;exact ne_str (bq I q (congrArg not yF))
  | _=>exact absurd (show false=true from hs) Bool.false_ne_true
 | zT i=>
  obtain ⟨t,rfl⟩:=rx
  cases y with
  | zT j=>obtain ⟨t',rfl⟩:=ry;exact PySem.W.ne_bytes (bq I q (congrArg not yG))
  | _=>exact absurd (show false=true from hs) Bool.false_ne_true
 | _=>cases y<;>exact absurd (show false=true from hs) Bool.false_ne_true
theorem gY:gD X (compareOp .Lt) (Ee fun i j=> .bl (decide (i<j))):=EK fun _ _ _ _ _ _ _ q=>lt_int q
theorem oh:gD X (compareOp .LtE) (Ee fun i j=> .bl (decide (i<=j))):=EK fun _ _ _ _ _ _ _ q=>le_int q
theorem kE:gD X (compareOp .Gt) (Ee fun i j=> .bl (decide (j<i))):=EK fun _ _ _ _ _ _ _ q=>gt_int q
theorem GG:gD X (compareOp .GtE) (Ee fun i j=> .bl (decide (j<=i))):=EK fun _ _ _ _ _ _ _ q=>ge_int q
theorem z9:gD X (compareOp .Lt) (fun x y H Q=> ∃i j,x= .str i/\y= .str j/\Q (.bl (decide (i.cps.toList<j.cps.toList))) H):=by
 intro pins s σ H x y v u Q I rx ry h
 obtain ⟨i,j,rfl,rfl,q⟩:=h
 obtain ⟨t,rfl⟩:=rx
 obtain ⟨t',rfl⟩:=ry
 exact lt_str (bq I q rfl)
theorem z_:gD X (compareOp .In) (fun x y H Q=> ∃i j,x= .str i/\y= .str j/\Q (.bl (!(Builtin.Str.occurrences j i 0 j.length 1).isEmpty)) H):=by
 intro pins s σ H x y v u Q I rx ry h
 obtain ⟨i,j,rfl,rfl,q⟩:=h
 obtain ⟨t,rfl⟩:=rx
 obtain ⟨t',rfl⟩:=ry
 exact in_str (bq I q rfl)
theorem B6:gD X (compareOp .Is) (fun x y H Q=>y= .ck/\Q (.bl (decide (x= .ck))) H):=by
 intro pins s σ H x y v u Q I rx ry h
 obtain ⟨rfl,q⟩:=h
 cases ry
 refine is_none_gen (bq I q ?_)
 cases x<;>first
  |(cases rx;rfl)
  |(obtain ⟨t,rfl⟩:=rx;rfl)
theorem tD:gD X (compareOp .IsNot) (fun x y H Q=>y= .ck/\Q (.bl (!decide (x= .ck))) H):=by
 intro pins s σ H x y v u Q I rx ry h
 obtain ⟨rfl,q⟩:=h
 cases ry
 refine isnot_none_gen (bq I q ?_)
 cases x<;>first
  |(cases rx;rfl)
  |(obtain ⟨t,rfl⟩:=rx;rfl)
theorem aM (b:Expr) {op:CmpOp} (h:op≠ .In:=by decide) (h2:op≠ .NotIn:=by decide):behindInMarks op b=false:=by
 have e1:(op==CmpOp.In)=false:=by cases op<;>first | rfl | exact absurd rfl h
 have e2:(op==CmpOp.NotIn)=false:=by cases op<;>first | rfl | exact absurd rfl h2
 cases b<;>simp[behindInMarks,e1,e2]
theorem kF {op:CmpOp} {r:R2} (ho:gD X (compareOp op) r) (ha:PE X a ta) (hb:PE X b tb) (hm:behindInMarks op b=false):PE X (.Compare a [op] [b] pos) (P4 r ta tb):=by
 intro pins s σ H Q I h
 exact wpAny_Compare1 (IS ha hb I h fun v u s2 x y H2 I2 rx ry q=>ho pins s2 σ H2 x y v u Q I2 rx ry q) hm
def GH (t:TE):TT:=fun σ H Q=>t σ H fun x H'=> ∃k,x= .bl k/\Q k H'
theorem aB {op:CmpOp} {r:R2} (ho:gD X (compareOp op) r) (ha:PE X a ta) (hb:PE X b tb) (hm:behindInMarks op b=false):PT X (.Compare a [op] [b] pos) (GH (P4 r ta tb)):=by
 intro pins s σ H Q I h
 refine wpAny_isTrue_Compare1 (bZ (ha pins s σ H _ I h) fun v s1 ⟨x,H1,I1,r1,q1⟩=>bZ (hb pins s1 σ H1 _ I1 q1) fun u s2 ⟨y,H2,I2,r2,q2⟩=>
  bZ (ho pins s2 σ H2 x y v u _ I2 r1 r2 q2) fun c s3 ⟨z,H3,I3,r3,k,e,q3⟩=>?_) hm
 subst e
 cases r3
 exact wpAny_truthy_bool ⟨H3,I3,q3⟩
def B7 (r r':R2) (ta tb tc:TE):TE:=fun σ H Q=>ta σ H fun x H1=>tb σ H1 fun y H2=>r x y H2 fun z H3=> ∃k,z= .bl k/\
 (if k=true then tc σ H3 fun w' H4=>r' y w' H4 Q else Q (.bl false) H3)
theorem u4 {op IV:CmpOp} {r r':R2} (ho:gD X (compareOp op) r) (jN:gD X (compareOp IV) r') (ha:PE X a ta) (hb:PE X b tb) (hc:PE X c tc)
  (hm:lastMarks [op,IV] [b,c]=false:=by with_unfolding_all rfl):PE X (.Compare a [op,IV] [b,c] pos) (B7 r r' ta tb tc):=by
 intro pins s σ H Q I h
 refine Compare_chain (bZ (ha pins s σ H _ I h) fun v s1 ⟨x,H1,I1,r1,q1⟩=>chain_link (bZ (hb pins s1 σ H1 _ I1 q1) fun u s2 ⟨y,H2,I2,r2,q2⟩=>
  bZ (ho pins s2 σ H2 x y v u _ I2 r1 r2 q2) fun d s3 ⟨z,H3,I3,r3,k,e,q3⟩=>?_)) hm
 subst e
 cases r3
 refine wpAny_truthy_bool ?_
 cases k with
 | false=>exact ite_ff ⟨.bl false,H3,I3,rfl,q3⟩
 | true=>exact ite_tt (chain_last (bZ (hc pins s3 σ H3 _ I3 q3) fun w' s4 ⟨z',H4,I4,r4,q4⟩=>jN pins s4 σ H4 y z' u w' Q I4 r2 r4 q4))
theorem i9 {op IV:CmpOp} {r r':R2} (ho:gD X (compareOp op) r) (jN:gD X (compareOp IV) r') (ha:PE X a ta) (hb:PE X b tb) (hc:PE X c tc)
  (hm:lastMarks [op,IV] [b,c]=false:=by with_unfolding_all rfl):PT X (.Compare a [op,IV] [b,c] pos) (GH (B7 r r' ta tb tc)):=by
 intro pins s σ H Q I h
 refine isTrue_chain (bZ (ha pins s σ H _ I h) fun v s1 ⟨x,H1,I1,r1,q1⟩=>test_link (bZ (hb pins s1 σ H1 _ I1 q1) fun u s2 ⟨y,H2,I2,r2,q2⟩=>
  bZ (ho pins s2 σ H2 x y v u _ I2 r1 r2 q2) fun d s3 ⟨z,H3,I3,r3,k,e,q3⟩=>?_)) hm
 subst e
 cases r3
 refine wpAny_truthy_bool ?_
 cases k with
 | false=>
  obtain ⟨k',e',q'⟩:=q3
  cases e'
  exact ite_ff ⟨H3,I3,q'⟩
 | true=>
  refine ite_tt (test_last (bZ (hc pins s3 σ H3 _ I3 q3) fun w' s4 ⟨z',H4,I4,r4,q4⟩=>bZ (jN pins s4 σ H4 y z' u w' _ I4 r2 r4 q4) fun d' s5 ⟨z2,H5,I5,r5,k2,e2,q5⟩=>?_))
  subst e2
  cases r5
  exact wpAny_truthy_bool ⟨H5,I5,q5⟩
def R7 (K:PySem.W.Frag) (x:V) (H:Hp) (k:Bool):Prop:=
 match x with
 | .ck=>k=false
 | .bl b=>k=b
 | .int i=>k=(i != 0)
 | .str y=>y.length<=sizeLine/\k=((y.length:Int) != 0)
 | .zT y=>y.size<=sizeLine/\k=((y.size:Int) != 0)
 | .ref p=>(∃xs,aT K H p xs/\k=!xs.isEmpty)\/(∃xs,aW K H p xs/\k=!xs.isEmpty)\/ ∃kvs,H p=some (.dK kvs)/\k=!kvs.isEmpty
 | _=>False
theorem xb {κ:Type} {kvs:List (κ×V)} {vs:List (κ×Value)} (r:KV kvs vs):(!vs.isEmpty)=!kvs.isEmpty:=by
 cases r<;>rfl
theorem oj {xs:List V} {aI:List Value} (r:Vals xs aI):(!aI.toArray.isEmpty)=!xs.isEmpty:=by
 cases r<;>simp
theorem gb:(sizeLine:Nat)<2 ^ 63:=by rw[sizeLine_eq];decide
theorem IW:R4 X (fun x H Q=> ∃k,R7 X.K x H k/\Q k H):=by
 intro pins s σ H x v Q I rx h
 obtain ⟨k,e,q⟩:=h
 have hl:=gb
 have hs:sizeLine=16777216:=sizeLine_eq
 cases x with
 | ck=>
  cases rx
  have e':k=false:=e
  subst e'
  exact truthy_none ⟨H,I,q⟩
 | bl b=>
  cases rx
  have e':k=b:=e
  subst e'
  exact wpAny_truthy_bool ⟨H,I,q⟩
 | int i=>
  obtain ⟨t,rfl⟩:=rx
  have e':k=(i != 0):=e
  subst e'
  exact PySem.P.truthy_int ⟨H,I,q⟩
 | str y=>
  obtain ⟨t,rfl⟩:=rx
  obtain ⟨hy,e'⟩:y.length<=sizeLine/\k=((y.length:Int) != 0):=e
  subst e'
  exact PySem.P.truthy_str (by omega) ⟨H,I.tok _,q⟩
 | zT y=>
  obtain ⟨t,rfl⟩:=rx
  obtain ⟨hy,e'⟩:y.size<=sizeLine/\k=((y.size:Int) != 0):=e
  subst e'
  exact PySem.W.truthy_bytes (by omega) ⟨H,I.tok _,q⟩
 | ref p=>
  cases rx
  have e':(∃xs,aT X.K H p xs/\k=!xs.isEmpty)\/(∃xs,aW X.K H p xs/\k=!xs.isEmpty)\/ ∃kvs,H p=some (.dK kvs)/\k=!kvs.isEmpty:=e
  rcases e' with ⟨xs,hx,e'⟩ | ⟨xs,hx,e'⟩ | ⟨kvs,hx,e'⟩
  ·subst e'
   obtain ⟨aI,r,pl,hz⟩:=I.list hx
   have hlen:=r.length
   exact wpAny_truthy_list pl.isList (by simp only[List.size_toArray];omega) ⟨H,I.tok _,by rw[oj r];exact q⟩
  ·subst e'
   obtain ⟨aI,r,pl,hz⟩:=I.tuple hx
   have hlen:=r.length
   exact truthy_tuple pl (by simp only[List.size_toArray];omega) ⟨H,I.tok _,by rw[oj r];exact q⟩
  ·subst e'
   obtain ⟨hz,hS,vs,r,m⟩:kvs.length<=sizeLine/\(p==sysModules)=false/\ ∃vs,KV kvs vs/\s.heap.DictOf (bT X.prog X.w) p vs:=I.bu p _ hx
   have hlen:kvs.length=vs.length:=Paired.length r
   exact wpAny_truthy_dict hS m (by omega) ⟨H,I.tok _,by rw[xb r];exact q⟩
 | _=>exact (show False from e).elim
theorem xc:gD X (binaryOp .Add) (fun x y H Q=> ∃i j,x= .str i/\y= .str j/\i.length+j.length<=sizeLine/\Q (.str (i++j)) H):=by
 intro pins s σ H x y v u Q I rx ry h
 obtain ⟨i,j,rfl,rfl,hz,q⟩:=h
 obtain ⟨t,rfl⟩:=rx
 obtain ⟨t',rfl⟩:=ry
 exact add_str (fun t' tk=>⟨.str (i++j),H,I.tok _,⟨_,rfl⟩,q⟩) hz
theorem vals1 {x:V} {us:List Value} (r:Vals [x] us): ∃u,us=[u]/\RelV x u:=by
 cases r with
 | cons r1 r2=>cases r2;exact ⟨_,rfl,r1⟩
theorem vals2 {x y:V} {us:List Value} (r:Vals [x,y] us): ∃u w',us=[u,w']/\RelV x u/\RelV y w':=by
 cases r with
 | cons r1 r2=>
  cases r2 with
  | cons r3 r4=>cases r4;exact ⟨_,_,rfl,r1,r3⟩
theorem jx (hc:X.calm=true):dH X (.builtin "max") (fun xs H Q=> ∃i j,xs=[.int i, .int j]/\Q (.int (if j>i then j else i)) H):=by
 intro pins s σ H xs us Q I r h
 obtain ⟨i,j,rfl,q⟩:=h
 obtain ⟨u,w',rfl,⟨t,rfl⟩,⟨t',rfl⟩⟩:=vals2 r
 refine max_two_ints (I.ok.hd hc) fun h' tk k=>⟨_,H,I.kept k,?_,q⟩
 by_cases hj:j>i
 ·rw[if_pos hj,if_pos hj];exact ⟨_,rfl⟩
 ·rw[if_neg hj,if_neg hj];exact ⟨_,rfl⟩
theorem l_ (hc:X.calm=true):dH X (.builtin "min") (fun xs H Q=> ∃i j,xs=[.int i, .int j]/\Q (.int (if j<i then j else i)) H):=by
 intro pins s σ H xs us Q I r h
 obtain ⟨i,j,rfl,q⟩:=h
 obtain ⟨u,w',rfl,⟨t,rfl⟩,⟨t',rfl⟩⟩:=vals2 r
 refine min_two_ints (I.ok.hd hc) fun h' tk k=>⟨_,H,I.kept k,?_,q⟩
 by_cases hj:j<i
 ·rw[if_pos hj,if_pos hj];exact ⟨_,rfl⟩
 ·rw[if_neg hj,if_neg hj];exact ⟨_,rfl⟩
theorem Aa:dH X (.type "int") (fun xs H Q=>(∃i,xs=[.int i]/\Q (.int i) H)\/ ∃k,xs=[.bl k]/\Q (.int (if k then 1 else 0)) H):=by
 intro pins s σ H xs us Q I r h
 rcases h with ⟨i,rfl,q⟩ | ⟨k,rfl,q⟩
 ·obtain ⟨u,rfl,t,rfl⟩:=vals1 r
  exact call_int_int ⟨.int i,H,I,⟨_,rfl⟩,q⟩
 ·obtain ⟨u,rfl,r1⟩:=vals1 r
  cases r1
  exact call_int_bool ⟨.int (if k then 1 else 0),H,I.tok _,⟨_,rfl⟩,q⟩
end
end L2
namespace L2
open PySem PySem.Spec PyProof.Rows
structure aa2 (h:Heap) (x dx C:Addr) (mA:Str->Option Value):Prop where
 obj:h.get? x=some (PySem.W.instObj C dx)
 ns:h.Ns1 dx mA
 ne:dx≠x
section
variable {prog:Program} {w:World} {A:Around} {E:Value->Shared->Prop} {s:Shared} {K:PySem.W.Frag} {x dx C f:Addr} {mA:Str->Option Value} {name:Str} {v:Value}
end
theorem qw.some_of {v:V} {o:Option Value} (r:qw (some v) o): ∃u,o=some u/\RelV v u:=by
 cases o with
 | none=>exact (show False from r).elim
 | some u=>exact ⟨u,rfl,r⟩
section
variable {P:Program} {w:World} {H H':Hp} {h h':Heap} {a C dx:Addr} {fs fs':List (Str×V)}
end
structure Cls (K:PySem.W.Frag) (C:Addr):Prop where
 pg:PySem.W.plainGet K C Str.empty=true
 hd:PySem.W.hasDictIn K C=true
 po:PySem.W.plainOver K C=true
 sa:PySem.W.findIn K (.ref C) "__setattr__"=some (some (.builtin "object.__setattr__"))
structure Con (K:PySem.W.Frag) (C:Addr) (f:Str) (v:V) (u:Value):Prop where
 at_:PySem.W.findIn K (.ref C) f=some (some u)
 rel:RelV v u
 get:PySem.W.specialIn K u "__get__"=some none
 cp:PySem.W.copiedNames.contains f=false
structure Meth (K:PySem.W.Frag) (C:Addr) (m:Str) (f:Addr):Prop where
 at_:PySem.W.findIn K (.ref C) m=some (some (.ref f))
 fn:PySem.W.isFn K (.ref f)=true
 kp:PySem.W.keepIn K (.ref f)=true
section
variable {X:Cx} {pins:List (Addr×Obj)} {σ:St} {H:Hp} {s:Shared} {a C dx:Addr} {fs:List (Str×V)} {f:Str} {v:V} {A:Around} {E:Value->Shared->Prop}
end
section
variable {X:Cx} {o e value:Expr} {f:Str} {pos pos' R8:Pos} {ta tv:TE}
end
section
variable {X:Cx} {pins:List (Addr×Obj)} {σ:St} {H:Hp} {s:Shared} {A:Around} {E:Value->Shared->Prop} {Q:Value->Shared->Prop} {c:Value} {b:Bool}
inductive om (K:PySem.W.Frag) (H:Hp):V->Value->Prop where
 | ck:om K H .ck (.type "NoneType")
 | bl (x:Bool):om K H (.bl x) (.type "bool")
 | int (i:Int):om K H (.int i) (.type "int")
 | str (x:Str):om K H (.str x) (.type "str")
 | Me (x:UInt64):om K H (.Me x) (.type "float")
 | lst {a:Addr} {xs:List V} (e:H a=some (.lst xs)):om K H (.ref a) (.type "list")
 | BI {a:Addr} {o:Obj} {xs:List V} (e:H a=some (.BI o (.lst xs))):om K H (.ref a) (.type "list")
 | tup {a:Addr} {xs:List V} (e:H a=some (.tup xs)):om K H (.ref a) (.type "tuple")
 | dK {a:Addr} {kvs:List (Key×V)} (e:H a=some (.dK kvs)):om K H (.ref a) (.type "dict")
 | dT {a:Addr} {kvs:List (List Key×V)} (e:H a=some (.dT kvs)):om K H (.ref a) (.type "dict")
 | ins {a C dx:Addr} {fs:List (Str×V)} (e:H a=some (.ins C dx fs)) (cl:Cls K C) (ha:PySem.W.findIn K (.ref C) "__class__"=some (some (.builtin "object.__class__")))
   (hn:PySem.W.specialIn K (.builtin "object.__class__") "__get__"=some (some (.builtin "getset_descriptor.__get__"))) (Ab:PySem.W.takesIn K (.builtin "object.__class__")=some true)
   (hm:PySem.W.mroIn K C (.type "object")=some true):om K H (.ref a) (.ref C)
end
end L2
namespace L2
open PySem PySem.Spec PyProof.Rows
structure gF (k:Nat) (A:Around):Prop where
 hd:A.handled=none
 dp:A.depth+3*k+5<recursionLimit
 un:A.units+16*k+200<cLine
 gd:A.guards=some []
theorem gF.mono {j k:Nat} {A:Around} (r:gF k A) (h:j<=k):gF j A:=⟨r.hd,by have:=r.dp;omega,by have:=r.un;omega,r.gd⟩
theorem gF.deeper {k:Nat} {A:Around} (r:gF (k+1) A) (env:Env):gF k (A.deeper env):=
 ⟨r.hd,by have:=r.dp;show A.depth+1+3*k+5<_;omega,by have:=r.un;show A.units+3+16*k+200<_;omega,r.gd⟩
theorem gF.depth {k:Nat} {A:Around} (r:gF k A):A.depth<recursionLimit:=by have:=r.dp;omega
theorem gF.units {k:Nat} {A:Around} (r:gF k A):A.units+64<cLine:=by have:=r.un;omega
def R9:TA:=fun _ H Q=>Q [] H
def ME (ta:TE) (tr:TA):TA:=fun σ H Q=>ta σ H fun x H1=>tr σ H1 fun xs H2=>Q (x::xs) H2
section
variable {X:Cx} {e:Expr} {es:List Expr} {te:TE} {t:TA} {pos:Pos}
theorem ab:PA X [] R9:=fun _ _ _ _ H Q I h=>Calls.spliced_nil ⟨[],H,I, .nil,h⟩
theorem aa (ha:PE X e te) (hr:PA X es t) (hs:starEach (e::es) X.env=(false,eval e X.env)::starEach es X.env:=by rfl):PA X (e::es) (ME te t):=by
 intro pos pins s σ H Q I h
 rw[hs]
 show wpAny _ _ (spliced ((false,eval e X.env)::backTo pos (starEach es X.env))) _ _ s
 refine Calls.spliced_cons (bZ (ha pins s σ H _ I h) fun u s1 ⟨x,H1,I1,r1,q1⟩=>?_)
 exact bZ (hr pos pins s1 σ H1 _ I1 q1) fun us s2 ⟨xs,H2,I2,r2,q2⟩=>⟨x::xs,H2,I2, .cons r1 r2,q2⟩
def R_ (t:TA):TE:=fun σ H Q=>t σ H fun xs H1=>xs.length<=sizeLine/\ ∀p,H1 p=none->Q (.ref p) (upd H1 p (.tup xs))
def Sa (t:TA):TE:=fun σ H Q=>t σ H fun xs H1=>xs.length<=sizeLine/\ ∀p,H1 p=none->Q (.ref p) (upd H1 p (.lst xs))
theorem bD {x1} (h:PA X es t):PE X (.Tuple es x1 pos) (R_ t):=by
 intro pins s σ H Q I hq
 refine wpAny_Tuple_spliced (bZ (h pos pins s σ H _ I hq) fun us s1 ⟨xs,H1,I1,r,z,q⟩=>⟨by rw[<-r.length];exact z,?_⟩)
 have hf:H1 s1.heap.objs.size=none:=I1.bu.fresh (Nat.le_refl _)
 refine ⟨.ref s1.heap.objs.size,upd H1 s1.heap.objs.size (.tup xs),I1.laid (t':=s1.toks) (fun b u e=>Heap.get?_push_of_some _ e) (Nat.le_refl _) ?_,rfl,q _ hf⟩
 exact ⟨z,us,r,⟨_,Heap.get?_push_size _ rfl,rfl,_,rfl⟩⟩
theorem bz (h:PA X es t):PE X (.List es pos) (Sa t):=by
 intro pins s σ H Q I hq
 refine wpAny_List_spliced (bZ (h pos pins s σ H _ I hq) fun us s1 ⟨xs,H1,I1,r,z,q⟩=>⟨by rw[<-r.length];exact z,?_⟩)
 have hf:H1 s1.heap.objs.size=none:=I1.bu.fresh (Nat.le_refl _)
 refine ⟨.ref s1.heap.objs.size,upd H1 s1.heap.objs.size (.lst xs),I1.laid (t':=s1.toks) (fun b u e=>Heap.get?_push_of_some _ e) (Nat.le_refl _) ?_,rfl,q _ hf⟩
 exact ⟨z,us,0,r,Heap.get?_push_size _ rfl⟩
end
abbrev Sp:=List V->Hp->VK->XK->Prop
abbrev B8:=List Env->Hp->Shared->XK->Value->Shared->Prop
structure B9 (P:Program) (w:World) (K:PySem.W.Frag) (mg:Str->Option Value) (base:Heap) (A:Around) (outer:List Env) (s:Shared) (H:Hp):Prop where
 frames:A.frames=some outer
 mod:Mod K mg base
 bs: ∀b o,base.get? b=some o->s.heap.get? b=some o/\H b=none
 Gy:base.objs.size<=s.heap.objs.size
 nZ:s.heap.FunFrames base outer
 LG: ∀b∈yy outer,H b=none
 bu:kz P w H s.heap
 bare:AllBare s.gens
def CE (outer:List Env) (P:Program) (w:World) (H:Hp) (s:Shared) (Q:VK) (u:Value) (s':Shared):Prop:=
 ∃v H',s'.os=s.os/\AllBare s'.gens/\Un (yy outer) [] H H' s.heap s'.heap/\kz P w H' s'.heap/\RelV v u/\Q v H'
def CR (CX:B8) (outer:List Env) (P:Program) (w:World) (H:Hp) (s:Shared) (Q:VK) (E:XK) (r:Result) (s':Shared):Prop:=
 match r with
 | .ok (.ret u)=>CE outer P w H s Q u s'
 | .ok _=>False
 | .error e=>CX outer H s E e s'
structure bE (P:Program) (w:World) (K:PySem.W.Frag) (mg:Str->Option Value) (base:Heap) (CX:B8) (k:Nat) (f:Addr) (fd:FuncData) (ps:List Str) (sp:Sp):Prop where
 len: ∀vs H Q E,sp vs H Q E->vs.length=ps.length
 run: ∀(A:Around) (outer:List Env) (s:Shared) (H:Hp) (args:Args) (us:List Value) (vs:List V) (Q:VK) (E:XK),gF k A->B9 P w K mg base A outer s H->BindsTo s fd args (ps.zip us)->Vals vs us->sp vs H Q E->
  codeAny (model P w) A (.call (.ref f) args) (CR CX outer P w H s Q E) s
section
variable {X:Cx} {pins:List (Addr×Obj)} {σ:St} {H:Hp} {s s':Shared}
theorem Inv.Sb (I:Inv X pins σ H s):B9 X.prog X.w X.K X.mg X.base X.A X.stack s H:=
 ⟨I.ok.frames,I.ok.mod,I.bs,Nat.le_trans I.ok.Gy I.sz,I.stack,I.yA,I.bu,I.bare⟩
theorem Inv.after {Q:VK} {u:Value} (I:Inv X pins σ H s) (h:CE X.stack X.prog X.w H s Q u s'):EP X pins σ Q u s':=by
 obtain ⟨v,H',os,bare,un,bu,r,q⟩:=h
 obtain ⟨hh,g,d,t,os'⟩:=s'
 obtain rfl:os'=s.os:=os
 exact ⟨v,H',I.call (h':=hh) (g':=g) (d':=d) (t':=t) (ch:=[]) un bu bare (fun b z=>absurd z (by simp)),r,q⟩
end
def MF (sp:Sp) (GI:List V) (E:XK) (t:TA):TE:=fun σ H Q=>t σ H fun vs H1=>sp (vs++GI) H1 Q E
def Binds (K:PySem.W.Frag) (fd:FuncData) (ps:List Str) (ds:List Value):Prop:=
 ∀(s:Shared) (us:List Value),K.In s.heap->(us++ds).length=ps.length->BindsTo s fd ⟨us,[]⟩ (ps.zip (us++ds))
theorem Binds.all {K:PySem.W.Frag} {fd:FuncData} {ps:List Str} (h: ∀us:List Value,us.length=ps.length->bindArgs fd ⟨us,[]⟩=pure (ps.zip us)):Binds K fd ps []:=fun s us _ hl=>by
 rw[List.append_nil]at hl ⊢
 exact .of_eq (h us hl)
def Passes (CX:B8) (X:Cx) (E:XK):Prop:= ∀(pins:List (Addr×Obj)) (σ:St) (H:Hp) (s:Shared) (e:Value) (s':Shared),Inv X pins σ H s->CX X.stack H s E e s'->X.xe e s'
section
variable {X:Cx} {CX:B8} {k:Nat} {f C:Addr} {fd:FuncData} {ps:List Str} {sp:Sp} {GI:List V} {ds:List Value} {E:XK} {x m:Str} {p pos apos:Pos} {e o:Expr} {es:List Expr} {ta:TE} {t:TA}
theorem IX {pins:List (Addr×Obj)} {σ:St} {H:Hp} {s:Shared} {Q:VK} {us:List Value} {vs:List V} (F:bE X.prog X.w X.K X.mg X.base CX k f fd ps sp) (hr:gF k X.A) (hb:Binds X.K fd ps ds) (hd:Vals GI ds) (hx:Passes CX X E)
  (I:Inv X pins σ H s) (r:Vals vs us) (h:sp (vs++GI) H Q E):wpAny (model X.prog X.w) X.A (call (.ref f) us) (EP X pins σ Q) X.xe s:=by
 have r2:Vals (vs++GI) (us++ds):=r.append hd
 have hl:(us++ds).length=ps.length:=by rw[<-r2.length];exact F.len _ _ _ _ h
 refine wpAny_call (codeAny_mono (F.run X.A X.stack s H ⟨us,[]⟩ (us++ds) (vs++GI) Q E hr I.Sb (hb s us I.LH hl) r2 h) fun r s' hq=>?_)
 cases r with
 | error e=>exact hx pins σ H s e s' I hq
 | ok fl=>
  cases fl with
  | ret u=>exact I.after hq
  | next=>exact False.elim hq
  | brk=>exact False.elim hq
  | cont=>exact False.elim hq
theorem ao (F:bE X.prog X.w X.K X.mg X.base CX k f fd ps sp) (hr:gF k X.A) (hg:Gl X x) (hm:X.mg x=some (.ref f)) (hk:PySem.W.keepIn X.K (.ref f)=true) (hb:Binds X.K fd ps ds) (hd:Vals GI ds) (hx:Passes CX X E)
  (ha:PA X (e::es) t) (MG:(x==("__debug__":Str))=false:=by decide) (he:starEach (e::es) X.env=(false,eval e X.env)::starEach es X.env:=by rfl) (fJ:(backTo pos (starEach es X.env)).any (·.1)=false:=by rfl):
  PE X (.Call (.Name x p) (e::es) [] pos) (MF sp GI E t):=by
 intro pins s σ H Q I h
 refine wpAny_Call_Name_kw (yC I hg hm ?_ MG)
 refine PySem.W.callWith_K (h₀:=X.base) I.ok.mod.RA hk (bZ (ha pos pins s σ H _ I h) fun us s1 ⟨vs,H1,I1,r,q⟩=>⟨I1.LH,?_⟩) he fJ
 exact IX F hr hb hd hx I1 r q
structure Mk (K:PySem.W.Frag) (C f:Addr):Prop where
 makes:PySem.W.makesIn K C=true
 init:PySem.W.findIn K (.ref C) "__init__"=some (some (.ref f))
 fn:PySem.W.isFn K (.ref f)=true
 kp:PySem.W.keepIn K (.ref C)=true
end
section
variable {X:Cx} {CX:B8} {k:Nat} {f C:Addr} {fd:FuncData} {ps ks:List Str} {sp:Sp} {E:XK} {x m:Str} {p pos apos aa3:Pos} {e o:Expr} {es:List Expr} {kws:List Keyword} {te ta:TE} {t tk:TA} {nm:Option Str}
structure Sd (K:PySem.W.Frag) (fd:FuncData) (ps ks:List Str) (g:List Value->List Value->List Value) (gV:List V->List V->List V):Prop where
 to: ∀(s:Shared) (us ws:List Value),K.In s.heap->(g us ws).length=ps.length->BindsTo s fd ⟨us,ks.zip ws⟩ (ps.zip (g us ws))
 rel: ∀{vs:List V} {us:List Value} {zs:List V} {ws:List Value},Vals vs us->Vals zs ws->Vals (gV vs zs) (g us ws)
variable {g:List Value->List Value->List Value} {gV:List V->List V->List V}
end
structure aH (N P:List Str) (sc:Scope):Prop where
 kind:sc.kind= .function
 co:sc.isCoroutine=false
 gen:sc.isGenerator=false
 nd:N.Nodup
 pre:N.take P.length=P
 par: ∀x∈P,sc.names.lookup x=some .local\/sc.names.lookup x=some .cell
 IZ: ∀y∈sc.names,y.2≠ .free
theorem rf {kindOf:Str->Option NameKind} {x:Str}: ∀{binds:List (Str×Value)} {m:Str->Option Value},(∀v,(x,v)∉binds)->bindL kindOf binds m x=m x
 | [],_,_=>rfl
 |(n,v)::r,m,h=>by
  unfold bindL
  rw[rf fun w hw=>h w (List.mem_cons_of_mem _ hw)]
  split
  ·have:x≠n:=by rintro rfl;exact h v List.mem_cons_self
   simp[this]
  ·rfl
theorem rh {kindOf:Str->Option NameKind} {x:Str}: ∀{binds:List (Str×Value)} {m:Str->Option Value},(∀v,(x,v)∉binds)->bindC kindOf binds m x=m x
 | [],_,_=>rfl
 |(n,v)::r,m,h=>by
  unfold bindC
  rw[rh fun w hw=>h w (List.mem_cons_of_mem _ hw)]
  split
  ·rfl
  ·have:x≠n:=by rintro rfl;exact h v List.mem_cons_self
   simp[this]
theorem rj {kindOf:Str->Option NameKind} {x:Str} {v:Value}: ∀{P:List Str} {vs:List Value} {i:Nat} {m:Str->Option Value},P.Nodup->P[i]? =some x->vs[i]? =some v->kindOf x=some .local->
  bindL kindOf (P.zip vs) m x=some v
 | [],_,_,_,_,h,_,_=>by simp at h
 | _::_,[],_,_,_,_,h,_=>by simp at h
 | p::P,w::vs,0,m,nd,h1,h2,hk=>by
  simp at h1 h2;subst h1;subst h2
  show bindL kindOf ((p,w)::P.zip vs) m p=_
  unfold bindL
  rw[rf fun v hv=>(List.nodup_cons.mp nd).1 (List.of_mem_zip hv).1,if_pos hk]
  simp
 | p::P,w::vs,i+1,m,nd,h1,h2,hk=>by
  show bindL kindOf ((p,w)::P.zip vs) m x=_
  unfold bindL
  exact rj (i:=i) (List.nodup_cons.mp nd).2 (by simpa using h1) (by simpa using h2) hk
theorem rk {kindOf:Str->Option NameKind} {x:Str} {v:Value}: ∀{P:List Str} {vs:List Value} {i:Nat} {m:Str->Option Value},P.Nodup->P[i]? =some x->vs[i]? =some v->kindOf x≠some .local->
  bindC kindOf (P.zip vs) m x=some v
 | [],_,_,_,_,h,_,_=>by simp at h
 | _::_,[],_,_,_,_,h,_=>by simp at h
 | p::P,w::vs,0,m,nd,h1,h2,hk=>by
  simp at h1 h2;subst h1;subst h2
  show bindC kindOf ((p,w)::P.zip vs) m p=_
  unfold bindC
  rw[rh fun v hv=>(List.nodup_cons.mp nd).1 (List.of_mem_zip hv).1,if_neg hk]
  simp
 | p::P,w::vs,i+1,m,nd,h1,h2,hk=>by
  show bindC kindOf ((p,w)::P.zip vs) m x=_
  unfold bindC
  exact rk (i:=i) (List.nodup_cons.mp nd).2 (by simpa using h1) (by simpa using h2) hk
noncomputable def start (N:List Str) (vs:List V):St:=vs.map some++List.replicate (N.length - vs.length) none
noncomputable def Ac (CX:B8) (P:Program) (w:World) (K:PySem.W.Frag) (mg:Str->Option Value) (base:Heap) (N:List Str) (qual:Str) (scope:Scope) (f:Addr) (cd:Value) (A:Around) (outer:List Env) (s:Shared) (H:Hp) (E:XK):Cx where
 prog:=P
 w:=w
 K:=K
 mg:=mg
 base:=base
 A:=A.deeper (envOfC qual scope s.heap.objs.size f cd)
 N:=N
 s₀:=s
 H₀:=H
 env:=envOfC qual scope s.heap.objs.size f cd
 outer:=outer
 stack:=envOfC qual scope s.heap.objs.size f cd::outer
 ex:=[]
 calm:=true
 fn:=fun _=>true
 pn:=[]
 xe:=fun e s'=>wpAny (model P w) (A.deeper (envOfC qual scope s.heap.objs.size f cd)) (leaving (envOfC qual scope s.heap.objs.size f cd) e) (fun _ MH=>CX outer H s E e MH) (fun e' MH=>CX outer H s E e' MH) s'
theorem u5 {sc:Scope} {n:Nat} {x:Str} (h:sc.names.lookup x=some .cell): ∃c,(cellsFrom n sc.names []).lookup x=some c:=by
 have q:=PySem.W.cellsFrom_some sc.names n [] (.inl h)
 exact Option.isSome_iff_exists.mp q
theorem Ad {CX:B8} {P:Program} {w:World} {K:PySem.W.Frag} {mg:Str->Option Value} {base:Heap} {N ps:List Str} {qual:Str} {scope:Scope} {f:Addr} {cd:Value} {A:Around} {outer:List Env} {s s1:Shared} {H:Hp} {E:XK} {us:List Value} {vs:List V}
  (S:aH N ps scope) (hd:A.handled=none) (e0:B9 P w K mg base A outer s H) (hl:vs.length=ps.length) (r:Vals vs us)
  (x:InCallC s s.heap.objs.size (bindL (envOfC qual scope s.heap.objs.size f cd).kindOf (ps.zip us) fun _=>none) (cellsFrom (s.heap.objs.size+1) scope.names []) (bindC (envOfC qual scope s.heap.objs.size f cd).kindOf (ps.zip us) fun _=>none) s1):
  Inv (Ac CX P w K mg base N qual scope f cd A outer s H E) [] (start N vs) H s1:=by
 have fJ:ps.length<=N.length:=by have:=congrArg List.length S.pre;rw[List.length_take]at this;omega
 obtain ⟨h1,tk,rfl,hk⟩:=x.done
 have MI: ∀b:Addr,b∉(Ac CX P w K mg base N qual scope f cd A outer s H E).ex:=fun b z=>absurd (show b∈([]:List Addr) from z) (by simp)
 refine ⟨⟨e0.mod,S.kind,rfl,rfl,Nat.le_refl _,fun y z c h1 h2=>?_,fun y hy=>?_,fun y c _ h=>?_,fun _=>hd,Around.frames_deeper e0.frames, .inr ⟨rfl,rfl⟩,fun b z=>absurd z (MI b),e0.bs,e0.Gy,fun b _ _=>MI b,fun b z=>absurd z (MI b),e0.nZ,e0.LG⟩,
  rfl,e0.bare,Un.kept hk,⟨_,x.toInCall.ns,fun i y v h1 h2 h3=>?_⟩,fun y c h=>⟨_,x.cell y c h⟩,e0.bu.fresh (Nat.le_refl _),fun y c h=>?_,fun p hp=>absurd (show p∈([]:List (Addr×Obj)) from hp) (by simp),e0.bu.kept hk,?_⟩
 ·exact name_of_addr x.apart (PySem.mem_of_lookup h1) (PySem.mem_of_lookup h2)
 ·have hy:scope.names.lookup y=some .cell\/scope.names.lookup y=some .free:=hy
  rcases hy with hy | hy
  ·exact u5 hy
  ·exact absurd rfl (S.IZ _ (PySem.mem_of_lookup hy))
 ·exact Nat.le_of_lt (x.above y c (PySem.mem_of_lookup h))
 ·have hi:i<vs.length:=by
   unfold start at h2
   by_cases hi:i<vs.length
   ·exact hi
   ·rw[List.getElem?_append_right (by simpa using hi)]at h2
    rw[List.getElem?_replicate]at h2
    split at h2<;>cases h2
  have ha:vs[i]? =some v:=by
   unfold start at h2
   rw[List.getElem?_append_left (by simpa using hi),List.getElem?_map]at h2
   cases e:vs[i]? with
   | none=>rw[e]at h2;cases h2
   | some a=>rw[e]at h2;cases h2;rfl
  obtain ⟨u,hu,rv⟩:=r.get ha
  have hp:ps[i]? =some y:=by
   rw[<-S.pre,List.getElem?_take_of_lt (by omega)];exact h1
  have ndP:ps.Nodup:=by rw[<-S.pre];exact S.nd.sublist (List.take_sublist _ _)
  refine ⟨u,rv,?_⟩
  rcases S.par y (List.mem_of_getElem? hp) with k | k
  ·exact .inl ⟨k,rj ndP hp hu k⟩
  ·obtain ⟨c,e⟩:=u5 (n:=s.heap.objs.size+1) k
   refine .inr ⟨.inl k,c,e,?_⟩
   have q:=x.cell y c e
   rw[rk ndP hp hu (by show scope.names.lookup y≠_;rw[k];decide)]at q
   exact q
 ·exact e0.bu.fresh (Nat.le_of_lt (x.above y c (PySem.mem_of_lookup h)))
 ·unfold start
  show _=N.length
  rw[List.length_append,List.length_map,List.length_replicate]
  omega
theorem MJ {CX:B8} {P:Program} {w:World} {K:PySem.W.Frag} {mg:Str->Option Value} {base:Heap} {k:Nat} {f:Addr} {name qual:Str} {params:Arguments} {body:List Stmt} {scope:Scope} {dV kV doc pm cM ct oc:Value} {an od:Option Addr}
  {GJ:Array (Option Value)} {N ps:List Str} {sp:Sp} (lk:K.lookup f=some ⟨oc,od, .func (PySem.W.fnOf name qual params body scope dV kV doc pm an cM ct),GJ⟩) (uW:PySem.W.codeIn K cM qual=true) (S:aH N ps scope)
  (len: ∀vs H Q E,sp vs H Q E->vs.length=ps.length)
  (B_: ∀(A:Around) (outer:List Env) (s:Shared) (H:Hp) (vs:List V) (Q:VK) (E:XK),gF k (A.deeper (envOfC qual scope s.heap.objs.size f cM))->sp vs H Q E->
   ∃t,zX (Ac CX P w K mg base N qual scope f cM A outer s H E) body t/\t { nx:=fun _ H'=>Q .ck H',rt:=Q } (start N vs) H):
  bE P w K mg base CX (k+1) f (PySem.W.fnOf name qual params body scope dV kV doc pm an cM ct) ps sp:=by
 refine ⟨len,fun A outer s H args us vs Q E hr e0 hb r wR=>?_⟩
 have hl:=len _ _ _ _ wR
 have KX:K.In s.heap:=e0.mod.RA.keeps fun b o e=>(e0.bs b o e).1
 have lim:s.heap.NoLimit:=e0.mod.nolimit.keeps fun b o e=>(e0.bs b o e).1
 have iL: ∀y∈ps.zip us,scope.names.lookup y.1=some .local\/(scope.names.lookup y.1=some .cell/\((cellsFrom (s.heap.objs.size+1) scope.names []).lookup y.1).isSome=true):=fun ⟨n,v⟩ hy=>by
  rcases S.par n (List.of_mem_zip hy).1 with q | q
  ·exact .inl q
  ·exact .inr ⟨q,PySem.W.cellsFrom_some _ _ _ (.inl q)⟩
 refine codeAny_call_function hr.depth (KX _ _ lk) rfl S.co S.gen rfl (PySem.W.codeRec_of KX uW) (hb _ _ _ _ ?_)
 refine wpAny_newFunctionEnv_cells S.kind iL fun env he s1 x=>?_
 subst he
 refine ⟨lim.keeps x.toInCall.keep,codeAny_func ?_⟩
 obtain ⟨t,ht,hq⟩:=B_ A outer s H vs Q E (hr.deeper _) wR
 have I:Inv (Ac CX P w K mg base N qual scope f cM A outer s H E) [] (start N vs) H s1:=Ad S hr.hd e0 hl r x
 refine wpAny_mono (ht [] s1 (start N vs) H _ I hq) (fun fl s' hs=>?_) fun e s' hs=>hs
 have fin: ∀{σ':St} {H':Hp} {v:V} {u:Value},Inv (Ac CX P w K mg base N qual scope f cM A outer s H E) [] σ' H' s'->RelV v u->Q v H'->CE outer P w H s Q u s':=
  fun {σ' H' v u} J rv q=>⟨v,H',J.os,J.bare,J.base,J.bu,rv,q⟩
 cases fl with
 | ret u=>
  obtain ⟨v,σ',H',J,rv,q⟩:=hs
  exact fin J rv q
 | next=>
  obtain ⟨σ',H',J,q⟩:=hs
  exact fin (v:=V.ck) (u:=Value.none) J rfl q
 | brk=>
  obtain ⟨_,_,_,q⟩:=hs
  exact False.elim q
 | cont=>
  obtain ⟨_,_,_,q⟩:=hs
  exact False.elim q
end L2
namespace L2
open PySem PySem.Spec PyProof.Rows
section
variable {X:Cx} {x:Str} {p pos:Pos} {e:Expr} {es:List Expr} {t:TA} {id T:String} {r:List V->Hp->VK->Prop}
def tCB (r:List V->Hp->VK->Prop) (t:TA):TE:=fun σ H Q=>t σ H fun vs H1=>r vs H1 Q
theorem ar (hc:dH X (.builtin id) r) (hg:Gl X x) (hm:X.mg x=none) (hv:bootBuiltins x=some (.builtin id)) (ha:PA X (e::es) t) (hn:x≠"__name__":=by decide) (MG:(x==("__debug__":Str))=false:=by decide)
  (he:starEach (e::es) X.env=(false,eval e X.env)::starEach es X.env:=by rfl) (fJ:(backTo pos (starEach es X.env)).any (·.1)=false:=by rfl):PE X (.Call (.Name x p) (e::es) [] pos) (tCB r t):=by
 intro pins s σ H Q I h
 refine wpAny_Call_Name_kw (dE I hg hm hv ?_ hn MG)
 exact PyProof.Rows.callWith_builtin1 (bZ (ha pos pins s σ H _ I h) fun us s1 ⟨vs,H1,I1,r1,q1⟩=>hc pins s1 σ H1 vs us Q I1 r1 q1) he fJ
theorem bh (hc:dH X (.type T) r) (hg:Gl X x) (hm:X.mg x=none) (hv:bootBuiltins x=some (.type T)) (ha:PA X (e::es) t) (hn:x≠"__name__":=by decide) (MG:(x==("__debug__":Str))=false:=by decide)
  (he:starEach (e::es) X.env=(false,eval e X.env)::starEach es X.env:=by rfl) (fJ:(backTo pos (starEach es X.env)).any (·.1)=false:=by rfl):PE X (.Call (.Name x p) (e::es) [] pos) (tCB r t):=by
 intro pins s σ H Q I h
 refine wpAny_Call_Name_kw (dE I hg hm hv ?_ hn MG)
 exact PyProof.Rows.callWith_type1 (bZ (ha pos pins s σ H _ I h) fun us s1 ⟨vs,H1,I1,r1,q1⟩=>hc pins s1 σ H1 vs us Q I1 r1 q1) he fJ
end
end L2
namespace HT
open PySem PyProof.Rows
section
open PySem.SeqAt
open PySem.AutoSeq1 (wpAny_loadPart')
open PySem.MeetsSeq PySem.MeetsSeq2 PySem.MeetsSeq3
end
section
variable {prog:Program} {w:World} {A:Around} {E:Value->Shared->Prop} {s:Shared}
theorem EL {t b:Addr} {vs ws:List Value} {Q:Value->Shared->Prop} (ht:IsTup s.heap t vs.toArray) (hb:IsTup s.heap b ws.toArray) (hv:vs≠[])
  (h1:ws=[]->Q (.ref t) s) (h2:ws≠[]->Q (.ref s.heap.objs.size) { s with heap:=s.heap.push { cls:= .type "tuple",data:= .seq (vs++ws).toArray } })
  (hsz:vs.length+ws.length<=sizeLine):wpAny (model prog w) A (binaryOp .Add (.ref t) (.ref b)) Q E s:=by
 obtain ⟨⟨cls,dd,data,sl⟩,ho,hc,n,hd⟩:=id ht
 obtain ⟨⟨aa4,dd2,data2,P6⟩,I_,hc2,n2,hd2⟩:=id hb
 simp only at hc hd hc2 hd2
 subst hc hd hc2 hd2
 have e:vs.toArray++ws.toArray=(vs++ws).toArray:=by simp
 by_cases hw:ws=[]
 ·exact concat_meets ⟨_,ho,rfl⟩ ⟨_,I_,rfl⟩ noFill_tuple_add seq_tuple_add PySem.F.slot_tuple_add PySem.F.entry_tuple_add (PySem.F.args_tuple_add_2 _ _)
   (tuple_addW1 t b vs.toArray ws.toArray n n2 dd dd2 sl P6 (by simpa using hv) (by simp[hw])) ⟨ho,I_,h1 hw⟩
 ·refine concat_meets ⟨_,ho,rfl⟩ ⟨_,I_,rfl⟩ noFill_tuple_add seq_tuple_add PySem.F.slot_tuple_add PySem.F.entry_tuple_add (PySem.F.args_tuple_add_2 _ _)
   (tuple_addW2 t b vs.toArray ws.toArray n n2 dd dd2 sl P6 (by simpa using hv) (by simpa using hw) (by rw[List.size_toArray,List.size_toArray];exact hsz)) ⟨ho,I_,?_⟩
  rw[e]
  exact h2 hw
noncomputable def jS (n d:Nat):Option Int->Nat
 | none=>d
 | some v=>if v<0 then (v+(n:Int)).toNat else min v.toNat n
theorem u6 (n d:Nat):jS n d none=d:=rfl
theorem nM (n d k:Nat):jS n d (some (k:Int))=min k n:=by
 show (if (k:Int)<0 then ((k:Int)+(n:Int)).toNat else min (k:Int).toNat n)=min k n
 rw[if_neg (by omega),Int.toNat_natCast]
theorem Ja (n d:Nat) (hd:d<=n) (o:Option Int):jS n d o<=n:=by
 cases o with
 | none=>exact hd
 | some v=>
  show (if v<0 then (v+(n:Int)).toNat else min v.toNat n)<=n
  by_cases hv:v<0
  ·rw[if_pos hv];omega
  ·rw[if_neg hv];exact Nat.min_le_right _ _
end
end HT
namespace L2
open PySem PySem.Spec PyProof.Rows
abbrev TO:=St->Hp->(Option Int->Hp->Prop)->Prop
def PO (X:Cx) (e:Option Expr) (t:TO):Prop:=
 ∀(pins:List (Addr×Obj)) (s:Shared) (σ:St) (H:Hp) (Q:Option Int->Hp->Prop),Inv X pins σ H s->t σ H Q->
  wpAny (model X.prog X.w) X.A (evalPart e X.env) (fun u s'=> ∃o H',Inv X pins σ H' s'/\IsPart u o/\Q o H') X.xe s
def EM:TO:=fun _ H Q=>Q none H
def MK (t:TE):TO:=fun σ H Q=>t σ H fun x H1=> ∃i,x= .int i/\Q (some i) H1
section
variable {X:Cx} {e:Expr} {te:TE} {lo hi:Option Expr} {tl th:TO} {pos p2:Pos}
theorem cg:PO X none EM:=by
 intro pins s σ H Q I h
 rw[evalPart_none]
 exact wpAny_pure ⟨none,H,I, .none,h⟩
theorem bK (h:PE X e te):PO X (some e) (MK te):=by
 intro pins s σ H Q I hw
 rw[evalPart_some]
 refine bZ (h pins s σ H _ I hw) fun u s1 ⟨x,H1,I1,r1,q1⟩=>?_
 obtain ⟨i,rfl,q⟩:=q1
 obtain ⟨t,rfl⟩:=r1
 exact ⟨some i,H1,I1, .int i t,q⟩
def P7 (X:Cx) (r:V->Option Int->Option Int->Hp->VK->Prop):Prop:=
 ∀(pins:List (Addr×Obj)) (s:Shared) (σ:St) (H:Hp) (x:V) (v vl vu:Value) (lo hi:Option Int) (sl:Addr) (Q:VK),Inv X pins σ H s->RelV x v->s.heap.IsSliceOf sl vl vu .none->IsPart vl lo->IsPart vu hi->r x lo hi H Q->
  ∃T id,typeLookup (.type T) "__getitem__"=pure (some (.builtin id))/\s.TypeIs v T/\wpAny (model X.prog X.w) X.A (getItem v (.ref sl)) (EP X pins σ Q) X.xe s
def tSl (r:V->Option Int->Option Int->Hp->VK->Prop) (te:TE) (tl th:TO):TE:=fun σ H Q=>te σ H fun x H1=>tl σ H1 fun l H2=>th σ H2 fun u H3=>r x l u H3 Q
theorem bF {r:V->Option Int->Option Int->Hp->VK->Prop} (hr:P7 X r) (he:PE X e te) (hl:PO X lo tl) (hu:PO X hi th):PE X (.Subscript e (.Slice lo hi none p2) pos) (tSl r te tl th):=by
 intro pins s σ H Q I h
 refine Subscript_ (bZ (he pins s σ H _ I h) fun v s1 ⟨x,H1,I1,r1,q1⟩=>?_)
 refine wpAny_Slice (bZ (hl pins s1 σ H1 _ I1 q1) fun vl s2 ⟨l,H2,I2,pl,q2⟩=>bZ (hu pins s2 σ H2 _ I2 q2) fun vu s3 ⟨u,H3,I3,pu,q3⟩=>?_)
 rw[evalPart_none]
 refine wpAny_pure ?_
 have I4:Inv X pins σ H3 { s3 with heap:=s3.heap.push { cls:= .type "slice",data:= .fields #[vl,vu, .none] } }:=I3.kept (t':=s3.toks) fun b ob q=>Heap.get?_push_of_some _ q
 obtain ⟨T,id,hT,ht,hg⟩:=hr pins { s3 with heap:=s3.heap.push { cls:= .type "slice",data:= .fields #[vl,vu, .none] } } σ H3 x v vl vu l u s3.heap.objs.size Q I4 r1 (Heap.IsSliceOf.new ..) pl pu q3
 show wpAny (model X.prog X.w) X.A (subscriptTail e (.Slice lo hi none p2) v (.ref s3.heap.objs.size)) (EP X pins σ Q) X.xe { s3 with heap:=s3.heap.push { cls:= .type "slice",data:= .fields #[vl,vu, .none] } }
 exact tail_any (ops:=[.ref s3.heap.objs.size,v]) ht hT hg (by with_unfolding_all rfl)
noncomputable def qy (xs:List V) (lo hi:Option Int):List V:=(xs.drop (HT.jS xs.length 0 lo)).take (HT.jS xs.length xs.length hi - HT.jS xs.length 0 lo)
theorem u7 (xs:List V) (lo hi:Option Int):(qy xs lo hi).length<=xs.length:=by
 unfold qy
 rw[List.length_take,List.length_drop]
 omega
def GK (K:PySem.W.Frag):R2:=fun x y H Q=> ∃a b xs ys,x= .ref a/\y= .ref b/\aW K H a xs/\aW K H b ys/\xs≠[]/\xs.length+ys.length<=sizeLine/\
 (ys=[]->Q (.ref a) H)/\(ys≠[]-> ∀p,H p=none->Q (.ref p) (upd H p (.tup (xs++ys))))
theorem Vals.tE {xs:List V} {us:List Value} (r:Vals xs us):us=[]↔xs=[]:=by
 cases r with
 | nil=>simp
 | cons _ _=>simp
theorem EN:gD X (binaryOp .Add) (GK X.K):=by
 intro pins s σ H x y v u Q I rx ry h
 obtain ⟨a,b,xs,ys,rfl,rfl,ha,hb,hx,hz,q1,q2⟩:=h
 cases rx
 cases ry
 obtain ⟨aI,r1,p1,_⟩:=I.tuple ha
 obtain ⟨u9,r2,p2,_⟩:=I.tuple hb
 refine HT.EL p1 p2 (fun z=>hx (r1.tE.mp z)) (fun z=>⟨.ref a,H,I,rfl,q1 (r2.tE.mp z)⟩) (fun z=>?_) (by rw[<-r1.length, <-r2.length];exact hz)
 refine ⟨.ref s.heap.objs.size,_,I.laid (t':=s.toks) (o:= .tup (xs++ys)) (fun b ob q=>Heap.get?_push_of_some _ q) (Nat.le_refl _) ?_,rfl,q2 (fun w=>z (r2.tE.mpr w)) _ (I.bu.fresh (Nat.le_refl _))⟩
 exact ⟨by rw[List.length_append];exact hz,_,r1.append r2,IsTup.new _ _⟩
end
end L2
namespace L2
open PySem PySem.Spec PyProof.Rows
noncomputable def Ca (n:Nat) (i:Int):Option Nat:=if 0<=i then (if i<n then some i.toNat else none) else if -(n:Int)<=i then some (i+n).toNat else none
noncomputable def rl {α:Type} (xs:List α) (i:Int):Option α:=(Ca xs.length i).bind fun j=>xs[j]?
theorem yH {n:Nat} {i:Int} {j:Nat} (h:Ca n i=some j):seqIndex? i n=some j/\j<n/\ -(n:Int)<=i/\i<n:=by
 unfold Ca at h
 by_cases h0:0<=i
 ·rw[if_pos h0]at h
  by_cases h1:i<n
  ·rw[if_pos h1]at h
   have e:i.toNat=j:=Option.some.inj h
   exact ⟨by rw[seqIndex_of h0 h1,e],by omega,by omega,h1⟩
  ·rw[if_neg h1]at h;cases h
 ·rw[if_neg h0]at h
  by_cases h1: -(n:Int)<=i
  ·rw[if_pos h1]at h
   have e:(i+n).toNat=j:=Option.some.inj h
   exact ⟨by rw[seqIndex_neg (by omega) h1,e],by omega,h1,by omega⟩
  ·rw[if_neg h1]at h;cases h
theorem tF {α:Type} {xs:List α} {i:Int} {v:α} (h:rl xs i=some v): ∃j,seqIndex? i xs.length=some j/\xs[j]? =some v/\j<xs.length/\ -(xs.length:Int)<=i/\i<xs.length:=by
 unfold rl at h
 cases e:Ca xs.length i with
 | none=>rw[e]at h;cases h
 | some j=>
  rw[e]at h
  obtain ⟨h1,h2,h3,h4⟩:=yH e
  exact ⟨j,h1,h,h2,h3,h4⟩
theorem aR {α:Type} {xs:List α} {j:Nat} {v:α} (h:xs[j]? =some v):rl xs (j:Int)=some v:=by
 have hj:j<xs.length:=(List.getElem?_eq_some_iff.mp h).1
 have e:Ca xs.length (j:Int)=some j:=by
  unfold Ca
  rw[if_pos (by omega),if_pos (by omega)];simp
 unfold rl;rw[e];exact h
theorem Cb {α:Type} (xs:List α) (v:α):rl (xs++[v]) (-1)=some v:=by
 have hl:(xs++[v]).length=xs.length+1:=by simp
 have e:Ca (xs++[v]).length (-1)=some xs.length:=by
  unfold Ca
  rw[hl,if_neg (by decide),if_pos (by omega)]
  congr 1
  omega
 unfold rl
 rw[e]
 show (xs++[v])[xs.length]? =some v
 simp
def EO (b:Expr):Prop:= ∀o i,subscripted b false o i=operate [o,i] (getItem o i)
def Jb (X:Cx) (r:R2):Prop:=
 ∀(value slice:Expr) (pins:List (Addr×Obj)) (s:Shared) (σ:St) (H:Hp) (x y:V) (v u:Value) (Q:VK),Inv X pins σ H s->RelV x v->RelV y u->r x y H Q->
  subscripted slice false v u=operate [v,u] (getItem v u)->wpAny (model X.prog X.w) X.A (subscriptTail value slice v u) (EP X pins σ Q) X.xe s
def wU (X:Cx) (id:String) (r:V->List V->Hp->VK->Prop):Prop:=
 ∀(pins:List (Addr×Obj)) (s:Shared) (σ:St) (H:Hp) (x:V) (xs:List V) (v:Value) (us:List Value) (Q:VK),Inv X pins σ H s->RelV x v->Vals xs us->r x xs H Q->
  wpAny (model X.prog X.w) X.A (call (.builtin id) (v::us)) (EP X pins σ Q) X.xe s
section
variable {X:Cx} {a b:Expr} {ta tb:TE} {pos:Pos}
theorem az {r:R2} (hr:Jb X r) (ha:PE X a ta) (hb:PE X b tb) (hs:EO b):PE X (.Subscript a b pos) (P4 r ta tb):=by
 intro pins s σ H Q I h
 exact Subscript_ (IS ha hb I h fun v u s2 x y H2 I2 rx ry q=>hr a b pins s2 σ H2 x y v u Q I2 rx ry q (hs _ _))
def ML (K:PySem.W.Frag):R2:=fun x y H Q=> ∃p xs i v,x= .ref p/\y= .int i/\aT K H p xs/\rl xs i=some v/\Q v H
def MM (K:PySem.W.Frag):R2:=fun x y H Q=> ∃p xs i v,x= .ref p/\y= .int i/\aW K H p xs/\rl xs i=some v/\Q v H
def Se:R2:=fun x y H Q=> ∃z i c,x= .str z/\y= .int i/\z.length<=sizeLine/\rl z.cps.toList i=some c/\Q (.str ⟨#[c]⟩) H
theorem ER:Jb X (ML X.K):=by
 intro value slice pins s σ H x y v u Q I rx ry h hs
 obtain ⟨p,xs,i,z,rfl,rfl,hq,he,q⟩:=h
 cases rx
 obtain ⟨t,rfl⟩:=ry
 obtain ⟨aI,r,pl,hz⟩:=I.list hq
 obtain ⟨j,h1,h2,h3,h4,h5⟩:=tF he
 obtain ⟨w,ew,zY⟩:=r.get h2
 have hl:=r.length
 have hn:=gb
 have fin:EP X pins σ Q w s:=⟨z,H,I,zY,q⟩
 by_cases h0:0<=i
 ·have hj:i.toNat=j:=by
   rw[seqIndex_of h0 h5]at h1
   exact Option.some.inj h1
  exact item_listR pl.isList h0 (by omega) (by rw[hj];simpa using ew) fin hs
 ·have hj:(i+(aI.toArray.size:Int)).toNat=j:=by
   rw[seqIndex_neg (by omega) h4]at h1
   rw[List.size_toArray, <-hl]
   exact Option.some.inj h1
  exact subscriptTail_builtinR (x:=w) pl.isList.typeIs slot_list_getitem.lookup
   (wpAny_getItem_list_neg (Q:=fun r s'=>r=w/\EP X pins σ Q r s') pl.isList (by omega) (by rw[List.size_toArray]<;>omega) (by omega) (by rw[hj];simpa using ew) ⟨rfl,fin⟩) hs
theorem Jc:Jb X (MM X.K):=by
 intro value slice pins s σ H x y v u Q I rx ry h hs
 obtain ⟨p,xs,i,z,rfl,rfl,hq,he,q⟩:=h
 cases rx
 obtain ⟨t,rfl⟩:=ry
 obtain ⟨aI,r,pl,hz⟩:=I.tuple hq
 obtain ⟨j,h1,h2,h3,h4,h5⟩:=tF he
 obtain ⟨w,ew,zY⟩:=r.get h2
 have hl:=r.length
 have hn:=gb
 have fin:EP X pins σ Q w s:=⟨z,H,I,zY,q⟩
 exact subscriptTail_builtinR (x:=w) pl.typeIs slot_tuple_getitem.lookup
  (getItem_tuple (j:=j) (Q:=fun r s'=>r=w/\EP X pins σ Q r s') pl (by omega) (by omega) (by rw[List.size_toArray, <-hl];exact h1) (by simpa using ew) ⟨rfl,fin⟩) hs
theorem Jd:Jb X Se:=by
 intro value slice pins s σ H x y v u Q I rx ry h hs
 obtain ⟨z,i,c,rfl,rfl,hz,he,q⟩:=h
 obtain ⟨t,rfl⟩:=rx
 obtain ⟨t',rfl⟩:=ry
 obtain ⟨j,h1,h2,h3,h4,h5⟩:=tF he
 have hl:z.cps.toList.length=z.length:=by simp[Str.length]
 rw[hl]at h1 h4 h5
 have hn:=gb
 exact tail_any (typeIs_str s z t) slot_str_getitem.lookup (getItem_str (c:=c) (by
  have e1:decide (i< -(2 ^ 63:Int))=false:=decide_eq_false (by omega)
  have e2:decide (i ≥ 2 ^ 63)=false:=decide_eq_false (by omega)
  rw[e1,e2,Bool.or_false]) (by rw[h1];simpa using h2) ⟨.str ⟨#[c]⟩,H,I.tok _,⟨_,rfl⟩,q⟩) hs
theorem xf (aI:List Value) (n j:Nat) (u:Value):Obj.mapSeq (·.setIfInBounds j u) { cls:= .type "list",data:= .seq aI.toArray n }={ cls:= .type "list",data:= .seq (aI.set j u).toArray n }:=by
 simp[Obj.mapSeq]
theorem Inv.lst {pins:List (Addr×Obj)} {σ:St} {H:Hp} {s:Shared} {p:Addr} {xs:List V} (I:Inv X pins σ H s) (h:H p=some (.lst xs)):
  ∃(aI:List Value) (n:Nat),Vals xs aI/\s.heap.get? p=some { cls:= .type "list",data:= .seq aI.toArray n }/\xs.length<=sizeLine:=by
 obtain ⟨z,aI,n,r,e⟩:=I.bu p _ h
 exact ⟨aI,n,r,e,z⟩
theorem Inv.Je {pins:List (Addr×Obj)} {σ:St} {H:Hp} {s:Shared} {p:Addr} {xs ys:List V} {aI its':List Value} {n n':Nat} {f:Obj->Obj} (I:Inv X pins σ H s) (h:H p=some (.lst xs))
  (ho:s.heap.get? p=some { cls:= .type "list",data:= .seq aI.toArray n }) (hf:f { cls:= .type "list",data:= .seq aI.toArray n }={ cls:= .type "list",data:= .seq its'.toArray n' }) (r:Vals ys its') (hz:ys.length<=sizeLine) (t:Nat):
  Inv X pins σ (upd H p (.lst ys)) { s with heap:=s.heap.update p f,toks:=t }:=by
 have e:(s.heap.update p f).get? p=some { cls:= .type "list",data:= .seq its'.toArray n' }:=by
  rw[Heap.get?_update_self f ho (by rw[hf]<;>rfl),hf]
 refine I.write (x:=p) (e:=p) (by rw[h];trivial) (.inl rfl) (fun b u hb q=>(Heap.get?_update_other _ _ (Ne.symm hb)).trans q) ⟨_,e⟩ ?_
 exact ⟨hz,its',n',r,e⟩
def MN:V->V->V->Hp->(Hp->Prop)->Prop:=fun o i v H Q=> ∃p xs k j,o= .ref p/\i= .int k/\H p=some (.lst xs)/\Ca xs.length k=some j/\Q (upd H p (.lst (xs.set j v)))
theorem set_list:Mt X MN:=by
 intro pins s σ H o i v ov iv u Q I ro ri rv h
 obtain ⟨p,xs,k,j,rfl,rfl,hp,hj,q⟩:=h
 cases ro
 obtain ⟨t,rfl⟩:=ri
 obtain ⟨aI,n,r,ho,hz⟩:=I.lst hp
 obtain ⟨h1,h2,h3,h4⟩:=yH hj
 have hl:=r.length
 have hn:=gb
 have I':Inv X pins σ (upd H p (.lst (xs.set j v))) { s with heap:=s.heap.update p (Obj.mapSeq (·.setIfInBounds j u)) }:=
  I.Je hp ho (xf aI n j u) (r.set rv j) (by rw[List.length_set];exact hz) s.toks
 by_cases h0:0<=k
 ·have hk:k.toNat=j:=by
   rw[seqIndex_of h0 h4]at h1
   exact Option.some.inj h1
  exact PySem.W.ki_setAt ho h0 (by omega) (by rw[List.size_toArray, <-hl];exact h4) (by rw[hk];exact ⟨_,I',q⟩)
 ·have hk:(k+(aI.toArray.size:Int)).toNat=j:=by
   rw[seqIndex_neg (by omega) h3]at h1
   rw[List.size_toArray, <-hl]
   exact Option.some.inj h1
  exact PySem.W.ki_setBack ho (by omega) (by rw[List.size_toArray, <-hl];exact h3) (by omega) (by rw[hk];exact ⟨_,I',q⟩)
theorem tG (lo hi:Option Int) (n:Nat):(sliceBounds lo hi none n).1=((HT.jS n 0 lo:Nat):Int)/\(sliceBounds lo hi none n).2.1=((HT.jS n n hi:Nat):Int)/\(sliceBounds lo hi none n).2.2=1:=by
 refine ⟨?_,?_,rfl⟩
 ·cases lo with
  | none=>simp[sliceBounds,HT.jS]
  | some i=>
   simp only[sliceBounds,HT.jS,Option.getD_none,show (1:Int)>0 by decide,if_true]
   by_cases h:i<0
   ·simp only[h,if_true]<;>omega
   ·simp only[h,if_false]<;>omega
 ·cases hi with
  | none=>simp[sliceBounds,HT.jS]
  | some i=>
   simp only[sliceBounds,HT.jS,Option.getD_none,show (1:Int)>0 by decide,if_true]
   by_cases h:i<0
   ·simp only[h,if_true]<;>omega
   ·simp only[h,if_false]<;>omega
theorem qA (aI:List Value) (lo hi:Option Int):slicePick aI.toArray lo hi none=((aI.drop (HT.jS aI.length 0 lo)).take (HT.jS aI.length aI.length hi - HT.jS aI.length 0 lo)).toArray:=by
 obtain ⟨h1,h2,h3⟩:=tG lo hi aI.toArray.size
 unfold slicePick
 rw[h1,h2,h3]
 simp only[sliceRange_one,pick_run,List.size_toArray]<;>rfl
def MO (K:PySem.W.Frag):V->Option Int->Option Int->Hp->VK->Prop:=fun x lo hi H Q=> ∃a xs,x= .ref a/\aT K H a xs/\ ∀p,H p=none->Q (.ref p) (upd H p (.lst (qy xs lo hi)))
theorem ES:P7 X (MO X.K):=by
 intro pins s σ H x v vl vu lo hi sl Q I rx hs pl pu h
 obtain ⟨a,xs,rfl,hx,q⟩:=h
 cases rx
 obtain ⟨aI,r,ht,hz⟩:=I.list hx
 have hlen:=r.length
 refine ⟨"list",_,slot_list_getitem.lookup,ht.isList.typeIs,?_⟩
 refine wpAny_getItem_list_slice ht.isList hs pl pu .none (by simp) ?_ (by rw[List.size_toArray]<;>omega)
 rw[qA, <-hlen]
 refine ⟨.ref s.heap.objs.size,_,I.laid (t':=s.toks) (o:= .lst (qy xs lo hi)) (fun b ob q=>Heap.get?_push_of_some _ q) (Nat.le_refl _) ?_,rfl,q _ (I.bu.fresh (Nat.le_refl _))⟩
 exact ⟨Nat.le_trans (u7 xs lo hi) hz,_,0,(r.drop (HT.jS xs.length 0 lo)).take (HT.jS xs.length xs.length hi - HT.jS xs.length 0 lo),Heap.get?_push_size _ rfl⟩
noncomputable def kG:V->Bool
 | .ck=>true
 | .bl _=>true
 | .int _=>true
 | .str _=>true
 | _=>false
noncomputable def Ef:V->V->Bool
 | .ck, .ck=>true
 | .bl a, .bl b=>a==b
 | .bl a, .int b=>(if a then 1 else 0)==b
 | .int a, .bl b=>a==(if b then 1 else 0)
 | .int a, .int b=>a==b
 | .str a, .str b=>a==b
 | _,_=>false
theorem Jf {A:Around} {s:Shared} {y x:V} {u v:Value} (ry:RelV y u) (rx:RelV x v) (fy:kG y=true) (fx:kG x=true):SeqAt.EqAt A s u v (Ef y x):=by
 cases y with
 | ck=>
  cases ry
  cases x with
  | ck=>cases rx;exact SeqAt.EqAt.same _
  | bl b=>cases rx;exact SeqAt.EqAt.none_bool b
  | int b=>obtain ⟨t,rfl⟩:=rx;exact SeqAt.EqAt.none_int b t
  | str b=>obtain ⟨t,rfl⟩:=rx;exact SeqAt.EqAt.none_str b t
  | _=>exact absurd (show false=true from fx) Bool.false_ne_true
 | bl a=>
  cases ry
  cases x with
  | ck=>cases rx;exact SeqAt.EqAt.bool_none a
  | bl b=>cases rx;exact SeqAt.EqAt.bool_bool a b
  | int b=>obtain ⟨t,rfl⟩:=rx;exact SeqAt.EqAt.bool_int a b t
  | str b=>obtain ⟨t,rfl⟩:=rx;exact SeqAt.EqAt.bool_str a b t
  | _=>exact absurd (show false=true from fx) Bool.false_ne_true
 | int a=>
  obtain ⟨t',rfl⟩:=ry
  cases x with
  | ck=>cases rx;exact SeqAt.EqAt.int_none a t'
  | bl b=>cases rx;exact SeqAt.EqAt.int_bool a t' b
  | int b=>obtain ⟨t,rfl⟩:=rx;exact SeqAt.EqAt.int_int a t' b t
  | str b=>obtain ⟨t,rfl⟩:=rx;exact SeqAt.EqAt.int_str a t' b t
  | _=>exact absurd (show false=true from fx) Bool.false_ne_true
 | str a=>
  obtain ⟨t',rfl⟩:=ry
  cases x with
  | ck=>cases rx;exact SeqAt.EqAt.str_none a t'
  | bl b=>cases rx;exact SeqAt.EqAt.str_bool a t' b
  | int b=>obtain ⟨t,rfl⟩:=rx;exact SeqAt.EqAt.str_int a t' b t
  | str b=>obtain ⟨t,rfl⟩:=rx;exact SeqAt.EqAt.str_str a t' b t
  | _=>exact absurd (show false=true from fx) Bool.false_ne_true
 | _=>exact absurd (show false=true from fy) Bool.false_ne_true
noncomputable def ET (x:V) (u:Value):Bool:=match u with
 | .none=>Ef .ck x
 | .bool b=>Ef (.bl b) x
 | .int i _=>Ef (.int i) x
 | .str z _=>Ef (.str z) x
 | _=>false
theorem Cc {x y:V} {u:Value} (r:RelV y u) (f:kG y=true):ET x u=Ef y x:=by
 cases y with
 | ck=>cases r;rfl
 | bl b=>cases r;rfl
 | int i=>obtain ⟨t,rfl⟩:=r;rfl
 | str z=>obtain ⟨t,rfl⟩:=r;rfl
 | _=>exact absurd (show false=true from f) Bool.false_ne_true
theorem tH {x:V}: ∀{xs:List V} {us:List Value},Vals xs us->xs.all kG=true->us.any (ET x)=xs.any fun y=>Ef y x
 | _,_, .nil,_=>rfl
 | y::xs,u::us, .cons r t,f=>by
  rw[List.all_cons,Bool.and_eq_true]at f
  rw[List.any_cons,List.any_cons,Cc r f.1,tH t f.2]
theorem oq {A:Around} {s:Shared} {x:V} {v:Value} (rx:RelV x v) (fx:kG x=true): ∀{xs:List V} {us:List Value},Vals xs us->xs.all kG=true-> ∀u∈us,SeqAt.EqAt A s u v (ET x u)
 | _,_, .nil,_=>fun u hu=>by cases hu
 | y::xs,u::us, .cons r t,f=>fun u' hu=>by
  rw[List.all_cons,Bool.and_eq_true]at f
  rcases List.mem_cons.mp hu with rfl | hu
  ·rw[Cc r f.1];exact Jf r rx f.1 fx
  ·exact oq rx fx t f.2 u' hu
noncomputable def EU (x:V) (xs:List V):Bool:=xs.any fun y=>Ef y x
def rIn (K:PySem.W.Frag) (neg:Bool):R2:=fun x y H Q=> ∃p xs,y= .ref p/\(aT K H p xs\/aW K H p xs)/\kG x=true/\xs.all kG=true/\Q (.bl (if neg then !EU x xs else EU x xs)) H
theorem Ae:gD X (compareOp .In) (rIn X.K false):=by
 intro pins s σ H x y v u Q I rx ry h
 obtain ⟨p,xs,rfl,hq,fx,fs,q⟩:=h
 cases ry
 rcases hq with hq | hq
 ·obtain ⟨aI,r,pl,hz⟩:=I.list hq
  refine SeqAt.in_listAt (ET x) pl.isList (fun w hw=>oq rx fx r fs w (by simpa using hw)) ⟨.bl _,H,I,rfl,?_⟩
  rw[show aI.toArray.any (ET x)=aI.any (ET x) by simp,tH r fs]
  exact q
 ·obtain ⟨aI,r,pl,hz⟩:=I.tuple hq
  refine SeqAt.in_tupleAt (ET x) pl (fun w hw=>oq rx fx r fs w (by simpa using hw)) ⟨.bl _,H,I,rfl,?_⟩
  rw[show aI.toArray.any (ET x)=aI.any (ET x) by simp,tH r fs]
  exact q
theorem tI:gD X (compareOp .NotIn) (fun x y H Q=> ∃i j,x= .str i/\y= .str j/\Q (.bl (!(!(Builtin.Str.occurrences j i 0 j.length 1).isEmpty))) H):=by
 intro pins s σ H x y v u Q I rx ry h
 obtain ⟨i,j,rfl,rfl,q⟩:=h
 obtain ⟨t,rfl⟩:=rx
 obtain ⟨t',rfl⟩:=ry
 exact notIn_str ⟨.bl _,H,I,rfl,q⟩
theorem tJ:dH X (.builtin "len") (fun xs H Q=> ∃p ys,xs=[.ref p]/\(aT X.K H p ys\/aW X.K H p ys)/\Q (.int ys.length) H):=by
 intro pins s σ H xs us Q I r h
 obtain ⟨p,ys,rfl,hq,q⟩:=h
 obtain ⟨u,rfl,rx⟩:=vals1 r
 cases rx
 have hn:=gb
 rcases hq with hq | hq
 ·obtain ⟨aI,r',pl,hz⟩:=I.list hq
  have hlen:=r'.length
  exact Calls.call_len_list pl.isList (by simp only[List.size_toArray]<;>omega) ⟨.int ys.length,H,I.tok _,⟨s.toks+1,by rw[List.size_toArray,hlen]⟩,q⟩
 ·obtain ⟨aI,r',pl,hz⟩:=I.tuple hq
  have hlen:=r'.length
  exact len_tuple pl (by simp only[List.size_toArray]<;>omega) ⟨.int ys.length,H,I.tok _,⟨s.toks+1,by rw[List.size_toArray,hlen]⟩,q⟩
theorem tK:dH X (.builtin "len") (fun xs H Q=> ∃z,xs=[.str z]/\z.length<=sizeLine/\Q (.int z.length) H):=by
 intro pins s σ H xs us Q I r h
 obtain ⟨z,rfl,hz,q⟩:=h
 obtain ⟨u,rfl,t,rfl⟩:=vals1 r
 have hn:=gb
 exact len_str (by omega) ⟨.int z.length,H,I.tok _,⟨_,rfl⟩,q⟩
theorem tL:dH X (.type "list") (fun xs H Q=> ∃p ys,xs=[.ref p]/\(aT X.K H p ys\/aW X.K H p ys)/\ ∀l,H l=none->Q (.ref l) (upd H l (.lst ys))):=by
 intro pins s σ H xs us Q I r h
 obtain ⟨p,ys,rfl,hq,q⟩:=h
 obtain ⟨u,rfl,rx⟩:=vals1 r
 cases rx
 have fin: ∀(aI:List Value),Vals ys aI->ys.length<=sizeLine-> ∀(h':Heap) (c':Nat),(∀b o',s.heap.get? b=some o'->h'.get? b=some o')->
   h'.get? s.heap.objs.size=some { cls:= .type "list",dict:=none,data:= .seq aI.toArray c',slots:= #[] }->EP X pins σ Q (.ref s.heap.objs.size) { s with heap:=h' }:=fun aI r' hz h' c' kp e=>
  ⟨.ref s.heap.objs.size,_,I.laid (t':=s.toks) kp (Nat.le_refl _) (show cW X.prog X.w _ h' _ (.lst ys) from ⟨hz,aI,c',r',e⟩),rfl,q _ (I.bu.fresh (Nat.le_refl _))⟩
 rcases hq with hq | hq
 ·obtain ⟨aI,r',pl,hz⟩:=I.list hq
  have hlen:=r'.length
  obtain ⟨o,ho,hc,n,hd⟩:=pl.isList
  exact call_list_seq p (.inl rfl) ho hc hd (fun h' c' kp e=>fin aI r' hz h' c' kp e) (by simp only[List.size_toArray]<;>omega)
 ·obtain ⟨aI,r',pl,hz⟩:=I.tuple hq
  have hlen:=r'.length
  obtain ⟨o,ho,hc,n,hd⟩:=pl
  exact call_list_seq p (.inr rfl) ho hc hd (fun h' c' kp e=>fin aI r' hz h' c' kp e) (by simp only[List.size_toArray]<;>omega)
theorem qB:dH X (.type "tuple") (fun xs H Q=> ∃p ys,xs=[.ref p]/\((aT X.K H p ys/\ ∀l,H l=none->Q (.ref l) (upd H l (.tup ys)))\/(aW X.K H p ys/\Q (.ref p) H))):=by
 intro pins s σ H xs us Q I r h
 obtain ⟨p,ys,rfl,h⟩:=h
 obtain ⟨u,rfl,rx⟩:=vals1 r
 cases rx
 rcases h with ⟨hq,q⟩ | ⟨hq,q⟩
 ·obtain ⟨aI,r',pl,hz⟩:=I.list hq
  have hlen:=r'.length
  refine call_tuple_list pl.isList (fun h' kp=>?_) (by simp only[List.size_toArray]<;>omega)
  have I1:Inv X pins σ H { s with heap:=h' }:=I.kept (t':=s.toks) kp
  have I2:Inv X pins σ (upd H h'.objs.size (.tup ys)) { s with heap:=h'.push { cls:= .type "tuple",data:= .seq aI.toArray } }:=
   I1.laid (t':=s.toks) (fun b o e=>Heap.get?_push_of_some _ e) (Nat.le_refl _) (show cW X.prog X.w _ _ _ (.tup ys) from ⟨hz,aI,r',IsTup.new _ _⟩)
  exact ⟨.ref h'.objs.size,_,I2,rfl,q _ (I1.bu.fresh (Nat.le_refl _))⟩
 ·obtain ⟨aI,r',pl,hz⟩:=I.tuple hq
  exact call_tuple_same pl ⟨.ref p,H,I,rfl,q⟩
def Sf (K:PySem.W.Frag) (T:String) (x:V) (H:Hp):Prop:=match x with
 | .str _=>T="str"
 | .int _=>T="int"
 | .ref p=>(T="list"/\ ∃xs,aT K H p xs)\/(T="tuple"/\ ∃o,K.lookup p=some o/\o.cls= .type "tuple"/\o.dict=none)\/
   (T="dict"/\((∃kvs,H p=some (.dK kvs))\/ ∃kvs,H p=some (.dT kvs)))\/(T="set"/\ ∃S n,H p=some (.set S n))
 | _=>False
theorem Cd {pins:List (Addr×Obj)} {σ:St} {H:Hp} {s:Shared} {T:String} {x:V} {v:Value} (I:Inv X pins σ H s) (r:RelV x v) (ty:Sf X.K T x H):
  s.TypeIs v T/\ ∀a,v= .ref a-> ∃ob,s.heap.get? a=some ob/\ob.dict=none:=by
 cases x with
 | str z=>
  obtain ⟨t,rfl⟩:=r
  cases (show T="str" from ty)
  exact ⟨typeIs_str s z t,fun _ e=>nomatch e⟩
 | int i=>
  obtain ⟨t,rfl⟩:=r
  cases (show T="int" from ty)
  exact ⟨typeIs_int s i t,fun _ e=>nomatch e⟩
 | ref p=>
  cases r
  rcases ty with ⟨rfl,xs,hq⟩ | ⟨rfl,o,hk,hc,hd⟩ | ⟨rfl,hk⟩ | ⟨rfl,S,n,hk⟩
  ·obtain ⟨aI,_,pl,_⟩:=I.list hq
   refine ⟨pl.isList.typeIs,fun a e=>?_⟩
   cases e
   obtain ⟨o,n,e,c,hd,_⟩:=pl
   exact ⟨o,e,hd⟩
  ·refine ⟨⟨o,I.LH p o hk,hc⟩,fun a e=>?_⟩
   cases e
   exact ⟨o,I.LH _ o hk,hd⟩
  ·have z: ∃o,s.heap.get? p=some o/\o.ExactDict:=by
    rcases hk with ⟨kvs,hk⟩ | ⟨kvs,hk⟩
    ·obtain ⟨_,_,_,_,o,_,_,e,ex,_⟩:=I.bu p _ hk
     exact ⟨o,e,ex⟩
    ·obtain ⟨_,_,_,_,o,_,_,e,ex,_⟩:=I.bu p _ hk
     exact ⟨o,e,ex⟩
   obtain ⟨o,e,ex⟩:=z
   refine ⟨⟨o,e,ex.1⟩,fun a e2=>?_⟩
   cases e2
   exact ⟨o,e,ex.2.1⟩
  ·obtain ⟨o,_,_,_,e,ex,_⟩:=I.bu p _ hk
   refine ⟨⟨o,e,ex.1⟩,fun a e2=>?_⟩
   cases e2
   exact ⟨o,e,ex.2.1⟩
 | _=>exact False.elim ty
def MP (K:PySem.W.Frag) (T:String) (r:V->List V->Hp->VK->Prop) (to:TE):TE:=fun σ H Q=>to σ H fun x H1=>Sf K T x H1/\r x [] H1 Q
def tBM (K:PySem.W.Frag) (T:String) (r:V->List V->Hp->VK->Prop) (to:TE) (t:TA):TE:=fun σ H Q=>to σ H fun x H1=>Sf K T x H1/\t σ H1 fun xs H2=>r x xs H2 Q
variable {o e:Expr} {es:List Expr} {to:TE} {t:TA} {name:Str} {apos eJ:Pos} {T id:String} {r:V->List V->Hp->VK->Prop}
theorem Jg (pa:PlainAttrs T) (slot:Slot T name id) (Jh:typeOf (.builtin id)=pure (.type "method_descriptor")) (hm:wU X id r) (ho:PE X o to)
  (ou:attributeBase o name X.env (eval o X.env)=eval o X.env:=by rfl) (jT:(apos.endLine==eJ.line)=true:=by rfl):PE X (.Call (.Attribute o name apos) [] [] eJ) (MP X.K T r to):=by
 intro pins s σ H Q I h
 refine wpAny_Call_method0_late ou jT (bZ (ho pins s σ H _ I h) fun v s1 ⟨x,H1,I1,r1,ty,q1⟩=>?_)
 obtain ⟨h1,h2⟩:=Cd I1 r1 ty
 exact ⟨T,id,pa,slot,Jh,h1,h2,Calls.callWith_builtin rfl (PySem.evalArgs_none (hm pins s1 σ H1 x [] v [] Q I1 r1 .nil q1))⟩
theorem MQ (pa:PlainAttrs T) (slot:Slot T name id) (Jh:typeOf (.builtin id)=pure (.type "method_descriptor")) (hm:wU X id r) (ho:PE X o to) (ha:PA X (e::es) t)
  (ou:attributeBase o name X.env (eval o X.env)=eval o X.env:=by rfl)
  (Af:((backTo eJ (starEach (e::es) X.env)).all (fun x=>!x.1)&&(backToKw eJ (keywordEach [] X.env)).all (fun x=>x.1.isSome)
   &&decide ((e::es).length+([]:List Keyword).length+(if ([]:List Keyword).isEmpty then 0 else 1)<30))=true:=by rfl)
  (jT:(apos.endLine==eJ.line)=true:=by rfl) (hs:starEach (e::es) X.env=(false,eval e X.env)::starEach es X.env:=by rfl) (xg:(backTo eJ (starEach es X.env)).any (·.1)=false:=by rfl):
  PE X (.Call (.Attribute o name apos) (e::es) [] eJ) (tBM X.K T r to t):=by
 intro pins s σ H Q I h
 refine wpAny_Call_method_late ou Af jT rfl (bZ (ho pins s σ H _ I h) fun v s1 ⟨x,H1,I1,r1,ty,q1⟩=>?_)
 obtain ⟨h1,h2⟩:=Cd I1 r1 ty
 refine ⟨T,id,pa,slot,Jh,h1,h2,?_⟩
 have hA:=ha eJ pins s1 σ H1 _ I1 q1
 rw[hs]at hA ⊢
 refine Calls.callWith_builtin (by show (false||(backTo eJ (starEach es X.env)).any (·.1))=false;rw[xg]<;>rfl) (Calls.evalArgs_plain ?_)
 exact bZ hA fun us s2 ⟨vs,H2,I2,r2,q2⟩=>hm pins s2 σ H2 x vs v us Q I2 r1 r2 q2
end
end L2
namespace L2
open PySem PySem.Spec PyProof.Rows
def LJ (X:Cx) (id:String) (r:V->List V->Hp->VK->Prop):Prop:=
 ∀(pins:List (Addr×Obj)) (s:Shared) (σ:St) (H:Hp) (x:V) (xs:List V) (v:Value) (us:List Value) (Q:VK),Inv X pins σ H s->RelV x v->Vals xs us->r x xs H Q->
  wpAny (model X.prog X.w) X.A (call (.builtin id) (v::us)) (EP X pins σ Q) X.xe s
theorem Vals.one: ∀{x:V} {us:List Value},Vals [x] us-> ∃u,us=[u]/\RelV x u
 | _,_, .cons r .nil=>⟨_,rfl,r⟩
theorem Vals.zero: ∀{us:List Value},Vals [] us->us=[]
 | _, .nil=>rfl
theorem Vals.dropLast {xs:List V} {us:List Value} (h:Vals xs us):Vals xs.dropLast us.dropLast:=by
 induction h with
 | nil=>exact .nil
 | cons r t ih=>
  cases t with
  | nil=>exact .nil
  | cons q t'=>exact .cons r ih
theorem Vals.eraseIdx: ∀{xs:List V} {us:List Value} (i:Nat),Vals xs us->Vals (xs.eraseIdx i) (us.eraseIdx i)
 | _,_,_, .nil=> .nil
 | _,_,0, .cons _ t=>t
 | _,_,i+1, .cons r t=> .cons r (Vals.eraseIdx i t)
theorem Vals.reverse {xs:List V} {us:List Value} (h:Vals xs us):Vals xs.reverse us.reverse:=by
 induction h with
 | nil=>exact .nil
 | cons r t ih=>rw[List.reverse_cons,List.reverse_cons];exact Vals.append ih (.cons r .nil)
theorem Vals.rep {xs:List V} {us:List Value} (h:Vals xs us): ∀k:Nat,Vals (List.replicate k xs).flatten (List.replicate k us).flatten
 | 0=> .nil
 | k+1=>by
  rw[List.replicate_succ,List.replicate_succ,List.flatten_cons,List.flatten_cons]
  exact Vals.append h (Vals.rep h k)
theorem xh {α:Type} (l:List α):l.eraseIdx (l.length - 1)=l.dropLast:=by
 induction l with
 | nil=>rfl
 | cons a r ih=>
  cases r with
  | nil=>rfl
  | cons b r=>
   have e:(a::b::r).length - 1=((b::r).length - 1)+1:=by
    have h1:(a::b::r).length=r.length+2:=rfl
    have h2:(b::r).length=r.length+1:=rfl
    omega
   rw[e,List.eraseIdx_cons_succ,ih]
   all_goals rfl
theorem rn {α:Type}: ∀(l:List α) (i:Nat),(l.eraseIdx i).length<=l.length
 | [],_=>Nat.le_refl _
 | _::_,0=>Nat.le_succ _
 | _::r,i+1=>Nat.succ_le_succ (rn r i)
theorem foldl_rep (aI:List Value): ∀(k:Nat) (acc:List Value),
  List.foldl (fun x1 x2=>x1++x2) acc.toArray (List.replicate k aI.toArray)=(acc++(List.replicate k aI).flatten).toArray
 | 0,acc=>by simp
 | k+1,acc=>by
  have e:acc.toArray++aI.toArray=(acc++aI).toArray:=by simp
  have e2:(acc++aI)++(List.replicate k aI).flatten=acc++(List.replicate (k+1) aI).flatten:=by
   rw[List.replicate_succ,List.flatten_cons,List.append_assoc]
  rw[<-e2, <-foldl_rep aI k (acc++aI), <-e,List.replicate_succ,List.foldl_cons]
section
variable {X:Cx} {pins:List (Addr×Obj)} {σ:St} {H:Hp} {s:Shared} {l b:Addr} {xs ys zs:List V}
theorem Inv.Ag {aI its':List Value} {n:Nat} {f:Array Value->Array Value} {t':Nat} (I:Inv X pins σ H s) (hH:H l=some (.lst xs))
  (e:s.heap.get? l=some { cls:= .type "list",data:= .seq aI.toArray n }) (hf:f aI.toArray=its'.toArray) (hv:Vals ys its') (hz:ys.length<=sizeLine):
  Inv X pins σ (upd H l (.lst ys)) { s with heap:=s.heap.update l (Obj.mapSeq f),toks:=t' }:=by
 have q:=PySem.IsL.update e f
 rw[hf]at q
 refine I.write (x:=l) (e:=l) (by rw[hH];exact trivial) (.inl rfl) (fun b' u hb hu=>(Heap.get?_update_other s.heap (Obj.mapSeq f) (Ne.symm hb)).trans hu) ⟨_,q⟩ ?_
 exact ⟨hz,its',_,hv,q⟩
theorem Inv.MR {aI:List Value} {t':Nat} (I:Inv X pins σ H s) (hv:Vals ys aI) (hz:ys.length<=sizeLine):
  Inv X pins σ (upd H s.heap.objs.size (.lst ys)) { s with heap:=s.heap.push { cls:= .type "list",data:= .seq aI.toArray },toks:=t' }:=
 I.laid (fun _ _ q=>Heap.get?_push_of_some _ q) (Nat.le_refl _) ⟨hz,aI,0,hv,Heap.get?_push_size _ rfl⟩
theorem Inv.fresh (I:Inv X pins σ H s):H s.heap.objs.size=none:=I.bu.fresh (Nat.le_refl _)
theorem Inv.ow (I:Inv X pins σ H s) (hH:H l=some (.lst xs)):xs.length<=sizeLine/\ ∃(aI:List Value) (n:Nat),Vals xs aI/\xs.length=aI.length/\s.heap.get? l=some { cls:= .type "list",data:= .seq aI.toArray n }:=by
 obtain ⟨z,aI,n,r,e⟩:=I.bu l _ hH
 exact ⟨z,aI,n,r,r.length,e⟩
theorem u_ {n:Nat} (h:n<=sizeLine):Builtin.List.listTooLong n=false:=by
 unfold Builtin.List.listTooLong
 exact decide_eq_false (by omega)
end
section
variable {X:Cx}
def EV:V->List V->Hp->VK->Prop:=fun x vs H Q=> ∃l xs y,x= .ref l/\vs=[y]/\H l=some (.lst xs)/\xs.length<sizeLine/\Q .ck (upd H l (.lst (xs++[y])))
theorem bf:LJ X "list.append" EV:=by
 intro pins s σ H x vs v us Q I rx rv h
 obtain ⟨l,xs,y,rfl,rfl,hH,hz,q⟩:=h
 cases rx
 obtain ⟨u,rfl,ru⟩:=rv.one
 obtain ⟨z,aI,n,r,hl,e⟩:=I.ow hH
 refine call_meets F.slot_list_append ⟨_,e,rfl⟩ F.entry_list_append (F.args_list_append_2 _ _) (PySem.list_append l aI.toArray n u (by rw[List.size_toArray];omega)) ⟨e,?_⟩
 refine ⟨.ck,_,I.Ag (its':=aI++[u]) hH e (by simp) (r.append (.cons ru .nil)) ?_,rfl,q⟩
 rw[List.length_append,List.length_singleton]
 omega
def EW:V->List V->Hp->VK->Prop:=fun x vs H Q=> ∃l b xs zs,x= .ref l/\vs=[.ref b]/\H l=some (.lst xs)/\H b=some (.lst zs)/\xs.length+zs.length<=sizeLine/\Q .ck (upd H l (.lst (xs++zs)))
theorem jy:LJ X "list.extend" EW:=by
 intro pins s σ H x vs v us Q I rx rv h
 obtain ⟨l,b,xs,zs,rfl,rfl,hH,hB,hz,q⟩:=h
 cases rx
 obtain ⟨u,rfl,ru⟩:=rv.one
 cases ru
 obtain ⟨z,aI,n,r,hl,e⟩:=I.ow hH
 obtain ⟨z2,u9,n2,r2,tM,e2⟩:=I.ow hB
 have hsz:aI.toArray.size+u9.toArray.size<=sizeLine:=by rw[List.size_toArray,List.size_toArray];omega
 have Cf: ¬(!aI.toArray.isEmpty&&Builtin.List.listTooLong (aI.toArray.size+u9.toArray.size))=true:=by
  rw[u_ hsz,Bool.and_false]
  exact Bool.false_ne_true
 refine call_meets F.slot_list_extend ⟨_,e,rfl⟩ F.entry_list_extend (F.args_list_extend_2 _ _)
  (AutoSeq1.list_extend_list_list_0 l aI.toArray n b u9.toArray n2 Cf (by rw[List.size_toArray];omega) (by omega)) ⟨e,e2,?_⟩
 refine ⟨.ck,_,I.Ag (its':=aI++u9) hH e (by simp) (r.append r2) ?_,rfl,q⟩
 rw[List.length_append]
 omega
def Sg:V->List V->Hp->VK->Prop:=fun x vs H Q=> ∃l xs y,x= .ref l/\vs=[]/\H l=some (.lst xs)/\xs[xs.length - 1]? =some y/\Q y (upd H l (.lst xs.dropLast))
theorem Ji:LJ X "list.pop" Sg:=by
 intro pins s σ H x vs v us Q I rx rv h
 obtain ⟨l,xs,y,rfl,rfl,hH,hy,q⟩:=h
 cases rx
 have oA:=rv.zero
 subst oA
 obtain ⟨z,aI,n,r,hl,e⟩:=I.ow hH
 obtain ⟨u,hu,ru⟩:=r.get hy
 have hy':aI.toArray[aI.toArray.size - 1]? =some u:=by
  show aI.toArray[aI.length - 1]? =some u
  rw[<-Array.getElem?_toList, <-hl]
  exact hu
 refine call_meets F.slot_list_pop ⟨_,e,rfl⟩ F.entry_list_pop (F.args_list_pop_1 _) (MeetsSeq.list_pop_last l aI.toArray n u hy' (by rw[List.size_toArray];omega)) ⟨e,?_⟩
 refine ⟨y,_,I.Ag (its':=aI.dropLast) hH e ?_ r.dropLast ?_,ru,q⟩
 ·show aI.toArray.eraseIdxIfInBounds (aI.toArray.size - 1)=aI.dropLast.toArray
  rw[List.size_toArray,List.eraseIdxIfInBounds_toArray,xh]
 ·rw[List.length_dropLast]
  omega
def Jj:V->List V->Hp->VK->Prop:=fun x vs H Q=> ∃l xs i k y,x= .ref l/\vs=[.int i]/\H l=some (.lst xs)/\ -(2 ^ 63)<=i/\i<2 ^ 63/\seqIndex? i xs.length=some k/\xs[k]? =some y/\Q y (upd H l (.lst (xs.eraseIdx k)))
theorem kH:LJ X "list.pop" Jj:=by
 intro pins s σ H x vs v us Q I rx rv h
 obtain ⟨l,xs,i,k,y,rfl,rfl,hH,h1,h2,hk,hy,q⟩:=h
 cases rx
 obtain ⟨u,rfl,ru⟩:=rv.one
 obtain ⟨t,rfl⟩:=ru
 obtain ⟨z,aI,n,r,hl,e⟩:=I.ow hH
 obtain ⟨w,hw,zY⟩:=r.get hy
 refine call_meets F.slot_list_pop ⟨_,e,rfl⟩ F.entry_list_pop (F.args_list_pop_2 _ _)
  (MeetsSeq.list_pop_at l aI.toArray n i t k w (fitsIndex_both h1 h2) (by rw[List.size_toArray, <-hl];exact hk) (by rw[<-Array.getElem?_toList];exact hw) (by rw[List.size_toArray];omega)) ⟨e,?_⟩
 refine ⟨y,_,I.Ag (its':=aI.eraseIdx k) hH e ?_ (r.eraseIdx k) ?_,zY,q⟩
 ·show aI.toArray.eraseIdxIfInBounds k=(aI.eraseIdx k).toArray
  rw[List.eraseIdxIfInBounds_toArray]
 ·have:=rn xs k
  omega
def Cg:V->List V->Hp->VK->Prop:=fun x vs H Q=> ∃l xs,x= .ref l/\vs=[]/\H l=some (.lst xs)/\Q .ck (upd H l (.lst xs.reverse))
theorem xj:LJ X "list.reverse" Cg:=by
 intro pins s σ H x vs v us Q I rx rv h
 obtain ⟨l,xs,rfl,rfl,hH,q⟩:=h
 cases rx
 have oA:=rv.zero
 subst oA
 obtain ⟨z,aI,n,r,hl,e⟩:=I.ow hH
 refine call_meets F.slot_list_reverse ⟨_,e,rfl⟩ F.entry_list_reverse (F.args_list_reverse_1 _) (AutoSeq1.list_reverse_list_0 l aI.toArray n (by rw[List.size_toArray];omega)) ⟨e,?_⟩
 refine ⟨.ck,_,I.Ag (its':=aI.reverse) hH e (by simp) r.reverse ?_,rfl,q⟩
 rw[List.length_reverse]
 omega
def Sh:R2:=fun x y H Q=> ∃l b xs zs,x= .ref l/\y= .ref b/\H l=some (.lst xs)/\H b=some (.lst zs)/\xs.length+zs.length<=sizeLine/\ ∀p,H p=none->Q (.ref p) (upd H p (.lst (xs++zs)))
theorem i_:gD X (binaryOp .Add) Sh:=by
 intro pins s σ H x y v u Q I rx ry h
 obtain ⟨l,b,xs,zs,rfl,rfl,hH,hB,hz,q⟩:=h
 cases rx
 cases ry
 obtain ⟨z,aI,n,r,hl,e⟩:=I.ow hH
 obtain ⟨z2,u9,n2,r2,tM,e2⟩:=I.ow hB
 refine PySem.P.add_list e e2 ?_ (by rw[List.size_toArray,List.size_toArray];omega)
 have ea:aI.toArray++u9.toArray=(aI++u9).toArray:=by simp
 rw[ea]
 exact ⟨.ref _,_,I.MR (t':=s.toks) (r.append r2) (by rw[List.length_append];omega),rfl,q _ I.fresh⟩
def Si:R2:=fun x y H Q=> ∃l k xs,x= .ref l/\y= .int k/\H l=some (.lst xs)/\ -(2 ^ 63)<=k/\k<2 ^ 63/\xs.length*k.toNat<=sizeLine/\
 ∀p,H p=none->Q (.ref p) (upd H p (.lst (List.replicate k.toNat xs).flatten))
theorem len_rep {α:Type} (xs:List α) (k:Nat):(List.replicate k xs).flatten.length=k*xs.length:=by
 induction k with
 | zero=>simp
 | succ k ih=>rw[List.replicate_succ,List.flatten_cons,List.length_append,ih,Nat.succ_mul,Nat.add_comm]
theorem Jk:gD X (binaryOp .Mult) Si:=by
 intro pins s σ H x y v u Q I rx ry h
 obtain ⟨l,k,xs,rfl,rfl,hH,h1,h2,hz,q⟩:=h
 cases rx
 obtain ⟨t,rfl⟩:=ry
 obtain ⟨z,aI,n,r,hl,e⟩:=I.ow hH
 have hlen:aI.toArray.size*k.toNat<=sizeLine:=by rw[List.size_toArray, <-hl];exact hz
 have Sj: ¬aI.toArray.size*k.toNat>(2 ^ 63 - 1) / 8:=by
  have:(sizeLine:Nat)<=(2 ^ 63 - 1) / 8:=by decide
  omega
 have Sk: ¬(!Builtin.List.listFitsIndex k)=true:=by
  rw[fitsIndex_both h1 h2]
  exact Bool.false_ne_true
 have Cf: ¬Builtin.List.listTooLong (aI.toArray.size*k.toNat)=true:=by
  rw[u_ hlen]
  exact Bool.false_ne_true
 have Ci:List.foldl (fun x1 x2=>x1++x2) #[] (List.replicate (if aI.toArray.isEmpty=true then 0 else k.toNat) aI.toArray)=(List.replicate k.toNat aI).flatten.toArray:=by
  have f0: ∀m:Nat,List.foldl (fun x1 x2=>x1++x2) #[] (List.replicate m aI.toArray)=(List.replicate m aI).flatten.toArray:=fun m=>by
   have:=foldl_rep aI m []
   rw[List.nil_append]at this
   exact this
  rw[f0]
  cases aI with
  | nil=>simp
  | cons a r'=>rw[if_neg (by simp)]
 refine wpAny_binaryOp_repeat_ref (T:="list") (U:="int") (by decide) ⟨_,e,rfl⟩ (fun s'=>typeIs_int s' k t) noFill_list_mul F.fills_int_mul F.slot_int_rmul repeat_list F.slot_int_index.lookup
  (call_meets F.slot_int_rmul (typeIs_int s k t) F.entry_int_rmul (F.args_int_rmul_2 _ _) (int___rmul___int_list k t l aI.toArray n)
   ⟨e,rfl,⟨_,e,rfl⟩,call_meets F.slot_list_mul ⟨_,e,rfl⟩ F.entry_list_mul (F.args_list_mul_2 _ _) (AutoListH.list___mul___list_int_3 l aI.toArray n k t Sk Sj Cf) ⟨e,?_⟩⟩)
 rw[Ci]
 exact ⟨.ref _,_,I.MR (t':=s.toks) (r.rep k.toNat) (by rw[len_rep,Nat.mul_comm];exact hz),rfl,q _ I.fresh⟩
end
section
variable {prog:Program} {w:World} {A:Around} {E:Value->Shared->Prop} {s:Shared}
end
section
variable {X:Cx}
end
end L2
namespace Att
open PySem PySem.W PySem.Calls PyProof.Rows
theorem nk {P:Params} {h:Heap}: ∀(ns:List Int) (vs:List Value),WellAll P h vs (ns.map WData.int)->IntsAre vs ns:=by
 intro ns
 induction ns with
 | nil=>
  intro vs w
  rw[List.map_nil]at w
  cases w
  exact .nil
 | cons n ns ih=>
  intro vs w
  rw[List.map_cons]at w
  cases w with
  | cons a b=>
   cases a
   exact .cons _ _ (ih _ b)
theorem Ah {l:OpenLaw} {n:Nat} (hn:l.most=some n) {P:Params} {h:Heap} {args:List WData} {vals:List Value}
  (EX:l.row.toRowW.claim.pre args=true) (va:WellAll P h vals args):
  ∃a vs ns,vals=[Value.ref a]/\args=[WData.list (ns.map WData.int)]/\h.get? a=some { cls:= .type "list",data:= .seq vs.toArray }/\IntsAre vs ns/\ns.length<=n:=by
 have hsh:WShape.hasAll [] args [.list .int]=true:=(pre_splitW EX).1
 have hc:l.pre.holds [] { args:=args }=true:=(pre_splitW EX).2
 obtain ⟨d,r,rfl,h1,h2⟩:=hasAllW_cons hsh
 obtain rfl:=hasAllW_nil h2
 obtain ⟨xs,rfl,h3⟩:=hasW_list h1
 obtain ⟨ns,rfl⟩:=items_int h3
 have hlen:ns.length<=n:=by
  unfold OpenLaw.pre at hc
  have h4:(WTm.not (.lt (.lit (.int (n:Int))) (.len (.arg 0)))).holds [] { args:=[.list (ns.map .int)] }=true:=by
   have h4:=(holds_andW hc).1
   rw[hn]at h4
   exact h4
  have h5:=condW_of h4 (w_not (w_lt w_lit (w_len_list (w_arg rfl))))
  rw[List.length_map]at h5
  refine Nat.le_of_not_lt fun q=>?_
  have q':(n:Int)<((ns.length:Nat):Int):=by omega
  first
   |(rw[decide_eq_true q']at h5;exact absurd h5 (by decide))
   |(simp at h5;omega)
 cases va with
 | cons w1 w2=>
  cases w2
  cases w1 with
  | list ho Cj=>exact ⟨_,_,ns,rfl,rfl,ho,nk ns _ Cj,hlen⟩
theorem Ai (l:OpenLaw) (args:List WData):l.row.toRowW.claim.post args (.bool true) args=true:=
 postW_of (r:=l.row.toRowW) (X:=(true==true))
  (show WShape.has [] (.bool true) .bool=true by first | rfl | decide | simp[WShape.has,WShape.arms,WShape.armsAll])
  (show (WTm.eq .res (.lit (.bool true))).value [] { args:=args,res:=some (.bool true),after:=args }=some (.bool (true==true)) from w_eq_bool (w_res rfl) w_lit) rfl
theorem vb {l:OpenLaw} {n:Nat} {q:Program} {loose:List Str} {XP:(Str->Option Value)->Heap->Prop} {YP:World->Heap->Prop} {d:DefRec}
  (hn:l.most=some n) (MS:d.params.defaults=[])
  (call: ∀(w:World) (s₀ s₁:Shared) (mg mb:Str->Option Value) (fa:Addr) (o:Obj) (pm cd doc:Value) (a:Addr) (vs:List Value) (ns:List Int),
   Ground q loose [] XP w s₀ mg mb s₁.heap->YP w s₁.heap->
   s₁.heap.get? fa=some o->o.data= .func (docDef d.name d.params d.body d.scope pm cd doc)->s₁.heap.CodeRec cd d.name->mg d.name=some (.ref fa)->
   s₁.heap.get? a=some { cls:= .type "list",data:= .seq vs.toArray }->IntsAre vs ns->ns.length<=n->s₁.gens= #[]->
   codeAny (model l.prog w) callerA (.call (.ref fa) ⟨[.ref a],[]⟩) (fun r s'=>r= .ok (.ret (.bool true))/\OldK s₁.heap s'.heap/\s'.os=s₁.os/\AllBare s'.gens) s₁):
  WalkO q loose XP YP l.row.toRowW d [] (fun f vs=>PySem.call f vs):=by
 intro w s₀ s₁ mg mb G Y fa o pm cd doc dV kV ho hd uW hD hmg hg args vals as EX aa5 hrd va GL
 obtain rfl:dV= .none:=Dflts.none hD MS
 obtain rfl:kV= .none:=Dflts.noKw hD
 obtain ⟨a,vs,ns,rfl,rfl,Jl,hints,hlen⟩:=Ah hn EX va
 refine enter_call (codeAny_mono (call w s₀ s₁ mg mb fa o pm cd doc a vs ns G Y ho (fd_plain hd) uW hmg Jl hints hlen hg) fun r s' hq=>?_)
 obtain ⟨rfl,h2,h3,h4⟩:=hq
 exact ⟨.inl ⟨.bool true, .bool true,[],rfl,fun _=>rfl, .bool true,Ai l _,fun _=>⟨List.Pairwise.nil,fun _ hm=>(nomatch hm)⟩⟩,h2,h3,h4⟩
section
variable {prog:Program} {w:World} {A:Around} {E:Value->Shared->Prop} {s:Shared} {K:Frag}
end
end Att
namespace L2
open PySem PySem.Spec PyProof.Rows
theorem rp: ∀{vs:List Value} {ns:List Int},IntsAre vs ns->Vals (ns.map V.int) vs
 | _,_, .nil=> .nil
 | _,_, .cons n t h=> .cons ⟨t,rfl⟩ (rp h)
def Jm (H:Hp):Prop:= ∀b,H b=none\/ ∃o xs,H b=some (.BI o (.lst xs))
theorem Ck {P:Program} {w:World} {K:PySem.W.Frag} {mg mb:Str->Option Value} {CX:B8} {k:Nat} {fa a:Addr} {fd:FuncData} {x:Str} {sp:Sp} {s₁:Shared} {vs:List Value} {ns:List Int}
  (KX:K.In s₁.heap) (P8:s₁.heap.Ns mainGlobals mg) (hb:s₁.heap.Ns builtinsNs mb) (Sl: ∀x:Str,x≠"__name__"->mb x=bootBuiltins x) (Sm:s₁.heap.NoLimit) (hg:s₁.gens= #[])
  (ha:s₁.heap.get? a=some { cls:= .type "list",data:= .seq vs.toArray }) (hi:IntsAre vs ns) (hl:ns.length<=sizeLine) (hr:gF k callerA)
  (F: ∀base:Heap,K.In base->base.Ns mainGlobals mg->bE P w K mg base CX k fa fd [x] sp) (MT: ∀(s:Shared) (u:Value),BindsTo s fd ⟨[u],[]⟩ [(x,u)])
  (wR: ∀H:Hp,Jm H->aT K H a (ns.map V.int)->sp [.ref a] H (fun v _=>v= .bl true) fun _ _ _=>False)
  (Sn: ∀H e s',CX [] H s₁ (fun _ _ _=>False) e s'->False):
  codeAny (model P w) callerA (.call (.ref fa) ⟨[.ref a],[]⟩) (fun r s'=>r= .ok (.ret (.bool true))/\OldK s₁.heap s'.heap/\s'.os=s₁.os/\AllBare s'.gens) s₁:=by
 have rv:=rp hi
 have So:=hi.length
 -- from an abstract heap in aaT nothing but EJ script may be tracked
 have core: ∀H:Hp,Jm H->aT K H a (ns.map V.int)->kz P w H s₁.heap->(∀b,H b≠none->b=a)->(H a≠none->K.lookup a=none)->
   codeAny (model P w) callerA (.call (.ref fa) ⟨[.ref a],[]⟩) (fun r s'=>r= .ok (.ret (.bool true))/\OldK s₁.heap s'.heap/\s'.os=s₁.os/\AllBare s'.gens) s₁:=by
  intro H hO hS bu hA hK
  have yI: ∀{b:Addr} {o:Obj},s₁.heap.get? b=some o->H b=none->(sZ s₁.heap H).get? b=some o:=fun e n=>BY e n
  have MI: ∀{b:Addr} {o:Obj} {es:Array DictEntry} {ep:Nat},s₁.heap.get? b=some o->o.data= .dict es ep->H b=none:=fun {b o es ep} e d=>by
   cases q:H b with
   | none=>rfl
   | some u=>
    have e':b=a:=hA b (by rw[q];simp)
    subst e'
    rw[ha]at e;cases e
    have d':Data.seq vs.toArray _=Data.dict es ep:=d
    cases d'
  have P9: ∀{b:Addr} {m:Str->Option Value},s₁.heap.Ns b m->(sZ s₁.heap H).Ns b m:=fun {b m} ⟨o,es,ep,e,d,r⟩=>⟨o,es,ep,yI e (MI e d),d,r⟩
  have hKb:K.In (sZ s₁.heap H):=fun b o e=>yI (KX b o e) (by
   cases q:H b with
   | none=>rfl
   | some u=>
    have e':b=a:=hA b (by rw[q];simp)
    subst e'
    rw[hK (by rw[q];simp)]at e;cases e)
  have hM:Mod K mg (sZ s₁.heap H):=⟨hKb,P9 P8,⟨mb,P9 hb,Sl⟩,let ⟨mc,h1,h2⟩:=Sm;⟨mc,P9 h1,h2⟩⟩
  have e0:B9 P w K mg (sZ s₁.heap H) callerA [] s₁ H:=⟨rfl,hM,fun b o e=>ED e,Nat.le_of_eq (zU _ _),trivial,fun b hb=>absurd (show b∈([]:List Addr) from hb) (by simp),bu, .of_eq hg⟩
  refine codeAny_mono ((F _ hKb (P9 P8)).run callerA [] s₁ H ⟨[.ref a],[]⟩ [.ref a] [.ref a] _ _ hr e0 (MT s₁ (.ref a)) (.cons rfl .nil) (wR H hO hS)) fun r s' h=>?_
  cases r with
  | error e=>exact (Sn H e s' h).elim
  | ok fl=>
   cases fl with
   | next=>exact False.elim h
   | brk=>exact False.elim h
   | cont=>exact False.elim h
   | ret u=>
    obtain ⟨v,H',os,bare,un,Sr,r',q⟩:=h
    have q':v= .bl true:=q
    subst q'
    obtain rfl:u=Value.bool true:=r'
    refine ⟨rfl,OldK.of_keep fun b o e=>?_,os,bare⟩
    cases q:H b with
    | none=>exact un.keep b o e q (by intro z;exact absurd (show b∈([]:List Addr) from z) (by simp)) (by simp)
    | some u=>
     rcases hO b with z | ⟨ob,xs,z⟩
     ·rw[q]at z;cases z
     ·have z2:=un.nY b ob _ z
      obtain ⟨e1,_⟩:=bu b _ z
      obtain ⟨e2,_⟩:=Sr b _ z2
      rw[e]at e1;cases e1
      exact e2
 cases hk:K.lookup a with
 | some o=>
  -- EJ script is one of EJ Ce own objects
  have e:=KX a o hk
  rw[ha]at e
  cases e
  refine core (fun _=>none) (fun _=> .inl rfl) (.inr ⟨_,vs.toArray,_,hk,rfl,rfl,rfl,by rw[List.size_toArray,So];exact hl,by simpa using rv⟩) (fun b u z=>by have z':(none:Option HO)=some u:=z;cases z') (fun b z=>absurd rfl z) fun z=>absurd rfl z
 | none=>
  refine core (fun b=>if b=a then some (.BI { cls:= .type "list",data:= .seq vs.toArray } (.lst (ns.map V.int))) else none) (fun b=>?_) (.inl (.inr ⟨{ cls:= .type "list",data:= .seq vs.toArray },if_pos rfl⟩)) (fun b u z=>?_) (fun b z=>?_) fun _=>hk
  ·by_cases hb:b=a
   ·exact .inr ⟨_,_,if_pos hb⟩
   ·exact .inl (if_neg hb)
  ·by_cases hb:b=a
   ·have z':=(if_pos hb).symm.trans z
    cases z'
    subst hb
    exact ⟨ha,by rw[List.length_map];exact hl,vs,_,rv,ha⟩
   ·have z':=(if_neg hb).symm.trans z
    cases z'
  ·by_cases hb:b=a
   ·exact hb
   ·exact absurd (if_neg hb) z
end L2
namespace L2
open PySem PySem.Spec PyProof.Rows
noncomputable abbrev KOf {K:PySem.W.Frag} {h:Heap} (_:K.In h):PySem.W.Frag:=K
theorem yJ {l:PySem.W.OpenLaw} {n k:Nat} {q:Program} {loose:List Str} {XP:(Str->Option Value)->Heap->Prop} {YP:World->Heap->Prop} {d:DefRec} {K:Params->PySem.W.Frag} {CX:World->B8} {sp:World->Sp} {x:Str}
  (hn:l.most=some n) (Ss:n<=sizeLine) (MS:d.params.defaults=[]) (hr:gF k callerA)
  (hY: ∀(w:World) (h:Heap),YP w h->(K w.params).In h)
  (F: ∀(w:World) (mg:Str->Option Value) (fa:Addr) (h:Heap),(K w.params).In h->h.Ns mainGlobals mg->mg d.name=some (.ref fa)->
   ∃fd:FuncData,(∀(s:Shared) (u:Value),BindsTo s fd ⟨[u],[]⟩ [(x,u)])/\
    ∀base:Heap,(K w.params).In base->base.Ns mainGlobals mg->bE l.prog w (K w.params) mg base (CX w) k fa fd [x] (sp w))
  (wR: ∀(w:World) (H:Hp) (a:Addr) (ns:List Int),ns.length<=n->Jm H->aT (K w.params) H a (ns.map V.int)->sp w [.ref a] H (fun v _=>v= .bl true) fun _ _ _=>False)
  (Sn: ∀(w:World) (H:Hp) (s:Shared) (e:Value) (s':Shared),CX w [] H s (fun _ _ _=>False) e s'->False):
  PySem.W.WalkO q loose XP YP l.row.toRowW d [] (fun f vs=>PySem.call f vs):=by
 refine Att.vb hn MS fun w s₀ s₁ mg mb fa o pm cd doc a vs ns G Y ho hd uW hmg Jl hints hlen hg=>?_
 have KX:=hY w _ Y
 obtain ⟨fd,hb,hF⟩:=F w mg fa _ KX G.T.g hmg
 exact Ck KX G.T.g G.T.b G.T.builtins G.T.nolimit hg Jl hints (Nat.le_trans hlen Ss) hr hF hb (fun H hO hS=>wR w H a ns hlen hO hS) fun H e s'=>Sn w H s₁ e s'
end L2
namespace L2
open PySem PySem.Spec PyProof.Rows
noncomputable def aG (s:Stmt):Arguments:=match s with
 | .FunctionDef _ a _ _ _ _ _ _ _ _=>a
 | _=>{ posonlyargs:=[],args:=[],vararg:=none,kwonlyargs:=[],kw_defaults:=[],kwarg:=none,defaults:=[] }
noncomputable def aE (s:Stmt):List Stmt:=match s with
 | .FunctionDef _ _ b _ _ _ _ _ _ _=>b
 | _=>[]
noncomputable def aj (s:Stmt):Scope:=match s with
 | .FunctionDef _ _ _ _ _ _ sc _ _ _=>sc
 | _=>{ kind:= .function,names:=[],isGenerator:=false,isCoroutine:=false }
abbrev eI:B8:=fun _ _ _ _ _ _=>False
abbrev E0:XK:=fun _ _ _=>False
theorem aA {X:Cx}:Passes eI X E0:=fun _ _ _ _ _ _ _ h=>h.elim
structure LL (K:PySem.W.Frag) (x qual:Str) (st:Stmt) (f:Addr) (fd:FuncData):Prop where
 ex: ∃(oc:Value) (od:Option Addr) (kV doc pm:Value) (an:Option Addr) (cM ct:Value) (GJ:Array (Option Value)),
  fd=PySem.W.fnOf x qual (aG st) (aE st) (aj st) .none kV doc pm an cM ct/\K.lookup f=some ⟨oc,od, .func fd,GJ⟩/\PySem.W.codeIn K cM qual=true
 kp:PySem.W.keepIn K (.ref f)=true
section
variable {P:Program} {w:World} {K:PySem.W.Frag} {mg:Str->Option Value} {base:Heap}
theorem LL.ok {x qual:Str} {st:Stmt} {f:Addr} {fd:FuncData} {N ps:List Str} {k:Nat} {sp:Sp} (F:LL K x qual st f fd) (S:aH N ps (aj st)) (len: ∀vs H Q E,sp vs H Q E->vs.length=ps.length)
  (B_: ∀(cM:Value) (A:Around) (outer:List Env) (s:Shared) (H:Hp) (vs:List V) (Q:VK) (E:XK),gF k (A.deeper (envOfC qual (aj st) s.heap.objs.size f cM))->sp vs H Q E->
   ∃t,zX (Ac eI P w K mg base N qual (aj st) f cM A outer s H E).PZ (aE st) t/\t { nx:=fun _ H'=>Q .ck H',rt:=Q } (start N vs) H):bE P w K mg base eI (k+1) f fd ps sp:=by
 obtain ⟨oc,od,kV,doc,pm,an,cM,ct,GJ,rfl,lk,uW⟩:=F.ex
 refine MJ lk uW S len fun A outer s H vs Q E hr wR=>?_
 obtain ⟨t,h,q⟩:=B_ cM A outer s H vs Q E hr wR
 exact ⟨t,h.PZ,q⟩
theorem LL.binds {x qual:Str} {st:Stmt} {f:Addr} {fd:FuncData} {ps:List Str} (F:LL K x qual st f fd)
  (h: ∀(kV doc pm:Value) (an:Option Addr) (cM ct:Value) (us:List Value),us.length=ps.length->bindArgs (PySem.W.fnOf x qual (aG st) (aE st) (aj st) .none kV doc pm an cM ct) ⟨us,[]⟩=pure (ps.zip us)):Binds K fd ps []:=by
 obtain ⟨oc,od,kV,doc,pm,an,cM,ct,GJ,rfl,lk,uW⟩:=F.ex
 exact .all (h kV doc pm an cM ct)
theorem aS {x qual:Str} {st:Stmt} {f:Addr} {oc:Value} {od an:Option Addr} {GJ:Array (Option Value)} {kV doc pm cM ct:Value} (l:K.lookup f=some ⟨oc,od, .func (PySem.W.fnOf x qual (aG st) (aE st) (aj st) .none kV doc pm an cM ct),GJ⟩)
  (c:PySem.W.codeIn K cM qual=true) (k:PySem.W.keepIn K (.ref f)=true):LL K x qual st f (PySem.W.fnOf x qual (aG st) (aE st) (aj st) .none kV doc pm an cM ct):=⟨⟨oc,od,kV,doc,pm,an,cM,ct,GJ,rfl,l,c⟩,k⟩
end
theorem gc {A:Around} {k:Nat} (hr:gF k A):A.units+1<cLine:=Nat.lt_of_le_of_lt (Nat.add_le_add_left (by decide:1<=64) _) hr.units
section
variable {X:Cx}
theorem pv (i:Nat) {x:Str} {pos:Pos} (hN:X.N[i]? =some x:=by rfl) (hv:Mi X.env.scope x:=by first | exact Or.inl rfl | exact Or.inr (Or.inl rfl) | exact Or.inr (Or.inr rfl)) (hd:(x==("__debug__":Str))=false:=by decide)
  (uW:(x==("__classdict__":Str))=false:=by decide):PE X (.Name x pos) (Mn i):=IA hN hv hd uW
end
theorem Aj {A B:Prop} (h:B):if false=true then A else B:=by
 rw[if_neg Bool.false_ne_true]
 exact h
theorem Su {A B:Prop} (h:A):if true=true then A else B:=by
 rw[if_pos rfl]
 exact h
theorem cB {c A B:Prop} [Decidable c] (h1:c->A) (h2: ¬c->B):if c then A else B:=by
 by_cases h:c
 ·rw[if_pos h]
  exact h1 h
 ·rw[if_neg h]
  exact h2 h
def ai (H H':Hp):Prop:= ∀b o,H b=some o->H' b=some o
theorem ai.refl (H:Hp):ai H H:=fun _ _ h=>h
theorem ai.trans {H H1 H2:Hp} (a:ai H H1) (b:ai H1 H2):ai H H2:=fun c o h=>b c o (a c o h)
theorem ai.free {H H':Hp} (e:ai H H') {l:Addr} (h:H' l=Option.none):H l=Option.none:=by
 cases q:H l with
 | none=>rfl
 | some o=>
  rw[e l o q]at h
  cases h
theorem ai.seq {K:PySem.W.Frag} {H H':Hp} {a:Addr} {xs:List V} (e:ai H H') (h:aT K H a xs):aT K H' a xs:=by
 rcases h with (h | ⟨o,h⟩) | h
 ·exact .inl (.inl (e _ _ h))
 ·exact .inl (.inr ⟨o,e _ _ h⟩)
 ·exact .inr h
end L2
namespace L2
open PySem PySem.Spec PyProof.Rows
noncomputable def iX (env:Env):List (Str×NameKind)->List (Str×Addr)->List (Str×Addr)
 | [],acc=>acc
 |(n,k)::r,acc=>iX env r (if k== .free then (match env.cells.lookup n with | some a=>(n,a)::acc | none=>acc) else acc)
theorem fF {env:Env}: ∀(names:List (Str×NameKind)) (acc:List (Str×Addr)),(∀y∈names,y.2= .free-> ∃c,env.cells.lookup y.1=some c)->
  (forIn names acc fun (x:Str×NameKind) (cs:List (Str×Addr))=>(if (x.2==NameKind.free)=true then do let a <-cellOf env x.1;pure (ForInStep.yield ((x.1,a)::cs)) else pure (ForInStep.yield cs):Sem (ForInStep (List (Str×Addr)))))=pure (iX env names acc)
 | [],acc,_=>rfl
 |(n,k)::r,acc,h=>by
  rw[List.forIn_cons]
  have hr: ∀y∈r,y.2= .free-> ∃c,env.cells.lookup y.1=some c:=fun y hy=>h y (List.mem_cons_of_mem _ hy)
  cases hk:(k==NameKind.free) with
  | false=>
   have e1:iX env ((n,k)::r) acc=iX env r acc:=by
    show iX env r (if (k==NameKind.free)=true then (match env.cells.lookup n with | some a=>(n,a)::acc | none=>acc) else acc)=_
    rw[hk,if_neg Bool.false_ne_true]
   rw[e1, <-fF r acc hr]
   simp only[hk,Bool.false_eq_true,if_false,pure_bind]
  | true=>
   obtain ⟨c,hc⟩:=h (n,k) List.mem_cons_self (by simpa using hk)
   have e1:iX env ((n,k)::r) acc=iX env r ((n,c)::acc):=by
    have zW:env.cells.lookup n=some c:=hc
    show iX env r (if (k==NameKind.free)=true then (match env.cells.lookup n with | some a=>(n,a)::acc | none=>acc) else acc)=_
    rw[hk,zW,if_pos rfl]
   have e2:cellOf env n=pure c:=by
    have zW:env.cells.lookup n=some c:=hc
    unfold cellOf
    rw[zW]
   rw[e1, <-fF r ((n,c)::acc) hr]
   simp only[hk,if_true,e2,pure_bind]
theorem jU {scope:Scope} {env:Env} (h: ∀y∈scope.names,y.2= .free-> ∃c,env.cells.lookup y.1=some c):closureFor scope env=pure (iX env scope.names []):=by
 have e:=fF scope.names [] h
 simp only[closureFor]
 rw[e]
 rfl
theorem me {env:Env} {x:Str} {c:Addr}: ∀(names:List (Str×NameKind)) (acc:List (Str×Addr)),(∀y d,acc.lookup y=some d->env.cells.lookup y=some d)->(iX env names acc).lookup x=some c->env.cells.lookup x=some c
 | [],acc,ha,h=>ha x c h
 |(n,k)::r,acc,ha,h=>by
  refine me r _ (fun y d q=>?_) h
  by_cases hk:(k==NameKind.free)=true
  ·rw[if_pos hk]at q
   cases e:env.cells.lookup n with
   | none=>rw[e]at q;exact ha y d q
   | some a=>
    rw[e]at q
    have q':List.lookup y ((n,a)::acc)=some d:=q
    rw[List.lookup_cons]at q'
    cases hy:(y==n) with
    | true=>
     rw[hy]at q'
     have:y=n:=by simpa using hy
     subst this
     rw[e];exact q'
    | false=>rw[hy]at q';exact ha y d q'
  ·rw[if_neg hk]at q;exact ha y d q
theorem vc {env:Env} {x:Str}: ∀(names:List (Str×NameKind)) (acc:List (Str×Addr)),(∃c,acc.lookup x=some c)-> ∃c,(iX env names acc).lookup x=some c
 | [],acc,h=>h
 |(n,k)::r,acc,⟨c,hc⟩=>by
  refine vc r _ ?_
  by_cases hk:(k==NameKind.free)=true
  ·rw[if_pos hk]
   cases e:env.cells.lookup n with
   | none=>exact ⟨c,hc⟩
   | some a=>
    show ∃c,List.lookup x ((n,a)::acc)=some c
    rw[List.lookup_cons]
    cases hy:(x==n) with
    | true=>exact ⟨a,rfl⟩
    | false=>exact ⟨c,hc⟩
  ·rw[if_neg hk];exact ⟨c,hc⟩
theorem oB {env:Env} {x:Str}: ∀(names:List (Str×NameKind)) (acc:List (Str×Addr)),(∀y∈names,y.2= .free-> ∃c,env.cells.lookup y.1=some c)->names.lookup x=some .free-> ∃c,(iX env names acc).lookup x=some c
 | [],acc,_,h=>by simp at h
 |(n,k)::r,acc,hf,h=>by
  have hr: ∀y∈r,y.2= .free-> ∃c,env.cells.lookup y.1=some c:=fun y hy=>hf y (List.mem_cons_of_mem _ hy)
  rw[List.lookup_cons]at h
  cases hy:(x==n) with
  | true=>
   rw[hy]at h
   have hk:k= .free:=Option.some.inj h
   subst hk
   have hx:x=n:=by simpa using hy
   subst hx
   obtain ⟨c,hc⟩:=hf (x, .free) List.mem_cons_self rfl
   have zW:env.cells.lookup x=some c:=hc
   refine vc r _ ⟨c,?_⟩
   rw[if_pos (show (NameKind.free==NameKind.free)=true by decide),zW]
   show List.lookup x ((x,c)::acc)=some c
   rw[List.lookup_cons]
   simp
  | false=>
   rw[hy]at h
   exact oB r _ hr h
theorem kI {env:Env}: ∀{names:List (Str×NameKind)} {x:Str},names.lookup x=some .free->
  ((names.map fun (n,k)=>if (k==NameKind.free&&env.scope.kind== .function&&env.kindOf n==some .cell) then (n,NameKind.cell) else (n,k)).lookup x=some .cell\/
   (names.map fun (n,k)=>if (k==NameKind.free&&env.scope.kind== .function&&env.kindOf n==some .cell) then (n,NameKind.cell) else (n,k)).lookup x=some .free)
 | [],_,h=>by simp at h
 |(n,k)::r,x,h=>by
  have ih:= @kI env r x
  show (List.lookup x ((if (k==NameKind.free&&env.scope.kind== .function&&env.kindOf n==some .cell)=true then (n,NameKind.cell) else (n,k))::_)=_\/List.lookup x ((if (k==NameKind.free&&env.scope.kind== .function&&env.kindOf n==some .cell)=true then (n,NameKind.cell) else (n,k))::_)=_)
  cases hx:x==n with
  | true=>
   simp only[List.lookup_cons,hx]at h
   cases h
   by_cases hc:((NameKind.free==NameKind.free)&&env.scope.kind== .function&&env.kindOf n==some .cell)=true
   ·rw[if_pos hc];simp[List.lookup_cons,hx]
   ·rw[if_neg hc];simp[List.lookup_cons,hx]
  | false=>
   simp only[List.lookup_cons,hx]at h
   by_cases hc:(k==NameKind.free&&env.scope.kind== .function&&env.kindOf n==some .cell)=true
   ·rw[if_pos hc];simp only[List.lookup_cons,hx];exact ih h
   ·rw[if_neg hc];simp only[List.lookup_cons,hx];exact ih h
theorem kJ {env:Env}: ∀{names:List (Str×NameKind)} {x:Str},(∀y∈names,y.2≠ .cell)->
  ((names.map fun (n,k)=>if (k==NameKind.free&&env.scope.kind== .function&&env.kindOf n==some .cell) then (n,NameKind.cell) else (n,k)).lookup x=some .cell\/
   (names.map fun (n,k)=>if (k==NameKind.free&&env.scope.kind== .function&&env.kindOf n==some .cell) then (n,NameKind.cell) else (n,k)).lookup x=some .free)->names.lookup x=some .free
 | [],_,_,h=>by simp at h
 |(n,k)::r,x,hn,h=>by
  have ih:= @kJ env r x (fun y hy=>hn y (List.mem_cons_of_mem _ hy))
  have hk:=hn (n,k) List.mem_cons_self
  have h':(List.lookup x ((if (k==NameKind.free&&env.scope.kind== .function&&env.kindOf n==some .cell)=true then (n,NameKind.cell) else (n,k))::(r.map fun (n,k)=>if (k==NameKind.free&&env.scope.kind== .function&&env.kindOf n==some .cell) then (n,NameKind.cell) else (n,k)))=some .cell\/List.lookup x ((if (k==NameKind.free&&env.scope.kind== .function&&env.kindOf n==some .cell)=true then (n,NameKind.cell) else (n,k))::(r.map fun (n,k)=>if (k==NameKind.free&&env.scope.kind== .function&&env.kindOf n==some .cell) then (n,NameKind.cell) else (n,k)))=some .free):=h
  cases hx:x==n with
  | true=>
   rw[List.lookup_cons,hx]
   by_cases hc:(k==NameKind.free&&env.scope.kind== .function&&env.kindOf n==some .cell)=true
   ·have:(k==NameKind.free)=true:=by
     rw[Bool.and_eq_true,Bool.and_eq_true]at hc;exact hc.1.1
    have hk':k= .free:=by simpa using this
    rw[hk']
   ·rw[if_neg hc]at h'
    simp only[List.lookup_cons,hx]at h'
    rcases h' with h' | h'
    ·exact absurd (Option.some.inj h') hk
    ·exact h'
  | false=>
   rw[List.lookup_cons,hx]
   by_cases hc:(k==NameKind.free&&env.scope.kind== .function&&env.kindOf n==some .cell)=true
   ·rw[if_pos hc]at h';simp only[List.lookup_cons,hx]at h';exact ih h'
   ·rw[if_neg hc]at h';simp only[List.lookup_cons,hx]at h';exact ih h'
abbrev Eg:Value->Shared->Prop:=fun _ _=>False
theorem tN {prog:Program} {w:World} {A:Around} {R:Result->Shared->Prop} {s:Shared} {elt target iter:Expr} {ifs:List Expr} {scope:Scope} {pos:Pos} {it acc:Value} {env:Env} (I:Nat->Shared->Prop)
  (turn: ∀n s,I n s->wpAny (model prog w) A (pyNext it) (fun r s₁=>match r with
   | none=>R (.ok .next) s₁
   | some v=>wpAny (model prog w) A (letOwnedTupleGo target it v) (fun _ s₁'=>wpAny (model prog w) A (assign target env v) (fun _ s₂=>
     wpAny (model prog w) A (forIn ifs true fun c r=>if r=true then do let ok <-isTrue c env (eval c env);pure (ForInStep.yield ok) else pure (ForInStep.yield r)) (fun ok s₃=>
      if ok=true then wpAny (model prog w) A (eval elt env) (fun x s₄=>
       wpAny (model prog w) A (call (.builtin "list.append") [acc,x]) (fun _ s₅=> ∃m,m<n/\I m s₅) Eg s₄) Eg s₃
      else ∃m,m<n/\I m s₃) Eg s₂) Eg s₁') Eg s₁) Eg s)
  (n:Nat) (h:I n s):codeAny (model prog w) A (.compLoop (.ListComp elt [⟨target,iter,ifs,0⟩] scope pos) 0 it acc env) R s:=by
 refine codeAny_loop rfl I (fun n s hI=>?_) n h
 show wpAny _ A ((compTurn (.ListComp elt [⟨target,iter,ifs,0⟩] scope pos) 0 it acc env).onRaise (fun x=>do noteFrame x env;theTreesLotGoes x)) _ _ s
 refine wpAny_noted ?_
 rw[compTurn_list]
 have no: ∀{F:Value->Shared->Prop} (e:Value) (s':Shared),Eg e s'->F e s':=fun _ _ h=>h.elim
 refine wpAny_bind (wpAny_standAt (wpAny_bind (wpAny_mono (turn n s hI) (fun r s₁ h₁=>?_) no)))
 cases r with
 | none=>exact wpAny_pure h₁
 | some v=>
  refine wpAny_bind (wpAny_mono h₁ (fun _ s₁' h₁'=>?_) no)
  refine wpAny_bind (wpAny_mono h₁' (fun _ s₂ h₂=>wpAny_bind (wpAny_mono h₂ (fun ok s₃ h₃=>?_) no)) no)
  cases ok with
  | false=>exact wpAny_pure ⟨rfl,h₃⟩
  | true=>
   exact wpAny_bind (wpAny_bind (wpAny_mono h₃ (fun x s₄ h₄=>wpAny_bind (wpAny_mono h₄ (fun _ s₅ h₅=>wpAny_pure (wpAny_pure ⟨rfl,h₅⟩)) no)) no))
noncomputable def bP (X:Cx) (scope:Scope) (C:Addr) (Nc:List Str) (s:Shared) (H:Hp) (fp:List Addr):Cx where
 prog:=X.prog
 w:=X.w
 K:=X.K
 mg:=X.mg
 base:=X.base
 A:=X.A
 N:=Nc
 s₀:=s
 H₀:=H
 env:=compEnvC scope (iX X.env scope.names []) C X.env
 outer:=X.stack
 stack:=X.stack
 ex:=fp
 fn:=fun _=>false
 calm:=X.calm
 pn:=[]
 xe:=Eg
def jP (X:Cx) (scope:Scope):List Str->List (Option Nat)->Prop
 | [],[]=>True
 | _::ys,none::os=>jP X scope ys os
 | y::ys,some j::os=>(X.N[j]? =some y/\scope.names.lookup y=some .free/\(X.env.kindOf y=some .cell\/X.env.kindOf y=some .free))/\jP X scope ys os
 | _,_=>False
noncomputable def kK (σ:St) (ix:List (Option Nat)):St:=ix.map fun o=>match o with | none=>none | some j=>(σ[j]?).getD none
def Wk:St->St->Prop
 | [],[]=>True
 | none::a,_::b=>Wk a b
 | some v::a,w::b=>w=some v/\Wk a b
 | _,_=>False
theorem Wk.len: ∀{a b:St},Wk a b->a.length=b.length
 | [],[],_=>rfl
 | none::a,_::b,h=>congrArg (· +1) (Wk.len (a:=a) (b:=b) h)
 | some _::a,_::b,h=>congrArg (· +1) (Wk.len (a:=a) (b:=b) h.2)
theorem Wk.get: ∀{a b:St} {i:Nat} {v:V},Wk a b->a[i]? =some (some v)->b[i]? =some (some v)
 | [],[],i,v,_,h=>by simp at h
 | none::a,x::b,0,v,_,h=>by simp at h
 | none::a,x::b,i+1,v,k,h=>by
  have:=Wk.get (a:=a) (b:=b) (i:=i) (v:=v) k (by simpa using h)
  simpa using this
 | some y::a,x::b,0,v,k,h=>by
  have e:y=v:=by simpa using h
  subst e
  simp[k.1]
 | some y::a,x::b,i+1,v,k,h=>by
  have:=Wk.get (a:=a) (b:=b) (i:=i) (v:=v) k.2 (by simpa using h)
  simpa using this
theorem jP.len {X:Cx} {scope:Scope}: ∀{N:List Str} {ix:List (Option Nat)},jP X scope N ix->ix.length=N.length
 | [],[],_=>rfl
 | _::ys,none::os,h=>congrArg (· +1) (jP.len (N:=ys) (ix:=os) h)
 | _::ys,some _::os,h=>congrArg (· +1) (jP.len (N:=ys) (ix:=os) h.2)
theorem jP.get {X:Cx} {scope:Scope}: ∀{N:List Str} {ix:List (Option Nat)} {i j:Nat},jP X scope N ix->ix[i]? =some (some j)-> ∃y,N[i]? =some y/\X.N[j]? =some y/\scope.names.lookup y=some .free/\(X.env.kindOf y=some .cell\/X.env.kindOf y=some .free)
 | [],[],i,j,_,h=>by simp at h
 | y::ys,none::os,0,j,_,h=>by simp at h
 | y::ys,none::os,i+1,j,k,h=>by
  obtain ⟨z,h1,h2⟩:=jP.get (N:=ys) (ix:=os) (i:=i) (j:=j) k (by simpa using h)
  exact ⟨z,by simpa using h1,h2⟩
 | y::ys,some j'::os,0,j,k,h=>by
  have e:j'=j:=by simpa using h
  subst e
  exact ⟨y,by simp,k.1⟩
 | y::ys,some j'::os,i+1,j,k,h=>by
  obtain ⟨z,h1,h2⟩:=jP.get (N:=ys) (ix:=os) (i:=i) (j:=j) k.2 (by simpa using h)
  exact ⟨z,by simpa using h1,h2⟩
theorem Ak {σ:St} {ix:List (Option Nat)} {i:Nat} {v:V} (h:(kK σ ix)[i]? =some (some v)): ∃j,ix[i]? =some (some j)/\σ[j]? =some (some v):=by
 unfold kK at h
 rw[List.getElem?_map]at h
 cases e:ix[i]? with
 | none=>rw[e]at h;cases h
 | some o=>
  rw[e]at h
  cases o with
  | none=>cases h
  | some j=>
   refine ⟨j,rfl,?_⟩
   have h':some ((σ[j]?).getD none)=some (some v):=h
   cases q:σ[j]? with
   | none=>rw[q]at h';cases h'
   | some z=>rw[q]at h';cases h';rfl
end L2
namespace L2
open PySem PySem.Spec PyProof.Rows
theorem xk {X:Cx} {pins:List (Addr×Obj)} {σ:St} {H:Hp} {s:Shared} (I:Inv X pins σ H s) {scope:Scope} {Nc:List Str} {ix:List (Option Nat)} (BL:jP X scope Nc ix) (gU: ∀y∈scope.names,y.2≠ .cell)
  (iL:scope.kind= .function) (tO: ∀y∈scope.names,y.2= .free->X.env.kindOf y.1=some .cell\/X.env.kindOf y.1=some .free) {fp:List Addr} (hf: ∀b∈fp,nj X pins H b) (MU: ∀b∈fp, ∃o,s.heap.get? b=some o)
  {C:Addr} {h':Heap} {t':Nat} {m0:Str->Option Value} (hC:s.heap.objs.size<=C) (P8:h'.Ns C m0) (k: ∀b o,s.heap.get? b=some o->h'.get? b=some o):
  Inv (bP X scope C Nc s H fp) [] (kK σ ix) H { s with heap:=h',toks:=t' }:=by
 have LM: ∀y∈scope.names,y.2= .free-> ∃c,X.env.cells.lookup y.1=some c:=fun y hy e=>I.ok.has y.1 (tO y hy e)
 have kL: ∀{x:Str} {c:Addr},(iX X.env scope.names []).lookup x=some c->X.env.cells.lookup x=some c:=fun {x c} e=>me scope.names [] (fun y d q=>by simp at q) e
 refine ⟨⟨I.ok.mod,iL,I.ok.glob,I.ok.blt,hC,fun x y c h1 h2=>I.ok.inj x y c (kL h1) (kL h2),fun x hx=>?_,fun x c h=>?_,I.ok.hd,I.ok.frames, .inl rfl,fun b hb=>?_,I.bs,Nat.le_trans I.ok.Gy I.sz,fun b o e hb=>?_,fun b hb hs=>?_,I.stack,I.yA⟩,
  rfl,I.bare,Un.kept k,⟨m0,P8,fun i x v h1 h2 h3=>?_⟩,fun x c e=>?_,I.bu.fresh hC,fun x c e=>I.i0 x c (kL e),fun p hp=>absurd (show p∈([]:List (Addr×Obj)) from hp) (by simp),I.bu.kept k,?_⟩
 ·have RU:scope.names.lookup x=some .free:=kJ gU hx
  exact oB scope.names [] LM RU
 ·exact absurd (show false=true from h) (by decide)
 ·refine ⟨?_,fun x c e=>(hf b hb).2.2.2.2.1 x c (kL e)⟩
  obtain ⟨o,ho⟩:=MU b hb
  exact Nat.ne_of_lt (Nat.lt_of_lt_of_le (Heap.lt_size ho) hC)
 ·rcases (hf b hb).2.2.2.1 with z | z
  ·exact I.ok.BZ b o e z
  ·exact absurd (Nat.lt_of_lt_of_le (Heap.lt_size e) (Nat.le_trans I.ok.Gy z)) (Nat.lt_irrefl _)
 ·rcases List.mem_cons.mp (I.n0 b hs) with z | z
  ·exact (hf b hb).2.1 z
  ·exact (hf b hb).2.2.1 z
 ·obtain ⟨j,e1,e2⟩:=Ak h2
  obtain ⟨y,y1,y2,y3,y4⟩:=BL.get e1
  have Sv:Nc[i]? =some x:=h1
  rw[y1]at Sv
  cases Sv
  obtain ⟨m,hn,hl⟩:=I.loc
  have hv:Mi X.env.scope x:=by
   rcases y4 with z | z
   ·exact .inr (.inl z)
   ·exact .inr (.inr z)
  obtain ⟨u,r,l⟩:=hl j x v y2 e2 hv
  refine ⟨u,r, .inr ⟨kI y3,?_⟩⟩
  rcases l with ⟨l,_⟩ | ⟨_,c,hc,q⟩
  ·rcases y4 with z | z
   ·rw[z]at l;cases l
   ·rw[z]at l;cases l
  ·obtain ⟨c',zW⟩:=oB scope.names [] LM y3
   have e:=kL zW
   rw[hc]at e
   cases e
   obtain ⟨o,ho,hd⟩:=q
   exact ⟨c,zW,o,k _ _ ho,hd⟩
 ·obtain ⟨v,o,ho,hd⟩:=I.cell x c (kL e)
  exact ⟨v,o,k _ _ ho,hd⟩
 ·show (kK σ ix).length=Nc.length
  unfold kK
  rw[List.length_map]
  exact BL.len
theorem Al {X:Cx} {pins yB:List (Addr×Obj)} {σ σ':St} {H H':Hp} {s s':Shared} (I:Inv X pins σ H s) {scope:Scope} {Nc:List Str} {fp:List Addr} {C D:Addr} (J:Inv (bP X scope C Nc s H fp) yB σ' H' s')
  (hf: ∀b∈fp,nj X pins H b) (hD:s.heap.objs.size<=D) (hC:s.heap.objs.size<=C) (Jp:D≠C) {aI:List Value} {n:Nat} {acc:List V} (eD:s'.heap.get? D=some { cls:= .type "list",data:= .seq aI.toArray n }) (r:Vals acc aI)
  (hz:acc.length<=sizeLine) (nD:H' D=none) {oC:Obj} (eC:s'.heap.get? C=some oC) (dC: ∀v,oC.data≠ .cell v):Inv X (pins++[(C,oC)]) σ (upd H' D (.lst acc)) s':=by
 have lt: ∀b o,s.heap.get? b=some o->b≠D:=fun b o e=>Nat.ne_of_lt (Nat.lt_of_lt_of_le (Heap.lt_size e) hD)
 have U:Un (yy X.stack) fp H H' s.heap s'.heap:=J.base
 have U':Un (yy X.stack) fp H (upd H' D (.lst acc)) s.heap s'.heap:=
  ⟨U.keep,U.slot,fun b o e n hx=>by rw[aq (lt b o e)];exact U.free b o e n hx,U.there,fun b xs e=>by rw[aq (ak (U.lV b xs e) nD)];exact U.lV b xs e,
   fun b o u e=>by rw[aq (ak (U.nY b o u e) nD)];exact U.nY b o u e,fun b ps e=>by
    obtain ⟨more,q⟩:=U.sY b ps e
    exact ⟨more,by rw[aq (ak q nD)];exact q⟩⟩
 have bu:kz X.prog X.w (upd H' D (.lst acc)) s'.heap:=fun b u e=>by
  by_cases hb:b=D
  ·subst hb
   rw[ae]at e;cases e
   exact ⟨hz,aI,n,r,eD⟩
  ·rw[aq hb]at e
   exact (J.bu b u e).uU (fun c v _ q=>q) (fun c q=>by rw[aq (ak q nD)];exact q) fun c xs q=>by rw[aq (ak q nD)];exact q
 have I':Inv X pins σ (upd H' D (.lst acc)) s':=I.Mm (ch:=fp) J.os U' bu J.bare fun b hb=>by
  obtain ⟨_,h1,_,h2,h3,h4⟩:=hf b hb
  exact ⟨h2,h1,h3,h4⟩
 refine I'.kB fun p hp=>?_
 rcases List.mem_append.mp hp with z | z
 ·exact I'.pin p (List.mem_append_right _ z)
 ·have e:p=(C,oC):=List.mem_singleton.mp z
  subst e
  refine ⟨eC,?_,Nat.ne_of_gt (Nat.lt_of_lt_of_le I.lt hC),I.Iv hC,dC⟩
  rw[aq (Ne.symm Jp)]
  exact J.free
def PF (Y:Cx) (ifs:List Expr) (tc:TT):Prop:=
 ∀(pins:List (Addr×Obj)) (s:Shared) (σ:St) (H:Hp) (Q:Bool->Hp->Prop),Inv Y pins σ H s->tc σ H Q->
  wpAny (model Y.prog Y.w) Y.A (forIn ifs true fun c r=>if r=true then do let ok <-isTrue c Y.env (eval c Y.env);pure (ForInStep.yield ok) else pure (ForInStep.yield r)) (TP Y pins σ Q) Y.xe s
def Jq:TT:=fun _ H Q=>Q true H
theorem ip {Y:Cx}:PF Y [] Jq:=fun _ _ _ H _ I h=>wpAny_tests_nil ⟨H,I,h⟩
theorem mf {Y:Cx} {c:Expr} {tc:TT} (h:PT Y c tc):PF Y [c] tc:=fun pins s σ H Q I hw=>wpAny_tests_one (h pins s σ H Q I hw)
def kM (J:It) (σc:St) (g:TG) (tc:TT) (te:TE) (Q:VK) (H1:Hp):Prop:=
 ∃W:Nat->Nat->List V->Hp->Prop,(∃m,W 0 m [] H1)/\ ∀i m acc H,W i m acc H->acc.length<sizeLine/\
 ((J.stop i H/\ ∀D,H D=none->Q (.ref D) (upd H D (.lst acc)))\/
  (J.go i H/\ ∀x H',J.yD i H x H'->g x σc H' fun σ2 H2=>Wk σc σ2/\tc σ2 H2 fun b H3=>if b=true then te σ2 H3 fun v H4=> ∃m',m'<m/\W (i+1) m' (acc++[v]) H4 else ∃m',m'<m/\W (i+1) m' acc H3))
def vd (wi:TI) (ix:List (Option Nat)) (g:TG) (tc:TT) (te:TE):TE:=fun σ H Q=>wi σ H fun J H1=>kM J (kK σ ix) g tc te Q H1
theorem rq {X:Cx} {tg iter elt:Expr} {ifs:List Expr} {scope:Scope} {pos:Pos} {wi:TI} {g:TG} {tc:TT} {te:TE} {Nc:List Str} {ix:List (Option Nat)} (hi:PI X tg iter wi) (jV:X.calm=true) (BL:jP X scope Nc ix)
  (gU: ∀y∈scope.names,y.2≠ .cell) (iL:scope.kind= .function) (tO: ∀y∈scope.names,y.2= .free->X.env.kindOf y.1=some .cell\/X.env.kindOf y.1=some .free)
  (hG: ∀C s H fp,PG (bP X scope C Nc s H fp) tg g) (hT: ∀C s H fp,PF (bP X scope C Nc s H fp) ifs tc) (hE: ∀C s H fp,PE (bP X scope C Nc s H fp) elt te)
  {pins:List (Addr×Obj)} {s:Shared} {σ:St} {H:Hp} {Q:VK} (I:Inv X pins σ H s) (h:vd wi ix g tc te σ H Q) {RR:Value->Addr->Result->Shared->Prop}
  (hRR: ∀(D C:Addr) (oC:Obj) (m:Str->Option Value) (H':Hp) (s':Shared),s'.heap.get? C=some oC->s'.heap.Ns C m->nj X pins H' C->Inv X (pins++[(C,oC)]) σ H' s'->Q (.ref D) H'->RR (.ref D) C (.ok .next) s'):
  wpAny (model X.prog X.w) X.A (eval iter X.env) (fun v s1=>wpAny (model X.prog X.w) X.A (pyIter v) (fun it s2=>wpAny (model X.prog X.w) X.A (newList []) (fun acc s3=>
   wpAny (model X.prog X.w) X.A (newFunctionEnv scope X.env.globals (iX X.env scope.names []) [] X.env.qual none .none (some X.env)) (fun MV s4=>
    codeAny (model X.prog X.w) X.A (.compStart (.ListComp elt [⟨tg,iter,ifs,0⟩] scope pos) 0 it acc { MV with scope:=relabel scope X.env }) (RR acc MV.locals) s4) X.xe s3) X.xe s2) X.xe s1) X.xe s:=by
 refine bZ (hi pins s σ H _ I h) fun v s1 h1=>bZ h1 fun RX s2 h2=>?_
 obtain ⟨it,fp,tn,J,H2,e,I2,T,lR,f2,W,⟨m0,w0⟩,turn⟩:=h2
 subst e
 refine wpAny_newObj_type (wpAny_newFunctionEnv gU (by intro y hy;simp at hy) (fun h₁ Jr EY=>?_) iL)
 dsimp only at Jr EY ⊢
 generalize GN:s2.heap.push { cls:= .type "list",dict:=none,data:= .seq ([]:List Value).toArray }=P2 at Jr EY ⊢
 have hC:P2.objs.size=s2.heap.objs.size+1:=by rw[<-GN,Heap.size_push]
 have Jp:s2.heap.objs.size≠P2.objs.size:=by rw[hC];exact Nat.ne_of_lt (Nat.lt_succ_self _)
 have Js:s2.heap.objs.size<=P2.objs.size:=by rw[hC];exact Nat.le_succ _
 have Iz: ∀b,b<s2.heap.objs.size->b≠P2.objs.size:=fun b hb=>by rw[hC];exact Nat.ne_of_lt (Nat.lt_succ_of_lt hb)
 have old: ∀b o,s2.heap.get? b=some o->h₁.get? b=some o:=fun b o e=>EY.extBut b o (Iz b (Heap.lt_size e)) (Heap.get?_push_of_some _ (GN▸Heap.get?_push_of_some _ e))
 have oD:h₁.get? s2.heap.objs.size=some { cls:= .type "list",data:= .seq ([]:List Value).toArray }:=EY.extBut _ _ Jp (Heap.get?_push_of_some _ (GN▸Heap.get?_push_size _ rfl))
 have st₁:tn 0 h₁:=T.keep 0 _ _ lR fun b _ o e=>old b o e
 have MU: ∀b∈fp, ∃o,s2.heap.get? b=some o:=fun b hb=>let ⟨o,e,_⟩:=T.obj 0 _ lR b hb;⟨o,e⟩
 have fpD: ∀b∈fp,s2.heap.objs.size≠b:=fun b hb=>let ⟨o,e⟩:=MU b hb;Nat.ne_of_gt (Heap.lt_size e)
 have IY:=xk I2 BL gU iL tO f2 MU (t':=s2.toks+([]:List (Str×Value)).length) Js Jr old
 have Sw: ∀b,s2.heap.objs.size<=b->b∉yy X.stack:=fun b hb hs=>by
  rcases List.mem_cons.mp (I2.n0 b hs) with z | z
  ·exact absurd (Nat.lt_of_lt_of_le I2.lt hb) (by rw[z];exact Nat.lt_irrefl _)
  ·exact I2.Iv hb z
 have kL: ∀{x:Str} {c:Addr},(iX X.env scope.names []).lookup x=some c->X.env.cells.lookup x=some c:=fun {x c} e=>me scope.names [] (fun y d q=>by simp at q) e
 have MW: ∀x c,(iX X.env scope.names []).lookup x=some c->c≠s2.heap.objs.size:=fun x c e z=>by
  obtain ⟨v,q⟩:=I2.cell x c (kL e)
  exact absurd (q.lt) (by rw[z];exact Nat.lt_irrefl _)
 have fY: ∀{pl:List (Addr×Obj)} {H':Hp},(∀p∈pl,p.1=s2.heap.objs.size)->(∀b∈fp,H' b=none)-> ∀b∈fp,nj (bP X scope P2.objs.size Nc s2 H2 fp) pl H' b:=fun {pl H'} fJ hn b hb=>by
  refine ⟨hn b hb,?_,?_, .inl hb,fun x c e=>(f2 b hb).2.2.2.2.1 x c (kL e),fun p hp=>?_⟩
  ·obtain ⟨o,e⟩:=MU b hb
   exact Iz b (Heap.lt_size e)
  ·intro hs
   rcases List.mem_cons.mp (I2.n0 b hs) with z | z
   ·exact (f2 b hb).2.1 z
   ·exact (f2 b hb).2.2.1 z
  ·rw[fJ p hp]
   exact fpD b hb
 have loop: ∀s₃:Shared,s₃={ s2 with heap:=h₁,toks:=s2.toks+([]:List (Str×Value)).length }->
   codeAny (model X.prog X.w) X.A (.compLoop (.ListComp elt [⟨tg,iter,ifs,0⟩] scope pos) 0 (.ref it) (.ref s2.heap.objs.size) (compEnvC scope (iX X.env scope.names []) P2.objs.size X.env)) (RR (.ref s2.heap.objs.size) P2.objs.size) s₃:=by
  rintro s₃ rfl
  refine tN (fun n s'=> ∃i acc aI nn H',Inv (bP X scope P2.objs.size Nc s2 H2 fp) [] (kK σ ix) H' s'/\tn i s'.heap/\(∀b∈fp,H' b=none)/\
   s'.heap.get? s2.heap.objs.size=some { cls:= .type "list",data:= .seq (aI:List Value).toArray nn }/\Vals acc aI/\H' s2.heap.objs.size=none/\W i n acc H') ?_ m0
   ⟨0,[],[],0,H2,IY,st₁,fun b hb=>(f2 b hb).1,oD, .nil,I2.bu.fresh (Nat.le_refl _),w0⟩
  rintro n s3 ⟨i,acc,aI,nn,H3,I3,MA,MB,eD,rv,nD,w3⟩
  obtain ⟨hz,alt⟩:=turn i n acc H3 w3
  have IP:Inv (bP X scope P2.objs.size Nc s2 H2 fp) [(s2.heap.objs.size,{ cls:= .type "list",data:= .seq aI.toArray nn })] (kK σ ix) H3 s3:=I3.kB fun p hp=>by
   have e:p=(s2.heap.objs.size,_):=List.mem_singleton.mp hp
   subst e
   refine ⟨eD,nD,Jp,Sw _ (Nat.le_refl _),fun v z=>?_⟩
   have z':Data.seq aI.toArray nn=Data.cell v:=z
   cases z'
  have fJ: ∀p∈[(s2.heap.objs.size,({ cls:= .type "list",data:= .seq aI.toArray nn }:Obj))],p.1=s2.heap.objs.size:=fun p hp=>by
   have e:p=(s2.heap.objs.size,_):=List.mem_singleton.mp hp
   rw[e]
  rcases alt with ⟨stop,fin⟩ | ⟨go,step⟩
  ·refine bZ (T.done (bP X scope P2.objs.size Nc s2 H2 fp) rfl rfl rfl jV i _ s3 _ H3 Eg IP (fY fJ MB) MA stop) fun r s4 ⟨hr,I4⟩=>?_
   subst hr
   obtain ⟨m,hn,_⟩:=id I4.loc
   obtain ⟨oC,es,ep,eC,dC,_⟩:=id hn
   have eD4:=(I4.pin (s2.heap.objs.size,_) (List.mem_append_right _ (List.mem_singleton.mpr rfl))).1
   have Sx:=fin _ nD
   refine hRR _ _ oC m _ s4 eC hn ?_ (Al I2 I4 f2 (Nat.le_refl _) Js Jp eD4 rv (Nat.le_of_lt hz) nD eC fun v z=>?_) Sx
   ·refine I2.kD Js ?_
    rw[aq (Ne.symm Jp)]
    exact I4.free
   ·rw[dC]at z;cases z
  ·refine bZ (T.item (bP X scope P2.objs.size Nc s2 H2 fp) rfl rfl rfl jV i _ s3 _ H3 Eg IP (fY fJ MB) MA go) fun r s4 ⟨u,hr,h4⟩=>?_
   subst hr
   refine bZ h4 fun _ s5 ⟨x,H5,I5,r5,y5,IQ,R0⟩=>?_
   have R1:=I5.pinned (fY fJ R0) (T.obj _ _ IQ)
   refine bZ (hG _ s2 H2 fp _ s5 _ H5 x u _ R1 r5 (step x H5 y5)) fun _ s6 ⟨σ6,H6,I6,wk,q6⟩=>?_
   refine bZ (hT _ s2 H2 fp _ s6 σ6 H6 _ I6 q6) fun b s7 ⟨H7,I7,q7⟩=>?_
   have again: ∀{H9:Hp} {s9:Shared} {m':Nat},Inv (bP X scope P2.objs.size Nc s2 H2 fp) ([(s2.heap.objs.size,({ cls:= .type "list",data:= .seq aI.toArray nn }:Obj))]++og fp s5.heap) σ6 H9 s9->
     (s9.heap.get? s2.heap.objs.size=some { cls:= .type "list",data:= .seq aI.toArray nn }/\H9 s2.heap.objs.size=none)/\tn (i+1) s9.heap/\(∀b∈fp,H9 b=none)/\Inv (bP X scope P2.objs.size Nc s2 H2 fp) [] (kK σ ix) H9 s9:=fun {H9 s9 m'} I9=>by
    have pD:=I9.pin (s2.heap.objs.size,_) (List.mem_append_right _ (List.mem_append_left _ (List.mem_singleton.mpr rfl)))
    refine ⟨⟨pD.1,pD.2.1⟩,T.keep _ _ _ IQ fun b hb o e=>(I9.pin (b,o) (List.mem_append_right _ (List.mem_append_right _ (il hb e)))).1,fun b hb=>?_,?_⟩
    ·obtain ⟨o,e,d⟩:=T.obj _ _ IQ b hb
     exact (I9.pin (b,o) (List.mem_append_right _ (List.mem_append_right _ (il hb e)))).2.1
    ·exact (I9.weak wk.len fun i v e=>wk.get e).kB fun p hp=>absurd hp (by simp)
   cases b with
   | false=>
    rw[if_neg Bool.false_ne_true]at q7 ⊢
    obtain ⟨m',hm,w7⟩:=q7
    obtain ⟨⟨e7,n7⟩,t7,f7,J7⟩:=again (m':=0) I7
    exact ⟨m',hm,i+1,acc,aI,nn,H7,J7,t7,f7,e7,rv,n7,w7⟩
   | true=>
    rw[if_pos rfl]at q7 ⊢
    refine bZ (hE _ s2 H2 fp _ s7 σ6 H7 _ I7 q7) fun y s8 ⟨v,H8,I8,r8,m',hm,w8⟩=>?_
    obtain ⟨⟨e8,n8⟩,t8,f8,J8⟩:=again (m':=0) I8
    refine wpAny_list_append_plain (items:=aI.toArray) ⟨nn,e8⟩ (fun h9 hl9 hs9=>?_) (by rw[List.size_toArray, <-rv.length];exact Nat.le_of_lt hz)
    obtain ⟨n9,e9⟩:=hl9
    refine ⟨m',hm,i+1,acc++[v],aI++[y],n9,H8,J8.turned (t':=s8.toks) (fun b o hb e=>(hs9.2 b hb).trans e) n8 Jp (.inr (Nat.le_refl _)) MW (fun p hp=>absurd hp (by simp[bP])),?_,f8,?_,rv.append (.cons r8 .nil),n8,w8⟩
    ·exact T.keep _ _ _ t8 fun b hb o e=>(hs9.2 b (Ne.symm (fpD b hb))).trans e
    ·simpa using e9
 exact codeAny_compStart_list (loop _ rfl) (T.self _ 0 _ _ _ st₁ (loop _ rfl))
theorem EZ {X:Cx} {tg iter elt:Expr} {ifs:List Expr} {scope:Scope} {pos:Pos} {wi:TI} {g:TG} {tc:TT} {te:TE} (Nc:List Str) (ix:List (Option Nat)) (hi:PI X tg iter wi) (jV:X.calm=true) (BL:jP X scope Nc ix)
  (gU: ∀y∈scope.names,y.2≠ .cell) (iL:scope.kind= .function) (tO: ∀y∈scope.names,y.2= .free->X.env.kindOf y.1=some .cell\/X.env.kindOf y.1=some .free)
  (xl: ∀x∈scope.names,x.2= .local->scope.names.lookup x.1=some .local)
  (hG: ∀C s H fp,PG (bP X scope C Nc s H fp) tg g) (hT: ∀C s H fp,PF (bP X scope C Nc s H fp) ifs tc) (hE: ∀C s H fp,PE (bP X scope C Nc s H fp) elt te)
  (hs: ∀x,foldedSetIterable iter X.env x=pure x:=by intro _;rfl):PE X (.ListComp elt [⟨tg,iter,ifs,0⟩] scope pos) (vd wi ix g tc te):=by
 intro pins s σ H Q I h
 rw[eval_ListComp]
 have LM: ∀y∈scope.names,y.2= .free-> ∃c,X.env.cells.lookup y.1=some c:=fun y hy e=>I.ok.has y.1 (tO y hy e)
 refine wpAny_comprehension_free (use:=none) rfl hs (jU LM) iL xl (rq hi jV BL gU iL tO hG hT hE I h (RR:=fun acc C=>compPost (model X.prog X.w) X.A X.xe none (EP X pins σ Q) acc C) ?_)
 intro D C oC m H' s' eC hn fC I' q
 refine ⟨m,hn,fun h' Sy=>⟨.ref D,H',?_,rfl,q⟩⟩
 exact I'.i8.turned (t':=s'.toks) (fun b o hb e=>(Sy.2 b hb).trans e) fC.1 fC.2.1 fC.2.2.2.1 fC.2.2.2.2.1 fC.2.2.2.2.2
theorem E1 {X:Cx} {i:Nat} {x:Str} {tg iter elt:Expr} {ifs:List Expr} {scope:Scope} {pos Cm pos':Pos} {wi:TI} {g:TG} {tc:TT} {te:TE} (Nc:List Str) (ix:List (Option Nat)) (hN:X.N.Nodup) (MX:X.N[i]? =some x) (hx:Loc X.env.scope x)
  (LN:swapsWith (.ListComp elt [⟨tg,iter,ifs,0⟩] scope pos) (some (.Name x pos')) Cm.line X.env=pure true) (hi:PI X tg iter wi) (jV:X.calm=true) (BL:jP X scope Nc ix)
  (gU: ∀y∈scope.names,y.2≠ .cell) (iL:scope.kind= .function) (tO: ∀y∈scope.names,y.2= .free->X.env.kindOf y.1=some .cell\/X.env.kindOf y.1=some .free)
  (xl: ∀x∈scope.names,x.2= .local->scope.names.lookup x.1=some .local)
  (hG: ∀C s H fp,PG (bP X scope C Nc s H fp) tg g) (hT: ∀C s H fp,PF (bP X scope C Nc s H fp) ifs tc) (hE: ∀C s H fp,PE (bP X scope C Nc s H fp) elt te)
  (hs: ∀x,foldedSetIterable iter X.env x=pure x:=by intro _;rfl) (hf:X.fn x=true\/X.env.scope.names.lookup x=some .local:=by first | exact .inl rfl | exact .inr rfl | assumption):
  PS X (.Assign [.Name x pos'] (.ListComp elt [⟨tg,iter,ifs,0⟩] scope pos) Cm) (EH (vd wi ix g tc te) (uY i)):=by
 intro pins s σ H E I h
 have LM: ∀y∈scope.names,y.2= .free-> ∃c,X.env.cells.lookup y.1=some c:=fun y hy e=>I.ok.has y.1 (tO y hy e)
 rw[exec_Assign_Name_used _ _ _ _ LN]
 refine wpAny_bind (wpAny_standAt (wpAny_bind ?_))
 show wpAny _ X.A (do let _ <-comprehension (.ListComp elt [⟨tg,iter,ifs,0⟩] scope pos) scope X.env _ (newList []) false (eval iter X.env) (some (assign (.Name x pos') X.env))) _ _ s
 refine wpAny_bind (wpAny_mono (wpAny_comprehension_free (use:=some (assign (.Name x pos') X.env)) (Q:=fun _ s'=>SP X pins E .next s') rfl hs (jU LM) iL xl
  (rq hi jV BL gU iL tO hG hT hE I h (RR:=fun acc C=>compPost (model X.prog X.w) X.A X.xe (some (assign (.Name x pos') X.env)) (fun _ s'=>SP X pins E .next s') acc C) ?_)) (fun _ s' hq=>wpAny_pure (wpAny_pure hq)) fun _ _ e=>e)
 intro D C oC m H' s' eC hn fC I' q
 show wpAny _ X.A (assign (.Name x pos') X.env (.ref D)) _ _ _
 refine wpAny_assign_Name (gT I' hN MX hx (show RelV (.ref D) _ from rfl) (fun MH I''=>?_) hf)
 have pC:=I''.pin (C,oC) (List.mem_append_right _ (List.mem_append_right _ (List.mem_singleton.mpr rfl)))
 refine ⟨m,?_,fun h' Sy=>?_⟩
 ·obtain ⟨o,es,ep,e,r⟩:=hn
  rw[eC]at e;cases e
  exact ⟨oC,es,ep,pC.1,r⟩
 ·refine ⟨_,H',I''.i8.turned (t':=MH.toks) (fun b o hb e=>(Sy.2 b hb).trans e) fC.1 fC.2.1 fC.2.2.2.1 fC.2.2.2.2.1 fC.2.2.2.2.2,q⟩
end L2
namespace L2
open PySem PySem.Spec PyProof.Rows
noncomputable def S (l:List Nat):Str:=⟨l.toArray⟩
theorem dR (l:List Nat):(S l).cps.toList=l:=by simp[S]
theorem bG (l:List Nat):(S l).length=l.length:=by simp[S,Str.length]
theorem ja (l:List Nat):(S l).cps.size=l.length:=by simp[S]
theorem GO {a b:List Nat} (h:S a=S b):a=b:=by
 have:=congrArg (fun x:Str=>x.cps.toList) h
 simpa [S]using this
theorem MY (x:Str):x=S x.cps.toList:=by cases x;simp[S]
theorem rz (a b:List Nat):S a++S b=S (a++b):=by
 apply Str.ext'
 apply Array.toList_inj.mp
 simp[S,Str.cps_append]
theorem GP {a b:List Nat}:decide (V.str (S a)=V.str (S b))=decide (a=b):=by
 by_cases h:a=b
 ·subst h;simp
 ·rw[decide_eq_false h,decide_eq_false]
  intro q
  exact h (GO (V.str.inj q))
noncomputable def cut {α:Type} (xs:List α) (lo hi:Option Int):List α:=(xs.drop (HT.jS xs.length 0 lo)).take (HT.jS xs.length xs.length hi - HT.jS xs.length 0 lo)
theorem ve (n d:Nat) (v:Int):max 0 (min (if v<0 then v+(n:Int) else v) (n:Int))=((HT.jS n d (some v):Nat):Int):=by
 show _=(((if v<0 then (v+(n:Int)).toNat else min v.toNat n):Nat):Int)
 by_cases hv:v<0
 ·simp only[if_pos hv];omega
 ·simp only[if_neg hv];omega
theorem mS (lo hi:Option Int) (n:Nat):Builtin.Str.strSliceIndices lo hi 1 n=(List.range (HT.jS n n hi - HT.jS n 0 lo)).map (HT.jS n 0 lo+ ·):=by
 have h1:(1:Int)>0:=by decide
 rw[<-sliceRange_one]
 unfold Builtin.Str.strSliceIndices
 simp only[h1,if_true]
 congr 1
 ·cases lo with
  | none=>rfl
  | some v=>exact ve n 0 v
 ·cases hi with
  | none=>rfl
  | some v=>exact ve n n v
theorem E2 (l:List Nat) (lo hi:Option Int):Txt.slice (S l) lo hi=S (cut l lo hi):=by
 have hx:((Builtin.Str.strSliceIndices lo hi 1 (S l).length).filterMap ((S l).cps[·]?))=cut l lo hi:=by
  rw[bG,mS,pick_run,dR]
  rfl
 have hlen:(Builtin.Str.strSliceIndices lo hi 1 (S l).length).length=HT.jS l.length l.length hi - HT.jS l.length 0 lo:=by
  rw[bG,mS,List.length_map,List.length_range]
 unfold Txt.slice
 by_cases hc:((1:Int)==1&&(Builtin.Str.strSliceIndices lo hi 1 (S l).length).length==(S l).length)=true
 ·rw[if_pos hc]
  rw[hlen,bG]at hc
  have e:HT.jS l.length l.length hi - HT.jS l.length 0 lo=l.length:=by simpa using hc
  have h2:=HT.Ja l.length l.length (Nat.le_refl _) hi
  have e0:HT.jS l.length 0 lo=0\/l.length=0:=by omega
  unfold cut
  rw[e]
  rcases e0 with z | z
  ·rw[z];simp
  ·have:l=[]:=List.eq_nil_of_length_eq_zero z
   subst this
   simp
 ·rw[if_neg hc]
  rw[hx]
  rfl
section
variable {X:Cx}
theorem dh {x:Str} {j pos} (l:List Nat) (h:x=S l):PE X (.Constant (.str x) j pos) (tC (.str (S l))):=by
 subst h
 exact IB
def MZ:R2:=fun x y H Q=> ∃a b,x= .str (S a)/\y= .str (S b)/\a.length+b.length<=sizeLine/\Q (.str (S (a++b))) H
theorem fK:gD X (binaryOp .Add) MZ:=by
 intro pins s σ H x y v u Q I rx ry h
 obtain ⟨a,b,rfl,rfl,hz,q⟩:=h
 exact xc pins s σ H _ _ v u Q I rx ry ⟨S a,S b,rfl,rfl,by rw[bG,bG];exact hz,by rw[rz];exact q⟩
def M0:R2:=fun x y H Q=> ∃l i c,x= .str (S l)/\y= .int i/\l.length<=sizeLine/\rl l i=some c/\Q (.str (S [c])) H
theorem ka:Jb X M0:=by
 intro value slice pins s σ H x y v u Q I rx ry h hs
 obtain ⟨l,i,c,rfl,rfl,hz,he,q⟩:=h
 exact Jd value slice pins s σ H _ _ v u Q I rx ry ⟨S l,i,c,rfl,rfl,by rw[bG];exact hz,by rw[dR];exact he,q⟩ hs
def Sz:V->Option Int->Option Int->Hp->VK->Prop:=fun x lo hi H Q=> ∃l,x= .str (S l)/\l.length<=sizeLine/\Q (.str (S (cut l lo hi))) H
theorem kN:P7 X Sz:=by
 intro pins s σ H x v vl vu lo hi sl Q I rx hs pl pu h
 obtain ⟨l,rfl,hz,q⟩:=h
 obtain ⟨t,rfl⟩:=rx
 refine ⟨"str",_,F.slot_str_getitem.lookup,typeIs_str _ _ _,?_⟩
 have key: ∀(a b:Option (Int×Tok)),vl=partValue a->vu=partValue b->a.map (·.1)=lo->b.map (·.1)=hi->wpAny (model X.prog X.w) X.A (getItem (.str (S l) t) (.ref sl)) (EP X pins σ Q) X.xe s:=by
  rintro a b rfl rfl rfl rfl
  obtain ⟨o,e,c,d⟩:=hs
  refine wpAny_getItem_str_slice (l:=a) (u:=b) (st:=none) ⟨o,e,c,d⟩ rfl (post_val_or_str ⟨?_,fun t' k=>?_⟩)
  ·exact Nat.le_trans (Txt.slice_le (S l) _ _) (by rw[bG];exact hz)
  ·exact ⟨.str (S (cut l _ _)),H,I.tok _,⟨t',congrArg (fun z=>Value.str z t') (E2 l _ _)⟩,q⟩
 cases pl with
 | none=>
  cases pu with
  | none=>exact key none none rfl rfl rfl rfl
  | int i ti=>exact key none (some (i,ti)) rfl rfl rfl rfl
 | int i ti=>
  cases pu with
  | none=>exact key (some (i,ti)) none rfl rfl rfl rfl
  | int j tj=>exact key (some (i,ti)) (some (j,tj)) rfl rfl rfl rfl
theorem a_:dH X (.builtin "len") (fun xs H Q=> ∃l,xs=[.str (S l)]/\l.length<=sizeLine/\Q (.int l.length) H):=by
 intro pins s σ H xs us Q I r h
 obtain ⟨l,rfl,hz,q⟩:=h
 exact tK pins s σ H _ us Q I r ⟨S l,rfl,by rw[bG];exact hz,by rw[bG];exact q⟩
noncomputable def cq (l:List Nat):List V:=l.map fun c=>V.str (S [c])
theorem xm {l:List Nat}: ∀{acc:List Value},acc.length=l.length->(∀j v,acc[j]? =some v->SignAt (S l) j v)->Vals (cq l) acc:=by
 induction l with
 | nil=>intro acc h _;have:acc=[]:=List.eq_nil_of_length_eq_zero h;subst this;exact .nil
 | cons c l ih=>
  intro acc h k
  cases acc with
  | nil=>cases h
  | cons a acc=>
   refine .cons ?_ (ih (by simpa using h) fun j v e=>?_)
   ·obtain ⟨c',u,e1,e2⟩:=k 0 a rfl
    have:c=c':=by simpa [S]using e1
    subst this
    exact ⟨u,e2⟩
   ·obtain ⟨c',u,e1,e2⟩:=k (j+1) v (by simpa using e)
    exact ⟨c',u,by simpa [S]using e1,e2⟩
theorem kc (hc:X.calm=true):dH X (.type "list") (fun xs H Q=> ∃l,xs=[.str (S l)]/\l.length<=sizeLine/\ ∀p,H p=none->Q (.ref p) (upd H p (.lst (cq l)))):=by
 intro pins s σ H xs us Q I r h
 obtain ⟨l,rfl,hz,q⟩:=h
 obtain ⟨u,rfl,t,rfl⟩:=vals1 r
 refine call_list_str (I.ok.hd hc) (S l) t (fun h' tk bI c' hk e oD=>?_) (by rw[ja];exact hz)
 obtain ⟨h1,h2⟩:=oD
 rw[ja]at h1
 refine ⟨.ref s.heap.objs.size,_,I.laid (t':=tk) (o:= .lst (cq l)) hk (Nat.le_refl _) ?_,rfl,q _ I.fresh⟩
 exact ⟨by unfold cq;rw[List.length_map];exact hz,bI.toList,c',xm (by simpa using h1) (fun j v e=>h2 j v (by simpa using e)),by simpa using e⟩
def SA:R2:=fun x y H Q=> ∃c l,x= .str (S [c])/\y= .str (S l)/\Q (.bl (decide (c∈l))) H
theorem Cn:gD X (compareOp .In) SA:=by
 intro pins s σ H x y v u Q I rx ry h
 obtain ⟨c,l,rfl,rfl,q⟩:=h
 refine z_ pins s σ H _ _ v u Q I rx ry ⟨S [c],S l,rfl,rfl,?_⟩
 have e:=StrLaws.found_one (S l) c
 rw[dR]at e
 rw[show (S [c])=(⟨#[c]⟩:Str) from rfl,e]
 exact q
def M3:R2:=fun x y H Q=> ∃c l,x= .str (S [c])/\y= .str (S l)/\Q (.bl (!decide (c∈l))) H
theorem E3:gD X (compareOp .NotIn) M3:=by
 intro pins s σ H x y v u Q I rx ry h
 obtain ⟨c,l,rfl,rfl,q⟩:=h
 refine tI pins s σ H _ _ v u Q I rx ry ⟨S [c],S l,rfl,rfl,?_⟩
 have e:=StrLaws.found_one (S l) c
 rw[dR]at e
 rw[show (S [c])=(⟨#[c]⟩:Str) from rfl,e]
 exact q
end
end L2
namespace L2
open PySem PySem.Spec PyProof.Rows
theorem rA (s sub:Str) (hi:Nat): ∀(l:List Nat) (st:Array Nat×Nat),1<=st.fst.size->(forIn l st (StrLaws.occBody s sub hi 1)).run.fst=st.fst
 | [],st,h=>rfl
 | a::l,st,h=>by
  rw[List.forIn_cons]
  unfold StrLaws.occBody
  rw[if_neg (fun z=>absurd z.1.1.1 (Nat.not_lt.mpr h))]
  exact rA s sub hi l _ h
theorem occ_first (s sub:Str) (hi:Nat): ∀(l:List Nat) (free:Nat),(∀i∈l,free<=i)->
  (forIn l ((#[]:Array Nat),free) (StrLaws.occBody s sub hi 1)).run.fst.toList=(l.find? fun i=>decide (i+sub.length<=hi)&&Builtin.Str.subAt s sub i).toList
 | [],free,_=>rfl
 | a::l,free,hf=>by
  rw[List.forIn_cons,List.find?_cons]
  unfold StrLaws.occBody
  have ha:free<=a:=hf a List.mem_cons_self
  by_cases hc:a+sub.length<=hi/\Builtin.Str.subAt s sub a=true
  ·rw[if_pos ⟨⟨⟨by simp,ha⟩,hc.1⟩,hc.2⟩]
   have:(decide (a+sub.length<=hi)&&Builtin.Str.subAt s sub a)=true:=by simp[hc]
   rw[this]
   show (forIn l (#[].push a,a+sub.length) (StrLaws.occBody s sub hi 1)).run.fst.toList=_
   rw[rA s sub hi l _ (by simp)]
   rfl
  ·rw[if_neg (fun z=>hc ⟨z.1.2,z.2⟩)]
   have:(decide (a+sub.length<=hi)&&Builtin.Str.subAt s sub a)=false:=by
    cases h1:decide (a+sub.length<=hi) with
    | false=>rfl
    | true=>
     cases h2:Builtin.Str.subAt s sub a with
     | false=>rfl
     | true=>exact absurd ⟨of_decide_eq_true h1,h2⟩ hc
   rw[this]
   exact occ_first s sub hi l free fun i Qa=>hf i (List.mem_cons_of_mem _ Qa)
theorem subAt_one (l:List Nat) (c i:Nat):Builtin.Str.subAt (S l) (S [c]) i=(l[i]? ==some c):=by
 unfold Builtin.Str.subAt
 rw[bG]
 show ((S l).cps.extract i (i+1)== #[c])=_
 have e:((S l).cps.extract i (i+1))=((l.drop i).take 1).toArray:=by
  apply Array.toList_inj.mp
  simp[S,List.take_drop]
 rw[e]
 by_cases h:i<l.length
 ·have e2:(l.drop i).take 1=[l[i]]:=by
   rw[List.drop_eq_getElem_cons h];rfl
  rw[e2,List.getElem?_eq_getElem h]
  by_cases hc:l[i]=c
  ·rw[hc];simp
  ·have h1:([l[i]].toArray== #[c])=false:=by
    rw[beq_eq_false_iff_ne]
    intro z
    apply hc
    have:=congrArg Array.toList z
    simpa using this
   have h2:(some l[i]==some c)=false:=by simpa using hc
   rw[h1,h2]
 ·have e2:(l.drop i).take 1=[]:=by rw[List.drop_eq_nil_of_le (by omega)];rfl
  rw[e2,List.getElem?_eq_none (by omega)]
  rfl
theorem oE (l:List Nat) (c:Nat): ∀(k n:Nat),k+n=l.length+1->((List.range' k n).find? fun i=>decide (i+1<=l.length)&&(l[i]? ==some c))=if c∈l.drop k then some (k+(l.drop k).idxOf c) else none
 | k,0,h=>by
  have:l.drop k=[]:=List.drop_eq_nil_of_le (by omega)
  rw[this];simp
 | k,n+1,h=>by
  rw[List.range'_succ,List.find?_cons]
  by_cases hk:k<l.length
  ·have e:l.drop k=l[k]::l.drop (k+1):=List.drop_eq_getElem_cons hk
   rw[List.getElem?_eq_getElem hk,e]
   by_cases hc:l[k]=c
   ·have:(decide (k+1<=l.length)&&(some l[k]==some c))=true:=by simp[hc];omega
    rw[this,if_pos (by simp[hc])]
    simp[hc]
   ·have:(decide (k+1<=l.length)&&(some l[k]==some c))=false:=by simp[hc]
    rw[this,oE l c (k+1) n (by omega)]
    have zW: ¬c=l[k]:=fun z=>hc z.symm
    by_cases hm:c∈l.drop (k+1)
    ·rw[if_pos hm,if_pos (List.mem_cons_of_mem _ hm),List.idxOf_cons]
     have:(l[k]==c)=false:=by simpa using hc
     rw[this]
     show some (k+1+List.idxOf c (List.drop (k+1) l))=some (k+(List.idxOf c (List.drop (k+1) l)+1))
     congr 1
     omega
    ·rw[if_neg hm,if_neg (by intro z;rcases List.mem_cons.mp z with z | z;exact zW z;exact hm z)]
  ·have:l.drop k=[]:=List.drop_eq_nil_of_le (by omega)
   have e1:(decide (k+1<=l.length)&&(l[k]? ==some c))=false:=by
    rw[decide_eq_false (by omega)];rfl
   have e2:l.drop (k+1)=[]:=List.drop_eq_nil_of_le (by omega)
   rw[e1,oE l c (k+1) n (by omega),this,e2]
   simp
theorem M4 (l:List Nat) (c:Nat):Builtin.Str.occurrences (S l) (S [c]) 0 (S l).length 1=if c∈l then [l.idxOf c] else []:=by
 rw[StrLaws.occ_eq,occ_first _ _ _ _ 0 fun _ _=>Nat.zero_le _]
 have e:(fun i=>decide (i+(S [c]).length<=(S l).length)&&Builtin.Str.subAt (S l) (S [c]) i)=fun i=>decide (i+1<=l.length)&&(l[i]? ==some c):=by
  funext i
  rw[subAt_one,bG,bG]
  rfl
 rw[e,bG,Nat.sub_zero,oE l c 0 (l.length+1) (by omega),List.drop_zero]
 by_cases h:c∈l
 ·rw[if_pos h,if_pos h,Nat.zero_add];rfl
 ·rw[if_neg h,if_neg h];rfl
section
variable {X:Cx}
def E4:V->List V->Hp->VK->Prop:=fun x vs H Q=> ∃l c,x= .str (S l)/\vs=[.str (S [c])]/\c∈l/\Q (.int (l.idxOf c:Nat)) H
theorem mh:wU X "str.index" E4:=by
 intro pins s σ H x xs v us Q I rx rv h
 obtain ⟨l,c,rfl,rfl,hc,q⟩:=h
 obtain ⟨t,rfl⟩:=rx
 obtain ⟨u,rfl,t',rfl⟩:=vals1 rv
 exact SC.index (i:=l.idxOf c) (rest:=[]) (by rw[M4,if_pos hc]) ⟨.int (l.idxOf c:Nat),H,I.tok _,⟨_,rfl⟩,q⟩
def GQ (f:Nat->Bool):V->List V->Hp->VK->Prop:=fun x vs H Q=> ∃c,x= .str (S [c])/\vs=[]/\c<128/\Q (.bl (f c)) H
def M5 (f:Nat->Nat):V->List V->Hp->VK->Prop:=fun x vs H Q=> ∃c,x= .str (S [c])/\vs=[]/\c<128/\Q (.str (S [f c])) H
noncomputable def cN (c:Nat):Bool:=decide (97<=c)&&decide (c<=122)
noncomputable def isUp (c:Nat):Bool:=decide (65<=c)&&decide (c<=90)
theorem E5: ∀c,c<128->Txt.islower ⟨#[c]⟩=cN c:=by decide+kernel
theorem Jt: ∀c,c<128->Txt.isupper ⟨#[c]⟩=isUp c:=by decide+kernel
theorem oF:wU X "str.islower" (GQ cN):=by
 intro pins s σ H x xs v us Q I rx rv h
 obtain ⟨c,rfl,rfl,hc,q⟩:=h
 obtain ⟨t,rfl⟩:=rx
 have e:us=[]:=by cases rv;rfl
 subst e
 exact SC.islower ⟨.bl (cN c),H,I,congrArg Value.bool (E5 c hc),q⟩
theorem xn:wU X "str.isupper" (GQ isUp):=by
 intro pins s σ H x xs v us Q I rx rv h
 obtain ⟨c,rfl,rfl,hc,q⟩:=h
 obtain ⟨t,rfl⟩:=rx
 have e:us=[]:=by cases rv;rfl
 subst e
 exact SC.isupper ⟨.bl (isUp c),H,I,congrArg Value.bool (Jt c hc),q⟩
theorem upper_one {c:Nat} (hc:c<128):Txt.upper (S [c])=S [up1 c]:=by
 rw[upper_ascii (by intro d hd;rw[dR]at hd;simp at hd;omega)]
 simp[S]
theorem rB {c:Nat} (hc:c<128):Txt.lower (S [c])=S [lo1 c]:=by
 rw[lower_ascii (by intro d hd;rw[dR]at hd;simp at hd;omega)]
 simp[S]
theorem GR (c:Nat):Builtin.Str.tooLong (S [c]).length=false:=by
 rw[bG]
 show Builtin.Str.tooLong 1=false
 decide
theorem Co:wU X "str.upper" (M5 up1):=by
 intro pins s σ H x xs v us Q I rx rv h
 obtain ⟨c,rfl,rfl,hc,q⟩:=h
 obtain ⟨t,rfl⟩:=rx
 have e:us=[]:=by cases rv;rfl
 subst e
 exact SC.upper (by rw[upper_one hc];exact GR _) ⟨.str (S [up1 c]),H,I.tok _,⟨_,congrArg (fun z=>Value.str z _) (upper_one hc)⟩,q⟩
theorem gZ:wU X "str.lower" (M5 lo1):=by
 intro pins s σ H x xs v us Q I rx rv h
 obtain ⟨c,rfl,rfl,hc,q⟩:=h
 obtain ⟨t,rfl⟩:=rx
 have e:us=[]:=by cases rv;rfl
 subst e
 exact SC.lower (by rw[rB hc];exact GR _) ⟨.str (S [lo1 c]),H,I.tok _,⟨_,congrArg (fun z=>Value.str z _) (rB hc)⟩,q⟩
theorem Cp: ∀(ls:List (List Nat)) (a:Array Nat),(ls.map S).foldl (fun acc p=>acc++(S []).cps++p.cps) a=a++ls.flatten.toArray
 | [],a=>by simp
 | l::ls,a=>by
  rw[List.map_cons,List.foldl_cons,Cp ls]
  simp[S]
theorem Cq (ls:List (List Nat)):Txt.join (S []) (ls.map S)=S ls.flatten:=by
 unfold Txt.join Builtin.Str.glued
 cases ls with
 | nil=>rfl
 | cons l ls=>
  show Str.mk ((List.map S ls).foldl (fun acc p=>acc++(S []).cps++p.cps) (S l).cps)=_
  rw[Cp]
  simp[S]
theorem iq: ∀{ls:List (List Nat)} {us:List Value},Vals (ls.map fun l=>V.str (S l)) us->StrsAre us (ls.map S)
 | [],us,r=>by cases r;exact .nil
 | l::ls,us,r=>by
  cases r with
  | cons r1 r2=>
   obtain ⟨t,rfl⟩:=r1
   exact .cons _ t (iq r2)
def Cr (K:PySem.W.Frag):V->List V->Hp->VK->Prop:=fun x vs H Q=> ∃(p:Addr) (ls:List (List Nat)),x= .str (S [])/\vs=[.ref p]/\aT K H p (ls.map fun l=>V.str (S l))/\(ls.map List.length).sum<=16777216/\Q (.str (S ls.flatten)) H
theorem Cs:wU X "str.join" (Cr X.K):=by
 intro pins s σ H x xs v us Q I rx rv h
 obtain ⟨p,ls,rfl,rfl,hq,hz,q⟩:=h
 obtain ⟨t,rfl⟩:=rx
 obtain ⟨u,rfl,ru⟩:=vals1 rv
 cases ru
 obtain ⟨aI,r,pl,_⟩:=I.list hq
 have e:(S []).length=0:=rfl
 refine join_list pl.isList (by simpa using iq r) ?_ fun t' k=>?_
 ·rw[e,Nat.mul_zero,Nat.add_zero,List.map_map]
  have e2:(Str.length ∘ S)=List.length:=by funext l;exact bG l
  have e3:((fun x:Str=>x.length) ∘ S)=List.length:=by funext l;exact bG l
  first | (rw[e2];exact hz) | (rw[e3];exact hz)
 ·exact ⟨.str (S ls.flatten),H,I.tok _,⟨t',congrArg (fun z=>Value.str z t') (Cq ls)⟩,q⟩
theorem Am (hc:X.calm=true):dH X (.builtin "all") (fun xs H Q=> ∃(p:Addr) (bs:List Bool),xs=[.ref p]/\aT X.K H p (bs.map V.bl)/\Q (.bl (bs.all id)) H):=by
 intro pins s σ H xs us Q I r h
 obtain ⟨p,bs,rfl,hq,q⟩:=h
 obtain ⟨u,rfl,ru⟩:=vals1 r
 cases ru
 obtain ⟨aI,rv,pl,hz⟩:=I.list hq
 have hlen:aI.length=bs.length:=by rw[<-rv.length,List.length_map]
 have hp:p<s.heap.objs.size:=by
  obtain ⟨o,n,e,_⟩:=pl
  exact Heap.lt_size e
 refine call_all_walk (wpAny_pyIter_list pl.isList ?_)
 refine ⟨s.heap.objs.size,_,_,_,_,_,fun i=>(bs[i]?).getD true,rfl,Walks.list (A:=X.A.in1) (I.ok.hd hc) s.heap.objs.size p (Nat.ne_of_lt hp) aI.toArray,⟨⟨_,Heap.get?_push_size _ rfl,rfl,rfl⟩,?_⟩,fun i v s' Q' E' hP hQ=>?_,fun h' tk hk=>?_⟩
 ·obtain ⟨o,ho,hr⟩:=pl.isList
  exact ⟨o,Heap.get?_push_of_some _ ho,hr⟩
 ·have hP':aI[i]? =some v:=by simpa using hP
  have hi:i<bs.length:=by rw[<-hlen];exact (List.getElem?_eq_some_iff.mp hP').1
  have hb:(bs.map V.bl)[i]? =some (V.bl bs[i]):=by rw[List.getElem?_map,List.getElem?_eq_getElem hi];rfl
  obtain ⟨u,hu,ru⟩:=rv.get hb
  rw[hP']at hu;cases hu
  cases (show v=Value.bool bs[i] from ru)
  have e:(bs[i]?).getD true=bs[i]:=by rw[List.getElem?_eq_getElem hi];rfl
  have hQ':Q' ((bs[i]?).getD true) s':=hQ
  rw[e]at hQ'
  exact wpAny_pure hQ'
 ·have e:((List.range aI.toArray.size).all fun i=>(bs[i]?).getD true)=bs.all id:=by
   rw[List.size_toArray,hlen]
   clear hq rv hlen q
   rw[Bool.eq_iff_iff,List.all_eq_true,List.all_eq_true]
   constructor
   ·intro h b hb
    obtain ⟨i,hi,e⟩:=List.getElem_of_mem hb
    have:=h i (List.mem_range.mpr hi)
    rw[List.getElem?_eq_getElem hi,e]at this
    exact this
   ·intro h i hi
    have Qa:=List.mem_range.mp hi
    rw[List.getElem?_eq_getElem Qa]
    exact h _ (List.getElem_mem Qa)
  have I1:Inv X pins σ H { s with heap:=h',toks:=tk }:=by
   have I0:Inv X pins σ H { s with heap:=s.heap.push { cls:= .type "list_iterator",data:= .fields #[.ref p, .int 0 0] } }:=I.kept (t':=s.toks) fun b o e=>Heap.get?_push_of_some _ e
   have f:=I.kD (H':=H) (b:=s.heap.objs.size) (Nat.le_refl _) I.fresh
   have J:=I0.turned (h':=h') (t':=tk) (it:=s.heap.objs.size) (fun b o hb e=>hk b o (by simpa using hb) e) f.1 f.2.1 f.2.2.2.1 f.2.2.2.2.1 f.2.2.2.2.2
   exact J
  exact ⟨.bl (bs.all id),H,I1,by rw[e];rfl,q⟩
end
end L2
namespace L2.F2
open PySem PySem.Spec PyProof.Rows
theorem rC:Manifest.owners.lookup (String.ofList ['d','e','s','r','e','v','e','r'].reverse)=some Manifest.sig_reversed:=by kernel_rfl
theorem dI:Slot "reversed" "__next__" "reversed.__next__":=
 .of (owner:="reversed") (n:="__next__") (by rw[typeLookup_type,builtinLookup_eq_fast];kernel_rfl) (by decide+kernel) (by decide+kernel) (by decide+kernel)
  (by first | exact .inl (by decide+kernel) | exact .inr (by decide+kernel)) (by rw[isSubtype_type];kernel_rfl)
theorem jb:entryFor table "reversed.__next__"=some Builtin.«reversed.__next__» :=entryFor_of_tree (by kernel_rfl)
theorem iM (a:Value):argsOk "reversed.__next__" ⟨[a],[]⟩:=by
 unfold argsOk;rw[signature?_of (id:="reversed.__next__") (n:=['_','_','t','x','e','n','_','_']) (o:=['d','e','s','r','e','v','e','r']) (by kernel_rfl) rC];kernel_rfl
theorem jW:Slot "reversed" "__iter__" "reversed.__iter__":=
 .of (owner:="reversed") (n:="__iter__") (by rw[typeLookup_type,builtinLookup_eq_fast];kernel_rfl) (by decide+kernel) (by decide+kernel) (by decide+kernel)
  (by first | exact .inl (by decide+kernel) | exact .inr (by decide+kernel)) (by rw[isSubtype_type];kernel_rfl)
theorem nu (a:Value):argsOk "reversed.__iter__" ⟨[a],[]⟩:=by
 unfold argsOk;rw[signature?_of (id:="reversed.__iter__") (n:=['_','_','r','e','t','i','_','_']) (o:=['d','e','s','r','e','v','e','r']) (by kernel_rfl) rC];kernel_rfl
theorem oG:entryFor table "reversed.__iter__"=some Builtin.«dict_keyiterator.__iter__» :=
 entryFor_alias (id':="dict_keyiterator.__iter__") (by kernel_rfl) (by first | rfl | decide+kernel | (unfold String.splitOn;simp+decide [String.splitOnAux])) (by decide+kernel) (by kernel_rfl)
theorem qC:Slot "reversed" "__init__" "object.__init__":=
 .of (owner:="object") (n:="__init__") (by rw[typeLookup_type,builtinLookup_eq_fast];kernel_rfl) (by decide+kernel) (by decide+kernel) (by decide+kernel)
  (by first | exact .inl (by decide+kernel) | exact .inr (by decide+kernel)) (by rw[isSubtype_type];kernel_rfl)
theorem xo:TypeCalled "reversed" "reversed.__new__" "object.__init__":=
 ⟨by decide+kernel,by decide+kernel,⟨_,_,F.mro_reversed⟩,F.made_reversed,by decide+kernel,by rw[isSubtype_type];kernel_rfl,qC⟩
theorem xp:typeLookup (.type "str") "__reversed__"=pure none:=by rw[typeLookup_type,builtinLookup_eq_fast];kernel_rfl
end L2.F2
namespace L2
open PySem PySem.Spec PyProof.Rows
theorem oH (x:Str) (t:Tok) (hz:x.length<=sizeLine):Meets (Builtin.«reversed.__new__» ⟨[.type "reversed", .str x t],[]⟩) (fun _ R s=> ∀tk,R (.ok (.ret (.ref s.heap.objs.size))) { s with heap:=s.heap.push { cls:= .type "reversed",data:= .fields #[.str x t,rawInt ((x.length:Int) - 1)] },toks:=tk }):=by
 refine Meets.of_wp fun prog w A R s h=>?_
 unfold Builtin.«reversed.__new__»
 refine wpAny_bind (wpAny_of_eq (newClass_reversed _) ?_)
 try dsimp only
 refine wpAny_bind (wpAny_of_eq (a:=()) (by first | rfl | kernel_rfl) ?_)
 refine wpAny_bind (wpAny_of_eq (a:=()) (by first | rfl | kernel_rfl) ?_)
 try dsimp only
 refine wpAny_bind (wpAny_specialOf (typeIs_str s x t) F2.xp ?_)
 try dsimp only
 refine wpAny_bind (wpAny_of_eq (a:=true) (by first | rfl | kernel_rfl) ?_)
 rw[if_neg (by decide)]
 have hn:=gb
 refine wpAny_bind (len_str (by omega) ?_)
 refine wpAny_bind (wpAny_of_eq (a:=some (x.length:Int)) (by first | rfl | kernel_rfl) ?_)
 show wpAny _ _ (Builtin.SmallTypes.newRecord (Value.type "reversed") [Value.str x t,rawInt ((x.length:Int) - 1)] >>= _) _ _ _
 refine wpAny_bind ?_
 unfold Builtin.SmallTypes.newRecord
 refine wpAny_newObj_type ?_ (by size_fits)
 exact wpAny_pure ⟨_,rfl,h _⟩
section
variable {prog:Program} {w:World} {A:Around} {E:Value->Shared->Prop} {s:Shared}
theorem oI {x:Str} {t:Tok} {Q:Value->Shared->Prop} (hz:x.length<=sizeLine) (h: ∀tk,Q (.ref s.heap.objs.size) { s with heap:=s.heap.push { cls:= .type "reversed",data:= .fields #[.str x t,rawInt ((x.length:Int) - 1)] },toks:=tk }):
  wpAny (model prog w) A (call (.type "reversed") [.str x t]) Q E s:=
 callType_new F2.xo (by decide+kernel) (F.typeCall_reversed_1 _) (F.newCall_reversed_1 _) (fun obj=>by unfold argsOk;kernel_rfl) F.entry_reversed_new (oH x t hz)
  fun tk=>⟨⟨_,Heap.get?_push_size _ rfl,rfl⟩,h tk⟩
def jc (h:Heap) (it:Addr) (x:Str) (t:Tok) (i:Int):Prop:= ∃o,h.get? it=some o/\o.cls= .type "reversed"/\o.data= .fields #[.str x t,rawInt i]
theorem jc.typeIs {it:Addr} {x:Str} {t:Tok} {i:Int} (h:jc s.heap it x t i):s.TypeIs (.ref it) "reversed":=let ⟨o,ho,hc,_⟩:=h;⟨o,ho,hc⟩
theorem oJ {it:Addr} {x:Str} {t:Tok} {i:Int} {Q:Value->Shared->Prop} (hit:jc s.heap it x t i) (h:Q (.ref it) s):wpAny (model prog w) A (pyIter (.ref it)) Q E s:=by
 refine wpAny_pyIter_slot hit.typeIs F2.jW (wpAny_call_entry F2.jW hit.typeIs F2.oG ?_ (F2.nu _))
 show wpAny _ _ (ret (.ref it)) _ _ s
 exact wpAny_pure ⟨_,rfl,"reversed",_,hit.typeIs,F2.dI.lookup,h⟩
theorem ny {it:Addr} {x:Str} {t:Tok} {i c:Nat} {Q:Option Value->Shared->Prop} (hit:jc s.heap it x t (i:Int)) (hx:x.cps[i]? =some c) (hz:x.length<=sizeLine)
  (hQ: ∀h' tk u,jc h' it x t ((i:Int) - 1)->Heap.SameBut it s.heap h'->Q (some (.str ⟨#[c]⟩ u)) { s with heap:=h',toks:=tk }):wpAny (model prog w) A (pyNext (.ref it)) Q E s:=by
 obtain ⟨o,ho,hc,hd⟩:=id hit
 have hn:=gb
 have hi:i<x.length:=(Array.getElem?_eq_some_iff.mp hx).1
 unfold pyNext
 refine wpAny_bind (wpAny_attempt (wpAny_callSpecial?_slot (name:=Str.ofString "__next__") hit.typeIs F2.dI
  (wpAny_call_entry F2.dI hit.typeIs F2.jb ?_ (F2.iM _))))
 unfold Builtin.«reversed.__next__»
 refine wpAny_bind (wpAny_of_eq (a:=(Value.ref it,[])) rfl ?_)
 try dsimp only
 refine wpAny_bind (wpAny_field ho hd (x:= .str x t) rfl ?_)
 refine wpAny_bind (wpAny_field ho hd (x:=rawInt (i:Int)) rfl ?_)
 show wpAny _ _ (if (i:Int)<0 then _ else _) _ _ s
 rw[if_neg (by omega)]
 refine wpAny_bind (wpAny_specialOf (typeIs_str s x t) F.slot_str_getitem.lookup ?_)
 show wpAny _ _ (if (some (Value.builtin _)).isNone=true then _ else _) _ _ s
 rw[if_neg (by decide)]
 refine wpAny_bind (wpAny_mkInt ?_)
 refine wpAny_bind (wpAny_attempt (getItem_str (c:=c) (by
  have e1:decide ((i:Int)< -(2 ^ 63:Int))=false:=decide_eq_false (by omega)
  have e2:decide ((i:Int) ≥ 2 ^ 63)=false:=decide_eq_false (by omega)
  rw[e1,e2,Bool.or_false]) (by rw[seqIndex_of (by omega) (by omega),Int.toNat_natCast];exact hx) ?_))
 show wpAny _ _ (field (Value.ref it) 1 >>= _) _ _ _
 refine wpAny_bind (wpAny_field ho hd (x:=rawInt (i:Int)) rfl ?_)
 show wpAny _ _ (setField (Value.ref it) 1 (rawInt ((i:Int) - 1)) >>= _) _ _ _
 refine wpAny_bind (wpAny_setField ho hd (by simp) ?_)
 refine wpAny_pure ⟨_,rfl,wpAny_pure (hQ _ _ _ ?_ (Heap.SameBut.update ..))⟩
 exact ⟨_,Heap.get?_update_self _ ho (Obj.isFreed_of_fields (Obj.data_mapFields hd _)),(Obj.cls_mapFields ..).trans hc,by
  rw[Obj.data_mapFields hd];simp⟩
theorem oK {it:Addr} {x:Str} {t:Tok} {Q:Option Value->Shared->Prop} (hh:A.handled=none) (hit:jc s.heap it x t (-1))
  (hQ: ∀h',Heap.ExtBut it s.heap h'->Q none { s with heap:=h' }):wpAny (model prog w) A (pyNext (.ref it)) Q E s:=by
 obtain ⟨o,ho,hc,hd⟩:=id hit
 unfold pyNext
 refine wpAny_bind (wpAny_attempt (wpAny_callSpecial?_slot (name:=Str.ofString "__next__") hit.typeIs F2.dI
  (wpAny_call_entry F2.dI hit.typeIs F2.jb ?_ (F2.iM _))))
 unfold Builtin.«reversed.__next__»
 refine wpAny_bind (wpAny_of_eq (a:=(Value.ref it,[])) rfl ?_)
 try dsimp only
 refine wpAny_bind (wpAny_field ho hd (x:= .str x t) rfl ?_)
 refine wpAny_bind (wpAny_field ho hd (x:=rawInt (-1)) rfl ?_)
 show wpAny _ _ (if (-1:Int)<0 then _ else _) _ _ s
 rw[if_pos (by decide)]
 refine wpAny_bind (wpAny_rule ?_)
 refine wpAny_bind ?_
 show wpAny _ _ (setField (Value.ref it) 1 (rawInt (-1)) >>= fun _=>setField (Value.ref it) 0 .none) _ _ _
 refine wpAny_bind (wpAny_setField ho hd (by simp) ?_)
 refine wpAny_setField (Heap.get?_update_self _ ho (Obj.isFreed_of_fields (Obj.data_mapFields hd _))) (Obj.data_mapFields hd _) (by simp) ?_
 first
 | show wpAny _ _ (newExc (.type "StopIteration") [] >>= _) _ _ _
 |(refine wpAny_bind ?_;show wpAny _ _ (newExc (.type "StopIteration") [] >>= _) _ _ _)
 refine wpAny_bind ?_
 simp only[newExc,newTuple]
 refine wpAny_bind (wpAny_newObj_type ?_ (by size_fits))
 refine wpAny_bind (m:=firstArgMember _ _) (wpAny_of_eq (a:=Value.none) (by first | rfl | (simp only[firstArgMember];rfl)) ?_)
 refine wpAny_newObj_type ?_ (by size_fits)
 simp only[raiseNew]
 refine wpAny_bind (wpAny_handled ?_)
 first | rw[show A.in1.handled=none from hh] | rw[hh]
 refine wpAny_bind (wpAny_pure (wpAny_throw ?_))
 refine wpAny_bind (wpAny_isInstance (T:="StopIteration") (b:=true) ⟨_,Heap.get?_push_size _ rfl,rfl⟩ isSubtype_stop ?_)
 refine wpAny_pure (hQ _ fun b ob hb e=>?_)
 refine Heap.get?_push_of_some _ (Heap.get?_push_of_some _ ?_)
 exact (Heap.get?_update_other _ _ (Ne.symm hb)).trans ((Heap.get?_update_other _ _ (Ne.symm hb)).trans e)
end
noncomputable def E6 (xs:List V):It:=⟨fun i _=>i<xs.length,fun i H x H'=>H'=H/\xs[i]? =some x,fun i _=>xs.length<=i⟩
theorem di {l:List Nat} {i:Nat} {x:V} (h:(cq l)[i]? =some x): ∃c,l[i]? =some c/\x= .str (S [c]):=by
 unfold cq at h
 rw[List.getElem?_map]at h
 cases e:l[i]? with
 | none=>rw[e]at h;cases h
 | some c=>rw[e]at h;cases h;exact ⟨c,rfl,rfl⟩
theorem aU (l:List Nat):(cq l).length=l.length:=by unfold cq;rw[List.length_map]
theorem Ct {P:Program} {w:World} {K:PySem.W.Frag} {tg:Expr} (it:Addr) (l:List Nat) (t:Tok):Turn P w K tg (E6 (cq l)) [it] it (fun i h=>h.IsStrIter it (strIterType (S l)) (S l) t i) where
 mem:=by simp
 obj:=fun i h st b hb=>by
  have e:b=it:=by simpa using hb
  subst e
  obtain ⟨o,e,c,d⟩:=st
  exact ⟨o,e,fun v z=>by rw[d]at z;cases z⟩
 keep:=fun i h h' st k=>let ⟨o,e,r⟩:=st;⟨o,k it (by simp) o e,r⟩
 item:=by
  intro X hP hw hK hc i pins s σ H E I hf st hg
  subst hP hw hK
  have GS:i<l.length:=by have:i<(cq l).length:=hg;rwa [aU]at this
  obtain ⟨f0,f1,f2,f3,f4,f5⟩:=hf it (by simp)
  have fin: ∀(v:Value) (h':Heap) (tk:Nat),SignAt (S l) i v->h'.IsStrIter it (strIterType (S l)) (S l) t (i+1)->(∀b o,b∉[it]->s.heap.get? b=some o->h'.get? b=some o)->
    ∃u,some v=some u/\wpAny (model X.prog X.w) X.A (letOwnedTupleGo tg (.ref it) u) (fun _ s2=> ∃x H',Inv X pins σ H' s2/\RelV x u/\(E6 (cq l)).yD i H x H'/\s2.heap.IsStrIter it (strIterType (S l)) (S l) t (i+1)/\ ∀b∈[it],H' b=none) E { s with heap:=h',toks:=tk }:=by
   intro v h' tk hv jO kk
   obtain ⟨c,u,e1,e2⟩:=hv
   subst e2
   have I1:Inv X pins σ H { s with heap:=h',toks:=tk }:=I.turned (fun b o hb e=>kk b o (by simpa using hb) e) f0 f1 f3 f4 f5
   obtain ⟨o,e,cc,d⟩:=id jO
   refine ⟨_,rfl,oa (s:={ s with heap:=h',toks:=tk }) e cc d (by unfold strIterType;split<;>decide) ⟨.str (S [c]),H,I1,⟨u,rfl⟩,⟨rfl,?_⟩,jO,fun b hb=>(hf b hb).1⟩⟩
   unfold cq
   rw[List.getElem?_map]
   have SD:l[i]? =some c:=by simpa [S]using e1
   rw[SD]
   rfl
  have hsz:i<(S l).cps.size:=by rw[ja];exact GS
  by_cases ha:(S l).cps.all (· <128)=true
  ·have et:strIterType (S l)="str_ascii_iterator":=by unfold strIterType;rw[if_pos ha]
   rw[et]at st
   exact (Walks.strAscii (prog:=X.prog) (w:=X.w) (I.ok.hd hc) it (S l) t).item i s _ _ hsz st fun v h' tk hv jO kk=>fin v h' tk hv (by rw[et];exact jO) kk
  ·have et:strIterType (S l)="str_iterator":=by unfold strIterType;rw[if_neg ha]
   rw[et]at st
   exact (Walks.strWide (prog:=X.prog) (w:=X.w) (I.ok.hd hc) it (S l) t).item i s _ _ hsz st fun v h' tk hv jO kk=>fin v h' tk hv (by rw[et];exact jO) kk
 done:=by
  intro X hP hw hK hc i pins s σ H E I hf st hg
  subst hP hw hK
  obtain ⟨f0,f1,f2,f3,f4,f5⟩:=hf it (by simp)
  have GS:l.length<=i:=by have:(cq l).length<=i:=hg;rwa [aU]at this
  have hx:(S l).cps[i]? =none:=by rw[Array.getElem?_eq_none_iff,ja];exact GS
  by_cases ha:(S l).cps.all (· <128)=true
  ·have et:strIterType (S l)="str_ascii_iterator":=by unfold strIterType;rw[if_pos ha]
   rw[et]at st
   exact wpAny_pyNext_ascii_end (I.ok.hd hc) st hx fun h' eb=>⟨rfl,I.turned (t':=s.toks) (fun b o hb e=>eb b o hb e) f0 f1 f3 f4 f5⟩
  ·have et:strIterType (S l)="str_iterator":=by unfold strIterType;rw[if_neg ha]
   rw[et]at st
   exact wpAny_pyNext_wide_end (I.ok.hd hc) st hx fun h' eb=>⟨rfl,I.turned (t':=s.toks) (fun b o hb e=>eb b o hb e) f0 f1 f3 f4 f5⟩
 self:=fun _ _ s _ _ st h=>by
  by_cases ha:(S l).cps.all (· <128)=true
  ·have et:strIterType (S l)="str_ascii_iterator":=by unfold strIterType;rw[if_pos ha]
   rw[et]at st
   exact wpAny_pyIter_striter_ascii st h
  ·have et:strIterType (S l)="str_iterator":=by unfold strIterType;rw[if_neg ha]
   rw[et]at st
   exact wpAny_pyIter_striter_wide st h
theorem Cu {P:Program} {w:World} {K:PySem.W.Frag} {tg:Expr} (it:Addr) (l:List Nat) (t:Tok) (hz:l.length<=sizeLine):Turn P w K tg (E6 (cq l).reverse) [it] it (fun i h=>i<=l.length/\jc h it (S l) t ((l.length:Int) - 1 - (i:Int))) where
 mem:=by simp
 obj:=fun i h st b hb=>by
  have e:b=it:=by simpa using hb
  subst e
  obtain ⟨_,o,e,c,d⟩:=st
  exact ⟨o,e,fun v z=>by rw[d]at z;cases z⟩
 keep:=fun i h h' st k=>let ⟨q,o,e,r⟩:=st;⟨q,o,k it (by simp) o e,r⟩
 item:=by
  intro X hP hw hK hc i pins s σ H E I hf st hg
  subst hP hw hK
  have GS:i<l.length:=by have:i<(cq l).reverse.length:=hg;rwa [List.length_reverse,aU]at this
  obtain ⟨f0,f1,f2,f3,f4,f5⟩:=hf it (by simp)
  obtain ⟨_,st⟩:=st
  have e:(l.length:Int) - 1 - (i:Int)=((l.length - 1 - i:Nat):Int):=by omega
  rw[e]at st
  have cy:l.length - 1 - i<l.length:=by omega
  refine ny (c:=l[l.length - 1 - i]) st (by simp[S,cy]) (by rw[bG];exact hz) fun h' tk u jO sb=>?_
  have I1:Inv X pins σ H { s with heap:=h',toks:=tk }:=I.turned (fun b o hb e=>(sb.2 b hb).trans e) f0 f1 f3 f4 f5
  obtain ⟨o,e1,cc,d⟩:=id jO
  refine ⟨_,rfl,oa (s:={ s with heap:=h',toks:=tk }) e1 cc d (by decide) ⟨.str (S [l[l.length - 1 - i]]),H,I1,⟨u,rfl⟩,⟨rfl,?_⟩,⟨GS,?_⟩,fun b hb=>(hf b hb).1⟩⟩
  ·rw[List.getElem?_reverse (by rw[aU];exact GS),aU]
   unfold cq
   rw[List.getElem?_map,List.getElem?_eq_getElem cy]
   rfl
  ·have e2:(l.length:Int) - 1 - ((i+1:Nat):Int)=((l.length - 1 - i:Nat):Int) - 1:=by omega
   rw[e2]
   exact jO
 done:=by
  intro X hP hw hK hc i pins s σ H E I hf st hg
  subst hP hw hK
  obtain ⟨f0,f1,f2,f3,f4,f5⟩:=hf it (by simp)
  have GS:l.length<=i:=by have:(cq l).reverse.length<=i:=hg;rwa [List.length_reverse,aU]at this
  obtain ⟨hi,st⟩:=st
  have e:(l.length:Int) - 1 - (i:Int)= -1:=by omega
  rw[e]at st
  exact oK (I.ok.hd hc) st fun h' eb=>⟨rfl,I.turned (t':=s.toks) (fun b o hb e=>eb b o hb e) f0 f1 f3 f4 f5⟩
 self:=fun _ _ _ _ _ st h=>oJ st.2 h
section
variable {X:Cx} {tg:Expr}
def SE (tl:TE):TI:=fun σ H R=>tl σ H fun x H1=> ∃l,x= .str (S l)/\R (E6 (cq l)) H1
theorem mi {l:Expr} {tl:TE} (hl:PE X l tl):PI X tg l (SE tl):=by
 intro pins s σ H R I h
 refine bZ (hl pins s σ H _ I h) fun v s1 ⟨x,H1,I1,r1,q1⟩=>?_
 obtain ⟨l,rfl,q⟩:=q1
 obtain ⟨t,rfl⟩:=r1
 refine wpAny_pyIter_strU ?_
 refine ⟨s1.heap.objs.size,[s1.heap.objs.size],_,_,H1,rfl,I1.kept (t':=s1.toks) fun b o e=>Heap.get?_push_of_some _ e,Ct _ l t,⟨_,Heap.get?_push_size _ rfl,rfl,rfl⟩,fun b hb=>?_,q⟩
 have e:b=s1.heap.objs.size:=by simpa using hb
 subst e
 exact I1.kD (Nat.le_refl _) (I1.bu.fresh (Nat.le_refl _))
def SF (ta:TA):TI:=fun σ H R=>ta σ H fun vs H1=> ∃l,vs=[.str (S l)]/\l.length<=sizeLine/\R (E6 (cq l).reverse) H1
theorem Ju {a:Expr} {ta:TA} {p pos:Pos} (hg:Gl X "reversed") (hm:X.mg "reversed"=none) (ha:PA X [a] ta) (hs:starEach [a] X.env=[(false,eval a X.env)]:=by rfl):PI X tg (.Call (.Name "reversed" p) [a] [] pos) (SF ta):=by
 intro pins s σ H R I h
 refine Call_ (dE I hg hm boot_reversed (PyProof.Rows.callWith_type1 (bZ (ha pos pins s σ H _ I h) fun us s1 ⟨vs,H1,I1,r1,q1⟩=>?_) hs rfl))
 obtain ⟨l,rfl,hz,q⟩:=q1
 obtain ⟨u,rfl,t,rfl⟩:=vals1 r1
 refine oI (by rw[bG];exact hz) fun tk=>?_
 have hit:jc (s1.heap.push { cls:= .type "reversed",data:= .fields #[.str (S l) t,rawInt (((S l).length:Int) - 1)] }) s1.heap.objs.size (S l) t (((S l).length:Int) - 1):=⟨_,Heap.get?_push_size _ rfl,rfl,rfl⟩
 refine oJ hit ?_
 refine ⟨s1.heap.objs.size,[s1.heap.objs.size],_,_,H1,rfl,I1.kept (t':=tk) fun b o e=>Heap.get?_push_of_some _ e,Cu _ l t hz,⟨Nat.zero_le _,?_⟩,fun b hb=>?_,q⟩
 ·have e:(l.length:Int) - 1 - ((0:Nat):Int)=((S l).length:Int) - 1:=by rw[bG];simp
  rw[e]
  exact hit
 ·have e:b=s1.heap.objs.size:=by simpa using hb
  subst e
  exact I1.kD (Nat.le_refl _) (I1.bu.fresh (Nat.le_refl _))
end
theorem nN {xs:List V} {g:TG} {tb:TS} {D:Ends} {σ:St} {H:Hp} (Pv:Nat->St->Hp->Prop) (h0:Pv 0 σ H)
  (hs: ∀i x σ H,xs[i]? =some x->Pv i σ H->g x σ H fun σ2 H2=>tb { D with nx:=Pv (i+1),ct:=Pv (i+1),bk:=D.nx } σ2 H2) (hd: ∀σ H,Pv xs.length σ H->D.nx σ H):
  ∃W:Nat->Nat->St->Hp->Prop,(∃m,W 0 m σ H)/\ ∀i m σ H,W i m σ H->
   ((E6 xs).stop i H/\D.nx σ H)\/((E6 xs).go i H/\ ∃N:St->Hp->Prop,(∀σ' H',N σ' H'-> ∃m',m'<m/\W (i+1) m' σ' H')/\ ∀x H',(E6 xs).yD i H x H'->g x σ H' fun σ2 H2=>tb { D with nx:=N,ct:=N,bk:=D.nx } σ2 H2):=by
 refine ⟨fun i m σ H=>m=xs.length - i/\i<=xs.length/\Pv i σ H,⟨xs.length,by simp,Nat.zero_le _,h0⟩,?_⟩
 rintro i m σ H ⟨rfl,hi,p⟩
 by_cases cy:i<xs.length
 ·refine .inr ⟨cy,Pv (i+1),fun σ' H' p'=>⟨xs.length - (i+1),by omega,rfl,cy,p'⟩,fun x H' y=>?_⟩
  obtain ⟨e,y⟩:=y
  subst e
  exact hs i x σ _ y p
 ·have e:i=xs.length:=by omega
  subst e
  exact .inl ⟨Nat.le_refl _,hd σ H p⟩
theorem nO {J:It} {n:Nat} {xs:Nat->V->Prop} {σc:St} {g:TG} {tc:TT} {te:TE} {Q:VK} {H1:Hp} (Pv:Nat->List V->Hp->Prop) (hn:n<sizeLine) (hgo: ∀i acc H,i<n->Pv i acc H->J.go i H) (M6: ∀acc H,Pv n acc H->J.stop n H)
  (hy: ∀i acc H x H',i<n->Pv i acc H->J.yD i H x H'->H'=H/\xs i x) (h0:Pv 0 [] H1)
  (hs: ∀(i:Nat) (x:V) (acc:List V) (H:Hp) (Nx:List V->Hp->Prop),i<n->xs i x->acc.length<=i->Pv i acc H->(∀bI H',bI.length<=i+1->Pv (i+1) bI H'->Nx bI H')->
   g x σc H fun σ2 H2=>Wk σc σ2/\tc σ2 H2 fun b H3=>if b=true then te σ2 H3 fun v H4=>Nx (acc++[v]) H4 else Nx acc H3)
  (hd: ∀acc H D,acc.length<=n->Pv n acc H->H D=none->Q (.ref D) (upd H D (.lst acc))):kM J σc g tc te Q H1:=by
 refine ⟨fun i m acc H=>m=n - i/\i<=n/\acc.length<=i/\Pv i acc H,⟨n,by simp,Nat.zero_le _,Nat.le_refl _,h0⟩,?_⟩
 rintro i m acc H ⟨rfl,hi,hl,p⟩
 refine ⟨by omega,?_⟩
 by_cases cy:i<n
 ·refine .inr ⟨hgo i acc H cy p,fun x H' y=>?_⟩
  obtain ⟨rfl,y2⟩:=hy i acc H x H' cy p y
  exact hs i x acc _ (fun bI H'=> ∃m',m'<n - i/\(m'=n - (i+1)/\i+1<=n/\bI.length<=i+1/\Pv (i+1) bI H')) cy y2 hl p fun bI H' h1 h2=>⟨n - (i+1),by omega,rfl,cy,h1,h2⟩
 ·have e:i=n:=by omega
  subst e
  exact .inl ⟨M6 acc H p,fun D hD=>hd acc H D hl p hD⟩
theorem oM {xs:List V} {σc:St} {g:TG} {tc:TT} {te:TE} {Q:VK} {H1:Hp} (Pv:Nat->List V->Hp->Prop) (hn:xs.length<sizeLine) (h0:Pv 0 [] H1)
  (hs: ∀(i:Nat) (x:V) (acc:List V) (H:Hp) (Nx:List V->Hp->Prop),i<xs.length->xs[i]? =some x->acc.length<=i->Pv i acc H->(∀bI H',bI.length<=i+1->Pv (i+1) bI H'->Nx bI H')->
   g x σc H fun σ2 H2=>Wk σc σ2/\tc σ2 H2 fun b H3=>if b=true then te σ2 H3 fun v H4=>Nx (acc++[v]) H4 else Nx acc H3)
  (hd: ∀acc H D,acc.length<=xs.length->Pv xs.length acc H->H D=none->Q (.ref D) (upd H D (.lst acc))):kM (E6 xs) σc g tc te Q H1:=
 nO (xs:=fun i x=>xs[i]? =some x) Pv hn (fun i _ _ h _=>h) (fun _ _ _=>Nat.le_refl _) (fun i _ H x H' _ _ y=>y) h0 hs hd
theorem oN {lo:Int} {n:Nat} {σc:St} {g:TG} {tc:TT} {te:TE} {Q:VK} {H1:Hp} (Pv:Nat->List V->Hp->Prop) (hn:n<sizeLine) (h0:Pv 0 [] H1)
  (hs: ∀(i:Nat) (acc:List V) (H:Hp) (Nx:List V->Hp->Prop),i<n->acc.length<=i->Pv i acc H->(∀bI H',bI.length<=i+1->Pv (i+1) bI H'->Nx bI H')->
   g (.int (lo+i)) σc H fun σ2 H2=>Wk σc σ2/\tc σ2 H2 fun b H3=>if b=true then te σ2 H3 fun v H4=>Nx (acc++[v]) H4 else Nx acc H3)
  (hd: ∀acc H D,acc.length<=n->Pv n acc H->H D=none->Q (.ref D) (upd H D (.lst acc))):kM (GC lo n) σc g tc te Q H1:=
 nO (xs:=fun i x=>x= .int (lo+i)) Pv hn (fun i _ _ h _=>h) (fun _ _ _=>Nat.le_refl _) (fun i _ H x H' _ _ y=>y) h0 (fun i x acc H Nx h1 h2=>by subst h2;exact hs i acc H Nx h1) hd
theorem rD {K:PySem.W.Frag} {a:Addr} {xs:List V} {σc:St} {g:TG} {tc:TT} {te:TE} {Q:VK} {H1:Hp} (Pv:Nat->List V->Hp->Prop) (hn:xs.length<sizeLine) (hl: ∀i acc H,Pv i acc H->aT K H a xs) (h0:Pv 0 [] H1)
  (hs: ∀(i:Nat) (x:V) (acc:List V) (H:Hp) (Nx:List V->Hp->Prop),i<xs.length->xs[i]? =some x->acc.length<=i->Pv i acc H->(∀bI H',bI.length<=i+1->Pv (i+1) bI H'->Nx bI H')->
   g x σc H fun σ2 H2=>Wk σc σ2/\tc σ2 H2 fun b H3=>if b=true then te σ2 H3 fun v H4=>Nx (acc++[v]) H4 else Nx acc H3)
  (hd: ∀acc H D,acc.length<=xs.length->Pv xs.length acc H->H D=none->Q (.ref D) (upd H D (.lst acc))):kM (LI K a) σc g tc te Q H1:=
 nO (xs:=fun i x=>xs[i]? =some x) Pv hn (fun i acc H h p=>⟨xs,xs[i],hl i acc H p,by simp[h]⟩) (fun acc H p=>⟨xs,hl _ acc H p,Nat.le_refl _⟩) (fun i acc H x H' h p y=>⟨y.1,y.2 xs (hl i acc H p)⟩) h0 hs hd
def E7 (c:TT) (tb:TS):TS:=fun D σ H=> ∃W:Nat->St->Hp->Prop,(∃m,W m σ H)/\ ∀m σ H,W m σ H->
 c σ H fun b H1=>if b=true then tb { D with nx:=fun σ' H'=> ∃m',m'<m/\W m' σ' H',ct:=fun σ' H'=> ∃m',m'<m/\W m' σ' H',bk:=D.nx } σ H1 else D.nx σ H1
theorem fR {X:Cx} {c:Expr} {body:List Stmt} {tc:TT} {tb:TS} {pos:Pos} (hp:PassesOwn (model X.prog X.w) X.A X.env X.xe) (hc:PT X c tc) (hb:zX X body tb):PS X (.While c body [] pos) (E7 tc tb):=by
 intro pins s σ H D I h
 obtain ⟨W,⟨m0,w0⟩,turn⟩:=h
 refine wpAny_While (codeAny_whileLoop (fun n s'=> ∃σ' H',Inv X pins σ' H' s'/\W n σ' H') ?_ m0 ⟨σ,H,I,w0⟩)
 rintro n s1 ⟨σ1,H1,I1,w1⟩
 refine wpAny_passesOwn hp (bZ (hc pins s1 σ1 H1 _ I1 (turn n σ1 H1 w1)) fun b s2 ⟨H2,I2,q2⟩=>?_)
 cases b with
 | true=>
  rw[if_pos rfl]at q2 ⊢
  refine wpAny_passesOwn hp (bZ (hb pins s2 σ1 H2 _ I2 q2) fun f s3 q3=>?_)
  cases f with
  | next=>
   obtain ⟨σ3,H3,I3,m',hm,w3⟩:=q3
   exact ⟨m',hm,σ3,H3,I3,w3⟩
  | cont=>
   obtain ⟨σ3,H3,I3,m',hm,w3⟩:=q3
   exact ⟨m',hm,σ3,H3,I3,w3⟩
  | brk=>exact q3
  | ret v=>exact q3
 | false=>
  rw[if_neg Bool.false_ne_true]at q2 ⊢
  exact wpAny_execs_nil ⟨σ1,H2,I2,q2⟩
noncomputable def tP (X:Cx) (scope:Scope):Bool:=(scope.names.all fun y=>y.2 != .cell)&&(scope.kind== .function)&&(scope.names.all fun y=>y.2 != .free||X.env.kindOf y.1==some .cell||X.env.kindOf y.1==some .free)&&(scope.names.all fun y=>y.2 != .local||scope.names.lookup y.1==some .local)
theorem kO {X:Cx} {scope:Scope} (h:tP X scope=true):(∀y∈scope.names,y.2≠ .cell)/\scope.kind= .function/\(∀y∈scope.names,y.2= .free->X.env.kindOf y.1=some .cell\/X.env.kindOf y.1=some .free)/\(∀x∈scope.names,x.2= .local->scope.names.lookup x.1=some .local):=by
 unfold tP at h
 simp only[Bool.and_eq_true]at h
 obtain ⟨⟨⟨h1,h2⟩,h3⟩,h4⟩:=h
 refine ⟨fun y hy e=>?_,by simpa using h2,fun y hy e=>?_,fun y hy e=>?_⟩
 ·have:=List.all_eq_true.mp h1 y hy
  rw[e]at this;simp at this
 ·have:=List.all_eq_true.mp h3 y hy
  rw[e]at this
  simpa using this
 ·have:=List.all_eq_true.mp h4 y hy
  rw[e]at this
  simpa using this
theorem cY {X:Cx} {tg iter elt:Expr} {ifs:List Expr} {scope:Scope} {pos:Pos} {wi:TI} {g:TG} {tc:TT} {te:TE} (Nc:List Str) (ix:List (Option Nat)) (hi:PI X tg iter wi) (BL:jP X scope Nc ix)
  (hG: ∀C s H fp,PG (bP X scope C Nc s H fp) tg g) (hT: ∀C s H fp,PF (bP X scope C Nc s H fp) ifs tc) (hE: ∀C s H fp,PE (bP X scope C Nc s H fp) elt te) (bu:tP X scope=true:=by rfl) (jV:X.calm=true:=by rfl)
  (hs: ∀x,foldedSetIterable iter X.env x=pure x:=by intro _;rfl):PE X (.ListComp elt [⟨tg,iter,ifs,0⟩] scope pos) (vd wi ix g tc te):=
 let ⟨h1,h2,h3,h4⟩:=kO bu
 EZ Nc ix hi jV BL h1 h2 h3 h4 hG hT hE hs
theorem kP {X:Cx} {i:Nat} {x:Str} {tg iter elt:Expr} {ifs:List Expr} {scope:Scope} {pos Cm pos':Pos} {wi:TI} {g:TG} {tc:TT} {te:TE} (Nc:List Str) (ix:List (Option Nat)) (hN:X.N.Nodup) (MX:X.N[i]? =some x) (hx:Loc X.env.scope x)
  (hi:PI X tg iter wi) (BL:jP X scope Nc ix)
  (hG: ∀C s H fp,PG (bP X scope C Nc s H fp) tg g) (hT: ∀C s H fp,PF (bP X scope C Nc s H fp) ifs tc) (hE: ∀C s H fp,PE (bP X scope C Nc s H fp) elt te)
  (LN:swapsWith (.ListComp elt [⟨tg,iter,ifs,0⟩] scope pos) (some (.Name x pos')) Cm.line X.env=pure true:=by rfl) (bu:tP X scope=true:=by rfl) (jV:X.calm=true:=by rfl)
  (hs: ∀x,foldedSetIterable iter X.env x=pure x:=by intro _;rfl) (hf:X.fn x=true\/X.env.scope.names.lookup x=some .local:=by first | exact .inl rfl | exact .inr rfl | assumption):
  PS X (.Assign [.Name x pos'] (.ListComp elt [⟨tg,iter,ifs,0⟩] scope pos) Cm) (EH (vd wi ix g tc te) (uY i)):=
 let ⟨h1,h2,h3,h4⟩:=kO bu
 E1 Nc ix hN MX hx LN hi jV BL h1 h2 h3 h4 hG hT hE hs hf
section
variable {X:Cx}
def SG:R2:=fun x y H Q=> ∃a b,x= .str (S a)/\y= .str (S b)/\Q (.bl (decide (a=b))) H
def SH:R2:=fun x y H Q=> ∃a b,x= .str (S a)/\y= .str (S b)/\Q (.bl (!decide (a=b))) H
theorem eQ:gD X (compareOp .Eq) SG:=by
 intro pins s σ H x y v u Q I rx ry h
 obtain ⟨a,b,rfl,rfl,q⟩:=h
 exact GF pins s σ H _ _ v u Q I rx ry ⟨rfl,by rw[GP];exact q⟩
theorem oO:gD X (compareOp .NotEq) SH:=by
 intro pins s σ H x y v u Q I rx ry h
 obtain ⟨a,b,rfl,rfl,q⟩:=h
 exact B5 pins s σ H _ _ v u Q I rx ry ⟨rfl,by rw[GP];exact q⟩
theorem GU {i j:Int}:decide (V.int i=V.int j)=decide (i=j):=by
 by_cases h:i=j
 ·subst h;simp
 ·rw[decide_eq_false h,decide_eq_false]
  intro q
  exact h (V.int.inj q)
theorem M7 {i j:Bool}:decide (V.bl i=V.bl j)=decide (i=j):=by
 by_cases h:i=j
 ·subst h;simp
 ·rw[decide_eq_false h,decide_eq_false]
  intro q
  exact h (V.bl.inj q)
theorem tQ:gD X (compareOp .Eq) (Ee fun i j=> .bl (decide (i=j))):=by
 intro pins s σ H x y v u Q I rx ry h
 obtain ⟨a,b,rfl,rfl,q⟩:=h
 exact GF pins s σ H _ _ v u Q I rx ry ⟨rfl,by rw[GU];exact q⟩
theorem xq:gD X (compareOp .NotEq) (Ee fun i j=> .bl (!decide (i=j))):=by
 intro pins s σ H x y v u Q I rx ry h
 obtain ⟨a,b,rfl,rfl,q⟩:=h
 exact B5 pins s σ H _ _ v u Q I rx ry ⟨rfl,by rw[GU];exact q⟩
def rB0 (g:Bool->Bool->V):R2:=fun x y H Q=> ∃i j,x= .bl i/\y= .bl j/\Q (g i j) H
theorem Jv:gD X (compareOp .NotEq) (rB0 fun i j=> .bl (!decide (i=j))):=by
 intro pins s σ H x y v u Q I rx ry h
 obtain ⟨a,b,rfl,rfl,q⟩:=h
 exact B5 pins s σ H _ _ v u Q I rx ry ⟨rfl,by rw[M7];exact q⟩
def SI (f:List Nat->List Nat->Bool):R2:=fun x y H Q=> ∃a b,x= .str (S a)/\y= .str (S b)/\Q (.bl (f a b)) H
theorem Jw:gD X (compareOp .Lt) (SI fun a b=>decide (a<b)):=by
 intro pins s σ H x y v u Q I rx ry h
 obtain ⟨a,b,rfl,rfl,q⟩:=h
 exact z9 pins s σ H _ _ v u Q I rx ry ⟨S a,S b,rfl,rfl,by rw[dR,dR];exact q⟩
end
end L2
namespace L2
open PySem PySem.Spec PyProof.Rows
section
variable {X:Cx} {tg:Expr}
theorem ba (K:PySem.W.Frag) (h:X.K=K):Jb X (ML K):=by subst h;exact ER
theorem ax (K:PySem.W.Frag) (h:X.K=K):Jb X (MM K):=by subst h;exact Jc
def M8 (K:PySem.W.Frag):List V->Hp->VK->Prop:=fun xs H Q=> ∃p ys,xs=[.ref p]/\(aT K H p ys\/aW K H p ys)/\Q (.int ys.length) H
theorem ay (K:PySem.W.Frag) (h:X.K=K):dH X (.builtin "len") (M8 K):=by subst h;exact tJ
theorem oP (K:PySem.W.Frag) (h:X.K=K):wU X "str.join" (Cr K):=by subst h;exact Cs
def M9 (K:PySem.W.Frag):List V->Hp->VK->Prop:=fun xs H Q=> ∃(p:Addr) (bs:List Bool),xs=[.ref p]/\aT K H p (bs.map V.bl)/\Q (.bl (bs.all id)) H
theorem An (K:PySem.W.Frag) (h:X.K=K) (hc:X.calm=true):dH X (.builtin "all") (M9 K):=by subst h;exact Am hc
def yK (K:PySem.W.Frag):List V->Hp->VK->Prop:=fun xs H Q=> ∃p ys,xs=[.ref p]/\(aT K H p ys\/aW K H p ys)/\ ∀l,H l=none->Q (.ref l) (upd H l (.lst ys))
theorem cQ (K:PySem.W.Frag) (h:X.K=K):dH X (.type "list") (yK K):=by subst h;exact tL
theorem jd (K:PySem.W.Frag) (h:X.K=K):P7 X (MO K):=by subst h;exact ES
theorem eB (K:PySem.W.Frag) (h:X.K=K) {l:Expr} {tl:TE} (hl:PE X l tl):PI X tg l (GD K tl):=by subst h;exact EI hl
theorem nP (K:PySem.W.Frag) (h:X.K=K) {l:Expr} {tl:TE} (hl:PE X l tl):PI X tg l (Mw K tl):=by subst h;exact IK hl
end
section
variable {X:Cx} {o e:Expr} {es:List Expr} {to:TE} {t:TA} {name:Str} {apos eJ:Pos} {T id:String} {r:V->List V->Hp->VK->Prop}
theorem dN (K:PySem.W.Frag) (hK:X.K=K) (pa:PlainAttrs T) (slot:Slot T name id) (Jh:typeOf (.builtin id)=pure (.type "method_descriptor")) (hm:wU X id r) (ho:PE X o to)
  (ou:attributeBase o name X.env (eval o X.env)=eval o X.env:=by rfl) (jT:(apos.endLine==eJ.line)=true:=by rfl):PE X (.Call (.Attribute o name apos) [] [] eJ) (MP K T r to):=by
 subst hK
 exact Jg pa slot Jh hm ho ou jT
theorem aX (K:PySem.W.Frag) (hK:X.K=K) (pa:PlainAttrs T) (slot:Slot T name id) (Jh:typeOf (.builtin id)=pure (.type "method_descriptor")) (hm:wU X id r) (ho:PE X o to) (ha:PA X (e::es) t)
  (ou:attributeBase o name X.env (eval o X.env)=eval o X.env:=by rfl)
  (Af:((backTo eJ (starEach (e::es) X.env)).all (fun x=>!x.1)&&(backToKw eJ (keywordEach [] X.env)).all (fun x=>x.1.isSome)
   &&decide ((e::es).length+([]:List Keyword).length+(if ([]:List Keyword).isEmpty then 0 else 1)<30))=true:=by rfl)
  (jT:(apos.endLine==eJ.line)=true:=by rfl) (hs:starEach (e::es) X.env=(false,eval e X.env)::starEach es X.env:=by rfl) (xg:(backTo eJ (starEach es X.env)).any (·.1)=false:=by rfl):
  PE X (.Call (.Attribute o name apos) (e::es) [] eJ) (tBM K T r to t):=by
 subst hK
 exact MQ pa slot Jh hm ho ha ou Af jT hs xg
end
end L2
namespace L2
open PySem PySem.Spec PyProof.Rows
mutual
inductive qE (K:PySem.W.Frag) (H:Hp):V->PyData->Prop
 | ck:qE K H .ck .none
 | bl (b:Bool):qE K H (.bl b) (.bool b)
 | int (i:Int):qE K H (.int i) (.int i)
 | str (x:Str):qE K H (.str x) (.str x)
 | lst {a:Addr} {xs:List V} {ds:List PyData} (h:aT K H a xs) (r:gQ K H xs ds):qE K H (.ref a) (.list ds)
 | tup {a:Addr} {xs:List V} {ds:List PyData} (h:aW K H a xs) (r:gQ K H xs ds):qE K H (.ref a) (.tuple ds)
inductive gQ (K:PySem.W.Frag) (H:Hp):List V->List PyData->Prop
 | nil:gQ K H [] []
 | cons {x:V} {xs:List V} {d:PyData} {ds:List PyData} (h:qE K H x d) (r:gQ K H xs ds):gQ K H (x::xs) (d::ds)
end
section
variable {X:Cx} {pins:List (Addr×Obj)} {σ:St} {H:Hp} {s:Shared}
mutual
theorem qE.reads (I:Inv X pins σ H s): ∀{x:V} {d:PyData} {u:Value},qE X.K H x d->RelV x u-> ∃as,Reads s.heap u d as
 | _,_,u, .ck,r=>by cases (show u=Value.none from r);exact ⟨_, .none⟩
 | _,_,u, .bl b,r=>by cases (show u=Value.bool b from r);exact ⟨_, .bool b⟩
 | _,_,u, .int i,r=>by obtain ⟨t,rfl⟩:=r;exact ⟨_, .int i t⟩
 | _,_,u, .str x,r=>by obtain ⟨t,rfl⟩:=r;exact ⟨_, .str x t⟩
 | _,_,u, .lst (a:=a) h q,r=>by
  cases (show u=Value.ref a from r)
  obtain ⟨aI,rv,pl,_⟩:=I.list h
  obtain ⟨as,ra⟩:=gQ.reads I q rv
  obtain ⟨o,ho,hc,n,hd⟩:=pl.isList
  exact ⟨_, .list ho hc hd (by simpa using ra)⟩
 | _,_,u, .tup (a:=a) h q,r=>by
  cases (show u=Value.ref a from r)
  obtain ⟨aI,rv,pl,_⟩:=I.tuple h
  obtain ⟨as,ra⟩:=gQ.reads I q rv
  obtain ⟨o,ho,hc,n,hd⟩:=pl
  exact ⟨_, .tuple ho hc hd (by simpa using ra)⟩
theorem gQ.reads (I:Inv X pins σ H s): ∀{xs:List V} {ds:List PyData} {us:List Value},gQ X.K H xs ds->Vals xs us-> ∃as,ReadsAll s.heap us ds as
 | _,_,us, .nil,r=>by cases r;exact ⟨_, .nil⟩
 | _,_,us, .cons h q,r=>by
  cases r with
  | cons r1 r2=>
   obtain ⟨as,ra⟩:=qE.reads I h r1
   obtain ⟨bs,rb⟩:=gQ.reads I q r2
   exact ⟨_, .cons ra rb⟩
end
mutual
theorem qE.noDict {K:PySem.W.Frag}: ∀{x:V} {d:PyData},qE K H x d->d.hasDict=false
 | _,_, .ck=>rfl
 | _,_, .bl b=>rfl
 | _,_, .int i=>rfl
 | _,_, .str x=>rfl
 | _,_, .lst h q=>by show PyData.hasDictAll _=false;exact gQ.noDict q
 | _,_, .tup h q=>by show PyData.hasDictAll _=false;exact gQ.noDict q
theorem gQ.noDict {K:PySem.W.Frag}: ∀{xs:List V} {ds:List PyData},gQ K H xs ds->PyData.hasDictAll ds=false
 | _,_, .nil=>rfl
 | _,_, .cons h q=>by
  show (PyData.hasDict _||PyData.hasDictAll _)=false
  rw[qE.noDict h,gQ.noDict q];rfl
end
end
section
variable {X:Cx}
def SJ (K:PySem.W.Frag):R2:=fun x y H Q=> ∃dx dy,qE K H x dx/\qE K H y dy/\(dx.canLay0=true/\dy.canLay0=true)/\dx.depth<=60/\Q (.bl (PyData.eqv dx dy)) H
def SK (K:PySem.W.Frag):R2:=fun x y H Q=> ∃dx dy,qE K H x dx/\qE K H y dy/\(dx.canLay0=true/\dy.canLay0=true)/\dx.depth<=60/\Q (.bl (!PyData.eqv dx dy)) H
theorem Cv {k:Nat} (K:PySem.W.Frag) (h:X.K=K) (hr:gF k X.A):gD X (compareOp .Eq) (SJ K):=by
 subst h
 intro pins s σ H x y v u Q I rx ry h
 obtain ⟨dx,dy,h1,h2,⟨h3,h4⟩,h5,q⟩:=h
 obtain ⟨as,ra⟩:=h1.reads I rx
 obtain ⟨bs,rb⟩:=h2.reads I ry
 have hu:=hr.units
 exact SeqAt.compareEq_reads ra rb h3 h4 (by omega) ⟨.bl _,H,I,rfl,q⟩
theorem kd {k:Nat} (K:PySem.W.Frag) (h:X.K=K) (hr:gF k X.A):gD X (compareOp .NotEq) (SK K):=by
 subst h
 intro pins s σ H x y v u Q I rx ry h
 obtain ⟨dx,dy,h1,h2,⟨h3,h4⟩,h5,q⟩:=h
 obtain ⟨as,ra⟩:=h1.reads I rx
 obtain ⟨bs,rb⟩:=h2.reads I ry
 have hu:=hr.units
 exact SeqAt.compareNe_reads ra rb h3 h4 (by omega) ⟨.bl _,H,I,rfl,q⟩
def M_ (K:PySem.W.Frag) (ta:TE):TT:=fun σ H Q=>ta σ H fun x H'=> ∃p xs,x= .ref p/\aT K H' p xs/\Q (!xs.isEmpty) H'
theorem E8 {a:Expr} {ta:TE} (K:PySem.W.Frag) (h:X.K=K) (ha:PE X a ta) (he: ∀whole,isTrue a X.env whole=(do let v <-whole;standAt a.pos;holding [v] (truthy v)):=by intro _;rfl):PT X a (M_ K ta):=by
 subst h
 intro pins s σ H Q I hw
 refine isTrue_plain (bZ (ha pins s σ H _ I hw) fun v s1 ⟨x,H1,I1,r1,q1⟩=>?_) (he _)
 obtain ⟨p,xs,rfl,hq,q⟩:=q1
 exact IW pins s1 σ H1 _ v Q I1 r1 ⟨_, .inl ⟨xs,hq,rfl⟩,q⟩
theorem bW (K:PySem.W.Frag) (h:X.K=K) {es:List Expr} {k:Nat} {t:GB} {n:Nat} {pos:Pos} (hc:X.calm=true) (hs:Ms X es t)
  (hn:(assignEach es X.env).length=n:=by rfl) (RP:(assignEach es X.env).findIdx? (·.1)=none:=by rfl):PG X (.Tuple es k pos) (Mv K n t):=by
 subst h
 exact II hc hs hn RP
end
end L2
namespace L2
open PySem PySem.Spec PyProof.Rows
noncomputable def cU (a b:List Nat):List Nat:=if b<a then b else a
noncomputable def cj:List Nat->List (List Nat)->List Nat
 | a,[]=>a
 | a,b::r=>cj (cU a b) r
section
variable {X:Cx}
end
end L2
namespace L2
open PySem PySem.Spec PyProof.Rows
section
variable {X:Cx}
theorem xr (K:PySem.W.Frag) (h:X.K=K):gD X (compareOp .In) (rIn K false):=by subst h;exact Ae
structure oQ (k n:Nat) (d:PyData):Prop where
 lv:d.leavesShort 13=true
 sh:d.showable=true
 ly:d.canLay0=true
 dp:d.depth<=k
 wt:d.weight<=n
structure oR (k n:Nat) (ds:List PyData):Prop where
 lv:PyData.leavesShortAll 13 ds=true
 sh:PyData.showableAll ds=true
 ly:PyData.canLayAll0 ds=true
 dp:PyData.depthAll ds<=k
 wt:PyData.weightAll ds<=n
theorem oQ.str {k n:Nat} {l:List Nat} (h: ∀c∈l,c<128) (hn:l.length<=n):oQ k n (.str (S l)):=by
 refine ⟨?_,rfl,?_,Nat.zero_le _,by show (S l).cps.size<=n;rw[ja];exact hn⟩
 ·show ((S l).cps.toList.all fun c=>decide (c<16 ^ 8))=true
  rw[dR,List.all_eq_true]
  intro c hc
  have:=h c hc
  exact decide_eq_true (by omega)
 ·show PyData.strOk (S l)=true
  unfold PyData.strOk
  rw[Array.all_eq_true_iff_forall_mem]
  intro c hc
  have:c∈l:=by simpa [S]using hc
  have:=h c this
  simp;omega
theorem oQ.int {k n:Nat} {i:Int} (h:i.natAbs<10 ^ 12) (hn:40<=n):oQ k n (.int i):=by
 have hl:i.natAbs.log2<40:=by
  by_cases z:i.natAbs=0
  ·rw[z];decide
  ·rw[Nat.log2_lt z]
   exact Nat.lt_trans h (by decide)
 refine ⟨?_,?_,rfl,Nat.zero_le _,?_⟩
 ·show decide ((PyData.shown (.int i)).length<=13)=true
  exact decide_eq_true (PyData.shown_int_le h)
 ·show decide (i.natAbs.log2<1920)=true
  exact decide_eq_true (by omega)
 ·show (if i==0 then 0 else i.natAbs.log2+1)<=n
  split<;>omega
theorem oR.nil {k n:Nat}:oR k n []:=⟨rfl,rfl,rfl,Nat.zero_le _,Nat.zero_le _⟩
theorem oR.cons {k a b n:Nat} {x:PyData} {xs:List PyData} (h:oQ k a x) (t:oR k b xs) (hn:a+1+b<=n):oR k n (x::xs):=by
 refine ⟨?_,?_,?_,?_,?_⟩
 ·show (PyData.leavesShort 13 x&&PyData.leavesShortAll 13 xs)=true;rw[h.lv,t.lv];rfl
 ·show (PyData.showable x&&PyData.showableAll xs)=true;rw[h.sh,t.sh];rfl
 ·show (PyData.canLay0 x&&PyData.canLayAll0 xs)=true;rw[h.ly,t.ly];rfl
 ·show max (PyData.depth x) (PyData.depthAll xs)<=k;exact Nat.max_le.mpr ⟨h.dp,t.dp⟩
 ·show PyData.weight x+1+PyData.weightAll xs<=n
  have:=h.wt;have:=t.wt;omega
theorem oR.all {k a:Nat}: ∀{xs:List PyData} {n:Nat},(∀x∈xs,oQ k a x)->(a+1)*xs.length<=n->oR k n xs
 | [],_,_,_=> .nil
 | x::xs,n,h,hn=> .cons (b:=(a+1)*xs.length) (h x List.mem_cons_self) (oR.all (fun y hy=>h y (List.mem_cons_of_mem _ hy)) (Nat.le_refl _)) (by rw[List.length_cons,Nat.mul_succ]at hn;omega)
theorem oQ.lst {k n:Nat} {ds:List PyData} (h:oR k n ds):oQ (k+1) n (.list ds):=⟨h.lv,h.sh,h.ly,Nat.succ_le_succ h.dp,h.wt⟩
theorem oQ.tup {k n:Nat} {ds:List PyData} (h:oR k n ds):oQ (k+1) n (.tuple ds):=⟨h.lv,h.sh,h.ly,Nat.succ_le_succ h.dp,h.wt⟩
end
end L2
namespace L2
open PySem PySem.Spec PyProof.Rows
end L2
namespace L2
open PySem PySem.Spec PyProof.Rows
section
variable {X:Cx}
theorem E9:gD X (compareOp .IsNot) (fun x y H Q=> ∃c d,x= .bl c/\y= .bl d/\Q (.bl (c != d)) H):=by
 intro pins s σ H x y v u Q I rx ry h
 obtain ⟨c,d,rfl,rfl,q⟩:=h
 cases rx
 cases ry
 exact isnot_bool ⟨.bl _,H,I,rfl,q⟩
end
end L2
namespace L2
open PySem PySem.Spec PyProof.Rows
section
variable {X:Cx} {pins:List (Addr×Obj)} {σ:St} {H:Hp} {s:Shared} {h':Heap}
theorem Inv.je {t':Nat} {ch:List Addr} {T:Addr} {ob:HO} (I:Inv X pins σ H s) (k: ∀b o,b∉ch->s.heap.get? b=some o->h'.get? b=some o) (hf: ∀b∈ch,nj X pins H b)
  (hT:s.heap.objs.size<=T) (new:cW X.prog X.w (upd H T ob) h' T ob):Inv X pins σ (upd H T ob) { s with heap:=h',toks:=t' }:=by
 have hn:=I.bu.fresh hT
 have Gz: ∀b u,H b=some u->b∉ch:=fun b u e z=>by rw[(hf b z).1]at e;cases e
 have neT: ∀b o,s.heap.get? b=some o->b≠T:=fun b o e z=>absurd (Nat.lt_of_lt_of_le (Heap.lt_size e) hT) (by rw[z];exact Nat.lt_irrefl _)
 refine I.step (g':=s.gens) (d':=s.drawn) (ch:=ch) (fun b hb=>?_) (fun b o _ _ hc e _=>k b o hc e) (fun b o _ _ hc e _=>⟨o.slots,k b o hc e⟩) (fun b o _ e n=>by rw[aq (neT b o e)];exact n)
  (fun b o hc e=>⟨o,k b o hc e⟩) (fun b xs e=>by rw[aq (ak e hn)];exact e) (fun b o u e=>by rw[aq (ak e hn)];exact e) (fun b ps e=>⟨#[],by rw[aq (ak e hn),e];simp⟩) (fun m hm=>?_) (fun b u e=>?_) I.bare
 ·obtain ⟨_,h2,_,h4,h5,h6⟩:=hf b hb
  exact ⟨h4,h2,h5,h6⟩
 ·obtain ⟨o,es,ep,ho,r⟩:=hm
  exact ⟨o,es,ep,k _ o (fun z=>(hf _ z).2.1 rfl) ho,r⟩
 ·by_cases hb:b=T
  ·subst hb;rw[ae]at e;cases e;exact new
  ·rw[aq hb]at e
   refine (I.bu b u e).uU (fun c v hc q=>k c v ?_ q) (fun c q=>by rw[aq (ak q hn)];exact q) fun c xs q=>by rw[aq (ak q hn)];exact q
   rcases hc with z | z
   ·rw[z];exact Gz b u e
   ·exact Gz c _ z
theorem Inv.kQ {t':Nat} {ch:List Addr} (I:Inv X pins σ H s) (k: ∀b o,b∉ch->s.heap.get? b=some o->h'.get? b=some o) (hf: ∀b∈ch,nj X pins H b):Inv X pins σ H { s with heap:=h',toks:=t' }:=by
 have Gz: ∀b u,H b=some u->b∉ch:=fun b u e z=>by rw[(hf b z).1]at e;cases e
 refine I.step (g':=s.gens) (d':=s.drawn) (ch:=ch) (fun b hb=>?_) (fun b o _ _ hc e _=>k b o hc e) (fun b o _ _ hc e _=>⟨o.slots,k b o hc e⟩) (fun b o _ e n=>n)
  (fun b o hc e=>⟨o,k b o hc e⟩) (fun b xs e=>e) (fun b o u e=>e) (fun b ps e=>⟨#[],by rw[e];simp⟩) (fun m hm=>?_) (fun b u e=>?_) I.bare
 ·obtain ⟨_,h2,_,h4,h5,h6⟩:=hf b hb
  exact ⟨h4,h2,h5,h6⟩
 ·obtain ⟨o,es,ep,ho,r⟩:=hm
  exact ⟨o,es,ep,k _ o (fun z=>(hf _ z).2.1 rfl) ho,r⟩
 ·refine (I.bu b u e).uU (fun c v hc q=>k c v ?_ q) (fun c q=>q) fun c xs q=>q
  rcases hc with z | z
  ·rw[z];exact Gz b u e
  ·exact Gz c _ z
end
noncomputable def LO (l:List Nat):It:=⟨fun i _=>i<l.length,fun i H x H'=> ∃T c,l[i]? =some c/\x= .ref T/\H T=none/\H'=upd H T (.tup [.int i, .str (S [c])]),fun i _=>l.length<=i⟩
theorem rE {prog:Program} {w:World} {A:Around} (hh:A.handled=none) (it:Addr) (x:Str) (t:Tok):
  Draws prog w A it [it] x.cps.size (fun i v=> ∃c u,x.cps[i]? =some c/\v= .str ⟨#[c]⟩ u) (fun i h=>h.IsStrIter it (strIterType x) x t i):=by
 by_cases ha:x.cps.all (· <128)=true
 ·have et:strIterType x="str_ascii_iterator":=by unfold strIterType;rw[if_pos ha]
  rw[et];exact Draws.strAscii hh it x t
 ·have et:strIterType x="str_iterator":=by unfold strIterType;rw[if_neg ha]
  rw[et];exact Draws.strWide hh it x t
theorem xt {P:Program} {w:World} {K:PySem.W.Frag} {elts:List Expr} {k:Nat} {pos:Pos} (e it:Addr) (yL:e≠it) (l:List Nat) (t:Tok):
  Turn P w K (.Tuple elts k pos) (LO l) [e,it] e (fun i h=>i<=l.length/\(∃old,IsEnum h e it i old)/\h.IsStrIter it (strIterType (S l)) (S l) t i) where
 mem:=by simp
 obj:=fun i h st b hb=>by
  obtain ⟨_,⟨old,he⟩,o,ho,hc,hd⟩:=st
  rcases List.mem_cons.mp hb with z | z
  ·rw[z];exact ⟨_,he,fun v z=>by cases z⟩
  ·rw[List.mem_singleton.mp z];exact ⟨o,ho,fun v z=>by rw[hd]at z;cases z⟩
 keep:=fun i h h' st kp=>by
  obtain ⟨h1,⟨old,he⟩,o,ho,r⟩:=st
  exact ⟨h1,⟨old,kp e (by simp) _ he⟩,o,kp it (by simp) o ho,r⟩
 item:=by
  intro X hP hw hK hc i pins s σ H E I hf st hg
  subst hP hw hK
  obtain ⟨_,vf,lR⟩:=st
  have D:=rE (prog:=X.prog) (w:=X.w) (A:=X.A.in1) (I.ok.hd hc) it (S l) t
  have W:=WalksT.enumerateD D e yL (by simpa using yL) (by simp)
  have hi:i<(S l).cps.size:=by rw[ja];exact hg
  refine W.item i s _ _ hi ⟨vf,lR⟩ fun T vals h' tk Na hT Cw vg hk=>⟨_,rfl,?_⟩
  refine W.go elts k pos i T { s with heap:=h',toks:=tk } _ _ vg fun h2 vh Ao=>?_
  obtain ⟨tt,x,⟨c,u,SM,rfl⟩,rfl⟩:=Na
  have BM:T∉[e,it]:=W.apart i T h' vg
  have kR:h2.IsTuple T #[.int i tt, .str ⟨#[c]⟩ u]:=by
   obtain ⟨o,ho,r⟩:=Cw
   exact ⟨o,Ao T o BM ho,r⟩
  have hl:l[i]? =some c:=by simpa [S]using SM
  refine ⟨.ref T,upd H T (.tup [.int i, .str (S [c])]),?_,rfl,⟨T,c,hl,rfl,I.bu.fresh hT,rfl⟩,⟨hg,vh.1,vh.2⟩,fun b hb=>?_⟩
  ·refine I.je (t':=tk) (h':=h2) (fun b o hb y=>Ao b o hb (hk b o hb y)) hf hT ?_
   exact ⟨by show 2<=sizeLine;decide,[.int i tt, .str ⟨#[c]⟩ u], .cons ⟨tt,rfl⟩ (.cons ⟨u,rfl⟩ .nil),kR⟩
  ·rw[aq (fun z:b=T=>BM (z▸hb))];exact (hf b hb).1
 done:=by
  intro X hP hw hK hc i pins s σ H E I hf st hg
  subst hP hw hK
  obtain ⟨h1,vf,lR⟩:=st
  have e1:i=l.length:=Nat.le_antisymm h1 hg
  have D:=rE (prog:=X.prog) (w:=X.w) (A:=X.A.in1) (I.ok.hd hc) it (S l) t
  have W:=WalksT.enumerateD D e yL (by simpa using yL) (by simp)
  refine W.done s _ _ ?_ fun h' tk hk=>⟨rfl,I.kQ (t':=tk) hk hf⟩
  rw[ja, <-e1]
  exact ⟨vf,lR⟩
 self:=fun _ _ s _ _ st h=>by
  obtain ⟨_,⟨old,he⟩,_⟩:=st
  exact wpAny_pyIter_enum he h
def Jx (ta:TA):TI:=fun σ H R=>ta σ H fun vs H1=> ∃l,vs=[.str (S l)]/\R (LO l) H1
theorem jf {X:Cx} {elts:List Expr} {k:Nat} {pos':Pos} {a:Expr} {ta:TA} {p pos:Pos} (hg:Gl X "enumerate") (hm:X.mg "enumerate"=none) (ha:PA X [a] ta) (hs:starEach [a] X.env=[(false,eval a X.env)]:=by rfl):PI X (.Tuple elts k pos') (.Call (.Name "enumerate" p) [a] [] pos) (Jx ta):=by
 intro pins s σ H R I h
 refine Call_ (dE I hg hm boot_enumerate (PyProof.Rows.callWith_type1 (bZ (ha pos pins s σ H _ I h) fun us s1 ⟨vs,H1,I1,r1,q1⟩=>?_) hs rfl))
 obtain ⟨l,rfl,q⟩:=q1
 obtain ⟨u,rfl,t,rfl⟩:=vals1 r1
 refine call_enumerate_str fun h' he hit hsz hk=>?_
 refine wpAny_pyIter_enum he ?_
 refine ⟨s1.heap.objs.size+1,[s1.heap.objs.size+1,s1.heap.objs.size],_,_,H1,rfl,I1.kept (t':=s1.toks) hk,xt _ _ (Nat.succ_ne_self _) l t,⟨Nat.zero_le _,⟨_,he⟩,hit⟩,fun b hb=>?_,q⟩
 have ke:s1.heap.objs.size<=b:=by
  rcases List.mem_cons.mp hb with z | z
  ·rw[z];exact Nat.le_succ _
  ·rw[List.mem_singleton.mp z];exact Nat.le_refl _
 exact I1.kD ke (I1.bu.fresh ke)
theorem kT {l:List Nat} {g:TG} {tb:TS} {D:Ends} {σ:St} {H:Hp} (Pv:Nat->St->Hp->Prop) (h0:Pv 0 σ H)
  (hs: ∀i c σ H T,l[i]? =some c->Pv i σ H->H T=none->g (.ref T) σ (upd H T (.tup [.int i, .str (S [c])])) fun σ2 H2=>tb { D with nx:=Pv (i+1),ct:=Pv (i+1),bk:=D.nx } σ2 H2) (hd: ∀σ H,Pv l.length σ H->D.nx σ H):
  ∃W:Nat->Nat->St->Hp->Prop,(∃m,W 0 m σ H)/\ ∀i m σ H,W i m σ H->
   ((LO l).stop i H/\D.nx σ H)\/((LO l).go i H/\ ∃N:St->Hp->Prop,(∀σ' H',N σ' H'-> ∃m',m'<m/\W (i+1) m' σ' H')/\ ∀x H',(LO l).yD i H x H'->g x σ H' fun σ2 H2=>tb { D with nx:=N,ct:=N,bk:=D.nx } σ2 H2):=by
 refine ⟨fun i m σ H=>m=l.length - i/\i<=l.length/\Pv i σ H,⟨l.length,by simp,Nat.zero_le _,h0⟩,?_⟩
 rintro i m σ H ⟨rfl,hi,p⟩
 by_cases cy:i<l.length
 ·refine .inr ⟨cy,Pv (i+1),fun σ' H' p'=>⟨l.length - (i+1),by omega,rfl,cy,p'⟩,fun x H' y=>?_⟩
  obtain ⟨T,c,hc,rfl,hn,rfl⟩:=y
  exact hs i c σ _ T hc p hn
 ·have e:i=l.length:=by omega
  subst e
  exact .inl ⟨Nat.le_refl _,hd σ H p⟩
section
variable {X:Cx}
theorem yM {ls:List (List Nat)}: ∀{aI:List Value},Vals (ls.map fun l=>V.str (S l)) aI->StrsAre aI (ls.map S):=by
 induction ls with
 | nil=>intro aI r;cases r;exact .nil
 | cons l ls ih=>
  intro aI r
  cases r with
  | cons r1 r2=>
   obtain ⟨t,rfl⟩:=r1
   exact .cons _ t (ih r2)
theorem tR: ∀{aI:List Value} {ss:List Str},StrsAre aI ss->Vals ((ss.map fun x=>x.cps.toList).map fun l=>V.str (S l)) aI
 | _,_, .nil=> .nil
 | _,_, .cons x t h=> .cons ⟨t,by rw[<-MY]⟩ (tR h)
theorem rF: ∀(p:Str) (r:List Str),risingS p r=true->(p::r).Pairwise fun a b=> ¬b.cps.toList<a.cps.toList
 | p,[],_=>List.pairwise_singleton _ _
 | p,x::r,h=>by
  have h':(!ltCps x.cps.toList p.cps.toList&&risingS x r)=true:=h
  rw[Bool.and_eq_true,ltCps_eq]at h'
  have h1: ¬x.cps.toList<p.cps.toList:=by simpa using h'.1
  have ih:=rF x r h'.2
  refine List.pairwise_cons.mpr ⟨fun y hy=>?_,ih⟩
  rcases List.mem_cons.mp hy with z | z
  ·rw[z];exact h1
  ·exact List.le_trans (show p.cps.toList<=x.cps.toList from h1) (show x.cps.toList<=y.cps.toList from List.rel_of_pairwise_cons ih z)
theorem rG {ss:List Str} (h:sortedS ss=true):(ss.map fun x=>x.cps.toList).Pairwise fun a b=> ¬b<a:=by
 rw[List.pairwise_map]
 cases ss with
 | nil=>exact List.Pairwise.nil
 | cons x r=>exact rF x r h
def Jy (K:PySem.W.Frag):List V->Hp->VK->Prop:=fun xs H Q=> ∃(p:Addr) (ls:List (List Nat)),xs=[.ref p]/\aT K H p (ls.map fun l=>V.str (S l))/\ls.length<64/\ ∀(q:Addr) (SN:List (List Nat)),H q=none->SN.Perm ls->(SN.Pairwise fun a b=> ¬b<a)->Q (.ref q) (upd H q (.lst (SN.map fun l=>V.str (S l))))
theorem ir (K:PySem.W.Frag) (h:X.K=K):dH X (.builtin "sorted") (Jy K):=by
 subst h
 intro pins s σ H xs us Q I r h
 obtain ⟨p,ls,rfl,hq,hn,q⟩:=h
 obtain ⟨u,rfl,ru⟩:=vals1 r
 cases ru
 obtain ⟨aI,rv,pl,hz⟩:=I.list hq
 have hlen:aI.length=ls.length:=by rw[<-rv.length,List.length_map]
 refine sorted_strs (l:=p) (vs:=aI) (ss:=ls.map S) pl.isList (yM rv) (by omega) fun out Ap h1 h2 h3=>?_
 obtain ⟨e,he⟩:=sortedAll_at s.heap aI out
 have oS:(Ap.map fun x=>x.cps.toList).Perm ls:=by
  have:=h2.map fun x:Str=>x.cps.toList
  rw[List.map_map]at this
  have e2:ls.map ((fun x:Str=>x.cps.toList) ∘ S)=ls:=by
   have: ∀l∈ls,((fun x:Str=>x.cps.toList) ∘ S) l=l:=fun l _=>dR l
   calc ls.map _=ls.map id:=List.map_congr_left this
    _=ls:=List.map_id ls
  rwa [e2]at this
 have tM:=oS.length_eq
 have Jz:(64:Nat)<sizeLine:=by decide
 have Qb:((Ap.map fun x=>x.cps.toList).map fun l=>V.str (S l)).length<=sizeLine:=by rw[List.length_map,tM];omega
 refine ⟨.ref (s.heap.objs.size+1),_,I.laid (t':=s.toks) (a:=s.heap.objs.size+1) (o:= .lst ((Ap.map fun x=>x.cps.toList).map fun l=>V.str (S l))) (fun b o e=>sortedAll_old e) (Nat.le_succ _) ⟨Qb,out.toList,e,tR h1,by simpa [seqObj]using he⟩,rfl,q _ _ (I.bu.fresh (Nat.le_succ _)) oS (rG h3)⟩
end
end L2
namespace L2
open PySem PySem.Spec PyProof.Rows
section
variable {X:Cx}
theorem yN {ls:List (List Nat)} {l:List Nat} (h:ls.Perm (l.map fun c=>[c])): ∃l':List Nat,ls=l'.map (fun c=>[c])/\l'.Perm l:=by
 refine ⟨ls.flatten,?_,?_⟩
 ·have hs: ∀x∈ls, ∃c,x=[c]:=fun x hx=>by
   obtain ⟨c,_,e⟩:=List.mem_map.mp (h.mem_iff.mp hx)
   exact ⟨c,e.symm⟩
  clear h
  induction ls with
  | nil=>rfl
  | cons x ls ih=>
   obtain ⟨c,rfl⟩:=hs x List.mem_cons_self
   rw[List.flatten_cons,List.map_append, <-ih fun y hy=>hs y (List.mem_cons_of_mem _ hy)]
   rfl
 ·have:=h.flatten
  have e:(l.map fun c=>[c]).flatten=l:=by
   clear h this
   induction l with
   | nil=>rfl
   | cons c l ih=>rw[List.map_cons,List.flatten_cons,ih];rfl
  rwa [e]at this
theorem yO {l:List Nat} (h:(l.map fun c=>[c]).Pairwise fun a b=> ¬b<a):l.Pairwise fun a b=>a<=b:=by
 rw[List.pairwise_map]at h
 refine h.imp fun {a b} z=>?_
 by_cases y:a<=b
 ·exact y
 ·exact absurd (List.cons_lt_cons_iff.mpr (.inl (by omega))) z
end
end L2
namespace L2
open PySem PySem.Spec PyProof.Rows
section
variable {X:Cx}
theorem rH {x:Str} {pos:Pos} (l:List Nat) (hg:Gl X x) (hm: ∃t,X.mg x=some (.str (S l) t)) (hd:(x==("__debug__":Str))=false:=by decide):PE X (.Name x pos) (tC (.str (S l))):=by
 obtain ⟨t,e⟩:=hm
 exact EG hg e ⟨t,rfl⟩ hd
end
end L2
namespace L2
open PySem PySem.Spec PyProof.Rows
section
variable {prog:Program} {w:World} {A:Around} {E:Value->Shared->Prop} {s:Shared}
theorem xu {it tp:Addr} {j:Nat} {xs:Array Value} {y:Value} {Q:Value->Shared->Prop} (hi:s.heap.IsTupleIter it tp j) (ht:s.heap.IsTuple tp xs) (hy:xs[j]? =some y)
  (q: ∀h2,h2.IsTupleIter it tp (j+1)->Heap.SameBut it s.heap h2->Q y { s with heap:=h2 }):wpAny (model prog w) A (Builtin.SmallTypes.nextOf (.ref it)) Q E s:=by
 obtain ⟨oi,eo,ec,ed⟩:=id hi
 obtain ⟨ot,et,_,nt,dt⟩:=ht
 unfold Builtin.SmallTypes.nextOf
 refine wpAny_bind (wpAny_callSpecial?_slot (name:=Str.ofString "__next__") hi.typeIs F.slot_tuple_iterator_next (wpAny_call_entry F.slot_tuple_iterator_next hi.typeIs F.entry_tuple_iterator_next ?_ (F.args_tuple_iterator_next_1 _)))
 refine wpAny_bind (m:=field (.ref it) 0) (wpAny_field eo ed (x:= .ref tp) rfl ?_)
 show wpAny (model prog w) _ (if (Value.ref tp==Value.none)=true then _ else _) _ E s
 rw[if_neg (show ¬(Value.ref tp==Value.none)=true from Bool.false_ne_true)]
 refine wpAny_bind (m:=field (.ref it) 1) (wpAny_field eo ed (x:= .int j 0) rfl ?_)
 refine wpAny_bind (m:=seqItems? (.ref tp)) (wpAny_seqItems et dt ?_)
 simp only[Int.toNat_natCast,hy]
 refine wpAny_bind (wpAny_setField eo ed (by simp) (wpAny_pure ⟨y,rfl,wpAny_pure (q _ ⟨_,Heap.get?_update_self _ eo (Obj.isFreed_of_fields (Obj.data_mapFields ed _)),(Obj.cls_mapFields ..).trans ec,by rw[Obj.data_mapFields ed];simp[rawInt]⟩ (Heap.SameBut.update ..))⟩))
theorem Aq {it tp:Addr} {j:Nat} {xs:Array Value} {Q:Value->Shared->Prop} (hh:A.handled=none) (hi:s.heap.IsTupleIter it tp j) (ht:s.heap.IsTuple tp xs) (hy:xs[j]? =none)
  (q: ∀h2 e,Heap.ExtBut it s.heap h2->(∃o,h2.get? e=some o/\o.cls= .type "StopIteration")->E (.ref e) { s with heap:=h2 }):wpAny (model prog w) A (Builtin.SmallTypes.nextOf (.ref it)) Q E s:=by
 obtain ⟨oi,eo,ec,ed⟩:=id hi
 obtain ⟨ot,et,_,nt,dt⟩:=ht
 unfold Builtin.SmallTypes.nextOf
 refine wpAny_bind (wpAny_callSpecial?_slot (name:=Str.ofString "__next__") hi.typeIs F.slot_tuple_iterator_next (wpAny_call_entry F.slot_tuple_iterator_next hi.typeIs F.entry_tuple_iterator_next ?_ (F.args_tuple_iterator_next_1 _)))
 refine wpAny_bind (m:=field (.ref it) 0) (wpAny_field eo ed (x:= .ref tp) rfl ?_)
 show wpAny (model prog w) _ (if (Value.ref tp==Value.none)=true then _ else _) _ E s
 rw[if_neg (show ¬(Value.ref tp==Value.none)=true from Bool.false_ne_true)]
 refine wpAny_bind (m:=field (.ref it) 1) (wpAny_field eo ed (x:= .int j 0) rfl ?_)
 refine wpAny_bind (m:=seqItems? (.ref tp)) (wpAny_seqItems et dt ?_)
 simp only[Int.toNat_natCast,hy]
 refine wpAny_bind (wpAny_rule (wpAny_bind (wpAny_setField eo ed (by simp) ?_)))
 refine wpAny_bind (m:=newExc (.type "StopIteration") []) ?_
 simp only[newExc,newTuple]
 refine wpAny_bind (wpAny_newObj_type (wpAny_bind (m:=firstArgMember _ _) (wpAny_of_eq (a:=Value.none) (by first | rfl | (simp only[firstArgMember];rfl)) (wpAny_newObj_type ?_ (by size_fits)))) (by size_fits))
 simp only[raiseNew]
 refine wpAny_bind (wpAny_handled ?_);first | rw[show A.in1.handled=none from hh] | rw[hh]
 exact wpAny_bind (wpAny_pure (wpAny_throw (q _ _ (((Heap.SameBut.update ..).extBut.push _).push _) ⟨_,Heap.get?_push_size _ rfl,rfl⟩)))
theorem jg (hh:A.handled=none) (it tp:Addr) (ne:tp≠it) (xs:Array Value):
  Draws prog w A it [it,tp] xs.size (fun i v=>xs[i]? =some v) (fun i h=>h.IsTupleIter it tp i/\h.IsTuple tp xs) where
 live:=fun _ _ z=>let ⟨o,e,_⟩:=z.1;⟨o,e⟩
 frame:=fun _ _ _ z k=>by
  obtain ⟨⟨o,e,r⟩,o2,e2,r2⟩:=z
  exact ⟨⟨o,k it (by simp) o e,r⟩,o2,k tp (by simp) o2 e2,r2⟩
 item:=fun i s Q E hi z q=>xu z.1 z.2 (y:=xs[i]) (by simp[hi]) fun h2 z2 sb=>q _ h2 s.toks (by simp[hi]) ⟨z2,z.2.extBut sb.extBut ne⟩ sb
 done:=fun s Q E z q=>Aq hh z.1 z.2 (by simp) q
theorem vi (l:Addr) (items:Array Value) (n:Nat) (SO:Option Addr) (sl:Array (Option Value)):
  Meets (Builtin.«enumerate.__new__» ⟨[.type "enumerate", .ref l],[]⟩) (fun _ R s=>s.heap.get? l=some { cls:= .type "tuple",dict:=SO,data:= .seq items n,slots:=sl }/\
   R (.ok (.ret (.ref (s.heap.push { cls:= .type "tuple_iterator",data:= .fields #[.ref l, .int 0 0] }).objs.size)))
    { s with heap:=(s.heap.push { cls:= .type "tuple_iterator",data:= .fields #[.ref l, .int 0 0] }).push { cls:= .type "enumerate",data:= .fields #[.none, .bool false, .ref s.heap.objs.size,rawInt 0, .none, .none] } }):=
 .of_wp fun prog w A R s h=>by
  obtain ⟨hp,g,d,tk,os⟩:=s;obtain ⟨hl,q⟩:=h;have xv:=sub_enumerate
  have hT:Heap.IsTuple (Shared.heap ⟨hp,g,d,tk,os⟩) l items:=⟨_,hl,rfl,n,rfl⟩
  wp_walk using AutoSeq1.wpAny_loadPart' hl
  refine wpAny_stack_any fun st=>wpAny_pure ?_
  split
  ·rename_i c _ _ _ _ _
   cases (c==Value.type "enumerate")<;>(wp_walk using AutoSeq1.wpAny_loadPart' hl,wpAny_pyIter_tuple hT;exact ⟨_,rfl,q⟩)
  ·wp_walk using AutoSeq1.wpAny_loadPart' hl,wpAny_pyIter_tuple hT
   exact ⟨_,rfl,q⟩
theorem xw {l:Addr} {items:Array Value} {Q:Value->Shared->Prop} (hL:s.heap.IsTuple l items)
  (h: ∀h',IsEnum h' (s.heap.objs.size+1) s.heap.objs.size 0 .none->h'.IsTupleIter s.heap.objs.size l 0->(∀b o,s.heap.get? b=some o->h'.get? b=some o)->Q (.ref (s.heap.objs.size+1)) { s with heap:=h' }):
  wpAny (model prog w) A (call (.type "enumerate") [.ref l]) Q E s:=by
 obtain ⟨⟨c,SO,dt,sl⟩,hl,hc,n,hd⟩:=hL
 cases (show c= .type "tuple" from hc)
 cases (show dt= .seq items n from hd)
 refine callType_new F.called_enumerate (by decide) (F.typeCall_enumerate_1 _) (F.newCall_enumerate_1 _) (fun ob=>F.args_object_init_2 ob _) F.entry_enumerate_new (vi l items n SO sl) ⟨hl,?_⟩
 have hz:(s.heap.push { cls:= .type "tuple_iterator",data:= .fields #[.ref l, .int 0 0] }).objs.size=s.heap.objs.size+1:=Heap.size_push ..
 show _/\_
 rw[hz]
 have he:IsEnum ((s.heap.push { cls:= .type "tuple_iterator",data:= .fields #[.ref l, .int 0 0] }).push { cls:= .type "enumerate",data:= .fields #[.none, .bool false, .ref s.heap.objs.size,rawInt 0, .none, .none] }) (s.heap.objs.size+1) s.heap.objs.size 0 .none:=by
  have:=Heap.get?_push_size (s.heap.push { cls:= .type "tuple_iterator",data:= .fields #[.ref l, .int 0 0] }) (o:={ cls:= .type "enumerate",data:= .fields #[.none, .bool false, .ref s.heap.objs.size,rawInt 0, .none, .none] }) rfl
  rwa [hz]at this
 exact ⟨⟨_,he,rfl⟩,h _ he ⟨_,Heap.get?_push_of_some _ (Heap.get?_push_size _ rfl),rfl,rfl⟩ fun b o x=>Heap.get?_push_of_some _ (Heap.get?_push_of_some _ x)⟩
end
noncomputable def Cy (K:PySem.W.Frag) (a:Addr):It:=⟨fun i H=> ∃xs x,aW K H a xs/\xs[i]? =some x,fun i H x H'=> ∃T y,(∀xs,aW K H a xs->xs[i]? =some y)/\x= .ref T/\H T=none/\H'=upd H T (.tup [.int i,y]),fun i H=> ∃xs,aW K H a xs/\xs.length=i⟩
noncomputable def Ar (K:PySem.W.Frag) (a:Addr):It:=⟨fun i H=> ∃xs x,aT K H a xs/\xs[i]? =some x,fun i H x H'=> ∃T y,(∀xs,aT K H a xs->xs[i]? =some y)/\x= .ref T/\H T=none/\H'=upd H T (.tup [.int i,y]),fun i H=> ∃xs,aT K H a xs/\xs.length=i⟩
theorem xx {P:Program} {w:World} {K:PySem.W.Frag} {elts:List Expr} {k:Nat} {pos:Pos} (e it a:Addr) (yL:e≠it) (Nb:a≠e) (Nd:a≠it):
  Turn P w K (.Tuple elts k pos) (Cy K a) [e,it] e (fun i h=>(∃old,IsEnum h e it i old)/\h.IsTupleIter it a i) where
 mem:=by simp
 obj:=fun i h st b hb=>by
  obtain ⟨⟨old,he⟩,o,ho,hc,hd⟩:=st
  rcases List.mem_cons.mp hb with z | z
  ·rw[z];exact ⟨_,he,fun v z=>by cases z⟩
  ·rw[List.mem_singleton.mp z];exact ⟨o,ho,fun v z=>by rw[hd]at z;cases z⟩
 keep:=fun i h h' st kp=>by
  obtain ⟨⟨old,he⟩,o,ho,r⟩:=st
  exact ⟨⟨old,kp e (by simp) _ he⟩,o,kp it (by simp) o ho,r⟩
 item:=by
  intro X hP hw hK hc i pins s σ H E I hf st hg
  subst hP hw hK
  obtain ⟨vf,lR⟩:=st
  obtain ⟨xs,x,hq,hx⟩:=hg
  obtain ⟨aI,rv,p,hz⟩:=I.tuple hq
  obtain ⟨u0,hu,ru⟩:=rv.get hx
  have D:=jg (prog:=X.prog) (w:=X.w) (A:=X.A.in1) (I.ok.hd hc) it a Nd aI.toArray
  have W:=WalksT.enumerateD D e yL (by simp;exact ⟨yL,Ne.symm Nb⟩) (by simp)
  have JA:i<aI.toArray.size:=by rw[List.size_toArray];exact (List.getElem?_eq_some_iff.mp hu).1
  refine W.item i s _ _ JA ⟨vf,lR,p⟩ fun T vals h' tk Na hT Cw vg hk=>⟨_,rfl,?_⟩
  refine W.go elts k pos i T { s with heap:=h',toks:=tk } _ _ vg fun h2 vh Ao=>?_
  obtain ⟨tt,x2,JB,rfl⟩:=Na
  have ex:x2=u0:=by
   rw[List.getElem?_toArray]at JB
   exact Option.some.inj (JB.symm.trans hu)
  subst ex
  have BM:T∉[e,it]:=W.apart i T h' vg
  have kR:h2.IsTuple T #[.int i tt,x2]:=by
   obtain ⟨o,ho,r⟩:=Cw
   exact ⟨o,Ao T o BM ho,r⟩
  refine ⟨.ref T,upd H T (.tup [.int i,x]),?_,rfl,⟨T,x,fun ys hy=>by rw[I.lX hy hq];exact hx,rfl,I.bu.fresh hT,rfl⟩,⟨vh.1,vh.2.1⟩,fun b hb=>?_⟩
  ·refine I.je (t':=tk) (h':=h2) (fun b o hb y=>Ao b o hb (hk b o hb y)) hf hT ?_
   exact ⟨by show 2<=sizeLine;decide,[.int i tt,x2], .cons ⟨tt,rfl⟩ (.cons ru .nil),kR⟩
  ·rw[aq (fun z:b=T=>BM (z▸hb))];exact (hf b hb).1
 done:=by
  intro X hP hw hK hc i pins s σ H E I hf st hg
  subst hP hw hK
  obtain ⟨vf,lR⟩:=st
  obtain ⟨xs,hq,hx⟩:=hg
  obtain ⟨aI,rv,p,hz⟩:=I.tuple hq
  have hl:=rv.length
  have D:=jg (prog:=X.prog) (w:=X.w) (A:=X.A.in1) (I.ok.hd hc) it a Nd aI.toArray
  have W:=WalksT.enumerateD D e yL (by simp;exact ⟨yL,Ne.symm Nb⟩) (by simp)
  refine W.done s _ _ ?_ fun h' tk hk=>⟨rfl,I.kQ (t':=tk) hk hf⟩
  have e1:aI.toArray.size=i:=by rw[List.size_toArray];omega
  rw[e1]
  exact ⟨vf,lR,p⟩
 self:=fun _ _ s _ _ st h=>by
  obtain ⟨⟨old,he⟩,_⟩:=st
  exact wpAny_pyIter_enum he h
theorem xy {P:Program} {w:World} {K:PySem.W.Frag} {elts:List Expr} {k:Nat} {pos:Pos} (e it a:Addr) (yL:e≠it) (Nb:a≠e) (Nd:a≠it):
  Turn P w K (.Tuple elts k pos) (Ar K a) [e,it] e (fun i h=>(∃old,IsEnum h e it i old)/\h.IsListIter it a i) where
 mem:=by simp
 obj:=fun i h st b hb=>by
  obtain ⟨⟨old,he⟩,o,ho,hc,hd⟩:=st
  rcases List.mem_cons.mp hb with z | z
  ·rw[z];exact ⟨_,he,fun v z=>by cases z⟩
  ·rw[List.mem_singleton.mp z];exact ⟨o,ho,fun v z=>by rw[hd]at z;cases z⟩
 keep:=fun i h h' st kp=>by
  obtain ⟨⟨old,he⟩,o,ho,r⟩:=st
  exact ⟨⟨old,kp e (by simp) _ he⟩,o,kp it (by simp) o ho,r⟩
 item:=by
  intro X hP hw hK hc i pins s σ H E I hf st hg
  subst hP hw hK
  obtain ⟨vf,lR⟩:=st
  obtain ⟨xs,x,hq,hx⟩:=hg
  obtain ⟨aI,rv,p,hz⟩:=I.list hq
  obtain ⟨u0,hu,ru⟩:=rv.get hx
  have D:=Draws.list (prog:=X.prog) (w:=X.w) (A:=X.A.in1) (I.ok.hd hc) it a Nd aI.toArray
  have W:=WalksT.enumerateD D e yL (by simp;exact ⟨yL,Ne.symm Nb⟩) (by simp)
  have JA:i<aI.toArray.size:=by rw[List.size_toArray];exact (List.getElem?_eq_some_iff.mp hu).1
  refine W.item i s _ _ JA ⟨vf,lR,p.isList⟩ fun T vals h' tk Na hT Cw vg hk=>⟨_,rfl,?_⟩
  refine W.go elts k pos i T { s with heap:=h',toks:=tk } _ _ vg fun h2 vh Ao=>?_
  obtain ⟨tt,x2,JB,rfl⟩:=Na
  have ex:x2=u0:=by
   rw[List.getElem?_toArray]at JB
   exact Option.some.inj (JB.symm.trans hu)
  subst ex
  have BM:T∉[e,it]:=W.apart i T h' vg
  have kR:h2.IsTuple T #[.int i tt,x2]:=by
   obtain ⟨o,ho,r⟩:=Cw
   exact ⟨o,Ao T o BM ho,r⟩
  refine ⟨.ref T,upd H T (.tup [.int i,x]),?_,rfl,⟨T,x,fun ys hy=>by rw[I.n_ hy hq];exact hx,rfl,I.bu.fresh hT,rfl⟩,⟨vh.1,vh.2.1⟩,fun b hb=>?_⟩
  ·refine I.je (t':=tk) (h':=h2) (fun b o hb y=>Ao b o hb (hk b o hb y)) hf hT ?_
   exact ⟨by show 2<=sizeLine;decide,[.int i tt,x2], .cons ⟨tt,rfl⟩ (.cons ru .nil),kR⟩
  ·rw[aq (fun z:b=T=>BM (z▸hb))];exact (hf b hb).1
 done:=by
  intro X hP hw hK hc i pins s σ H E I hf st hg
  subst hP hw hK
  obtain ⟨vf,lR⟩:=st
  obtain ⟨xs,hq,hx⟩:=hg
  obtain ⟨aI,rv,p,hz⟩:=I.list hq
  have hl:=rv.length
  have D:=Draws.list (prog:=X.prog) (w:=X.w) (A:=X.A.in1) (I.ok.hd hc) it a Nd aI.toArray
  have W:=WalksT.enumerateD D e yL (by simp;exact ⟨yL,Ne.symm Nb⟩) (by simp)
  refine W.done s _ _ ?_ fun h' tk hk=>⟨rfl,I.kQ (t':=tk) hk hf⟩
  have e1:aI.toArray.size=i:=by rw[List.size_toArray];omega
  rw[e1]
  exact ⟨vf,lR,p.isList⟩
 self:=fun _ _ s _ _ st h=>by
  obtain ⟨⟨old,he⟩,_⟩:=st
  exact wpAny_pyIter_enum he h
def JC (K:PySem.W.Frag) (ta:TA):TI:=fun σ H R=>ta σ H fun vs H1=> ∃a,vs=[.ref a]/\(∃xs,aW K H1 a xs)/\R (Cy K a) H1
def JD (K:PySem.W.Frag) (ta:TA):TI:=fun σ H R=>ta σ H fun vs H1=> ∃a,vs=[.ref a]/\(∃xs,aT K H1 a xs)/\R (Ar K a) H1
theorem gf {X:Cx} (K:PySem.W.Frag) (hK:X.K=K) {elts:List Expr} {k:Nat} {pos':Pos} {a:Expr} {ta:TA} {p pos:Pos} (hg:Gl X "enumerate") (hm:X.mg "enumerate"=none) (ha:PA X [a] ta) (hs:starEach [a] X.env=[(false,eval a X.env)]:=by rfl):PI X (.Tuple elts k pos') (.Call (.Name "enumerate" p) [a] [] pos) (JC K ta):=by
 subst hK
 intro pins s σ H R I h
 refine Call_ (dE I hg hm boot_enumerate (PyProof.Rows.callWith_type1 (bZ (ha pos pins s σ H _ I h) fun us s1 ⟨vs,H1,I1,r1,q1⟩=>?_) hs rfl))
 obtain ⟨b,rfl,⟨xs,hq⟩,q⟩:=q1
 obtain ⟨u,rfl,ru⟩:=vals1 r1
 cases ru
 obtain ⟨aI,rv,pl,hz⟩:=I1.tuple hq
 obtain ⟨ob,eb,_⟩:=id pl
 have cy:b<s1.heap.objs.size:=Heap.lt_size eb
 refine xw pl fun h' he hit hk=>wpAny_pyIter_enum he ?_
 refine ⟨s1.heap.objs.size+1,[s1.heap.objs.size+1,s1.heap.objs.size],_,_,H1,rfl,I1.kept (t':=s1.toks) hk,xx _ _ b (Nat.succ_ne_self _) (Nat.ne_of_lt (Nat.lt_succ_of_lt cy)) (Nat.ne_of_lt cy),⟨⟨_,he⟩,hit⟩,fun c hb=>?_,q⟩
 have ke:s1.heap.objs.size<=c:=by
  rcases List.mem_cons.mp hb with z | z
  ·rw[z];exact Nat.le_succ _
  ·rw[List.mem_singleton.mp z];exact Nat.le_refl _
 exact I1.kD ke (I1.bu.fresh ke)
theorem kU {X:Cx} (K:PySem.W.Frag) (hK:X.K=K) {elts:List Expr} {k:Nat} {pos':Pos} {a:Expr} {ta:TA} {p pos:Pos} (hg:Gl X "enumerate") (hm:X.mg "enumerate"=none) (ha:PA X [a] ta) (hs:starEach [a] X.env=[(false,eval a X.env)]:=by rfl):PI X (.Tuple elts k pos') (.Call (.Name "enumerate" p) [a] [] pos) (JD K ta):=by
 subst hK
 intro pins s σ H R I h
 refine Call_ (dE I hg hm boot_enumerate (PyProof.Rows.callWith_type1 (bZ (ha pos pins s σ H _ I h) fun us s1 ⟨vs,H1,I1,r1,q1⟩=>?_) hs rfl))
 obtain ⟨b,rfl,⟨xs,hq⟩,q⟩:=q1
 obtain ⟨u,rfl,ru⟩:=vals1 r1
 cases ru
 obtain ⟨aI,rv,pl,hz⟩:=I1.list hq
 obtain ⟨ob,eb,_⟩:=id pl.isList
 have cy:b<s1.heap.objs.size:=Heap.lt_size eb
 refine call_enumerate_list pl.isList fun h' he hit hsz hk=>wpAny_pyIter_enum he ?_
 refine ⟨s1.heap.objs.size+1,[s1.heap.objs.size+1,s1.heap.objs.size],_,_,H1,rfl,I1.kept (t':=s1.toks) hk,xy _ _ b (Nat.succ_ne_self _) (Nat.ne_of_lt (Nat.lt_succ_of_lt cy)) (Nat.ne_of_lt cy),⟨⟨_,he⟩,hit⟩,fun c hb=>?_,q⟩
 have ke:s1.heap.objs.size<=c:=by
  rcases List.mem_cons.mp hb with z | z
  ·rw[z];exact Nat.le_succ _
  ·rw[List.mem_singleton.mp z];exact Nat.le_refl _
 exact I1.kD ke (I1.bu.fresh ke)
theorem eR {K:PySem.W.Frag} {a:Addr} {xs:List V} {g:TG} {tb:TS} {D:Ends} {σ:St} {H:Hp} (Pv:Nat->St->Hp->Prop) (h0:Pv 0 σ H) (hl: ∀i σ H,i<=xs.length->Pv i σ H->aW K H a xs)
  (hs: ∀i x σ H T,xs[i]? =some x->Pv i σ H->H T=none->g (.ref T) σ (upd H T (.tup [.int i,x])) fun σ2 H2=>tb { D with nx:=Pv (i+1),ct:=Pv (i+1),bk:=D.nx } σ2 H2) (hd: ∀σ H,Pv xs.length σ H->D.nx σ H):
  ∃W:Nat->Nat->St->Hp->Prop,(∃m,W 0 m σ H)/\ ∀i m σ H,W i m σ H->
   ((Cy K a).stop i H/\D.nx σ H)\/((Cy K a).go i H/\ ∃N:St->Hp->Prop,(∀σ' H',N σ' H'-> ∃m',m'<m/\W (i+1) m' σ' H')/\ ∀x H',(Cy K a).yD i H x H'->g x σ H' fun σ2 H2=>tb { D with nx:=N,ct:=N,bk:=D.nx } σ2 H2):=by
 refine ⟨fun i m σ H=>m=xs.length - i/\i<=xs.length/\Pv i σ H,⟨xs.length,by simp,Nat.zero_le _,h0⟩,?_⟩
 rintro i m σ H ⟨rfl,hi,p⟩
 have hq:=hl i σ H hi p
 by_cases cy:i<xs.length
 ·refine .inr ⟨⟨xs,xs[i],hq,by simp[cy]⟩,Pv (i+1),fun σ' H' p'=>⟨xs.length - (i+1),by omega,rfl,cy,p'⟩,fun x H' y=>?_⟩
  obtain ⟨T,z,hz,rfl,hn,rfl⟩:=y
  exact hs i z σ _ T (hz xs hq) p hn
 ·have e:i=xs.length:=by omega
  subst e
  exact .inl ⟨⟨xs,hq,rfl⟩,hd σ H p⟩
theorem mj {K:PySem.W.Frag} {a:Addr} {xs:List V} {g:TG} {tb:TS} {D:Ends} {σ:St} {H:Hp} (Pv:Nat->St->Hp->Prop) (h0:Pv 0 σ H) (hl: ∀i σ H,i<=xs.length->Pv i σ H->aT K H a xs)
  (hs: ∀i x σ H T,xs[i]? =some x->Pv i σ H->H T=none->g (.ref T) σ (upd H T (.tup [.int i,x])) fun σ2 H2=>tb { D with nx:=Pv (i+1),ct:=Pv (i+1),bk:=D.nx } σ2 H2) (hd: ∀σ H,Pv xs.length σ H->D.nx σ H):
  ∃W:Nat->Nat->St->Hp->Prop,(∃m,W 0 m σ H)/\ ∀i m σ H,W i m σ H->
   ((Ar K a).stop i H/\D.nx σ H)\/((Ar K a).go i H/\ ∃N:St->Hp->Prop,(∀σ' H',N σ' H'-> ∃m',m'<m/\W (i+1) m' σ' H')/\ ∀x H',(Ar K a).yD i H x H'->g x σ H' fun σ2 H2=>tb { D with nx:=N,ct:=N,bk:=D.nx } σ2 H2):=by
 refine ⟨fun i m σ H=>m=xs.length - i/\i<=xs.length/\Pv i σ H,⟨xs.length,by simp,Nat.zero_le _,h0⟩,?_⟩
 rintro i m σ H ⟨rfl,hi,p⟩
 have hq:=hl i σ H hi p
 by_cases cy:i<xs.length
 ·refine .inr ⟨⟨xs,xs[i],hq,by simp[cy]⟩,Pv (i+1),fun σ' H' p'=>⟨xs.length - (i+1),by omega,rfl,cy,p'⟩,fun x H' y=>?_⟩
  obtain ⟨T,z,hz,rfl,hn,rfl⟩:=y
  exact hs i z σ _ T (hz xs hq) p hn
 ·have e:i=xs.length:=by omega
  subst e
  exact .inl ⟨⟨xs,hq,rfl⟩,hd σ H p⟩
theorem As {l:List Nat} {σc:St} {g:TG} {tc:TT} {te:TE} {Q:VK} {H1:Hp} (Pv:Nat->List V->Hp->Prop) (hn:l.length<sizeLine) (h0:Pv 0 [] H1)
  (hs: ∀(i c:Nat) (acc:List V) (H:Hp) (T:Addr) (Nx:List V->Hp->Prop),l[i]? =some c->acc.length<=i->Pv i acc H->H T=none->(∀bI H',bI.length<=i+1->Pv (i+1) bI H'->Nx bI H')->
   g (.ref T) σc (upd H T (.tup [.int i, .str (S [c])])) fun σ2 H2=>Wk σc σ2/\tc σ2 H2 fun b H3=>if b=true then te σ2 H3 fun v H4=>Nx (acc++[v]) H4 else Nx acc H3)
  (hd: ∀acc H D,acc.length<=l.length->Pv l.length acc H->H D=none->Q (.ref D) (upd H D (.lst acc))):kM (LO l) σc g tc te Q H1:=by
 refine ⟨fun i m acc H=>m=l.length - i/\i<=l.length/\acc.length<=i/\Pv i acc H,⟨l.length,by simp,Nat.zero_le _,Nat.le_refl _,h0⟩,?_⟩
 rintro i m acc H ⟨rfl,hi,hl,p⟩
 refine ⟨by omega,?_⟩
 by_cases cy:i<l.length
 ·refine .inr ⟨cy,fun x H' y=>?_⟩
  obtain ⟨T,c,hc,rfl,hT,rfl⟩:=y
  exact hs i c acc _ T (fun bI H'=> ∃m',m'<l.length - i/\(m'=l.length - (i+1)/\i+1<=l.length/\bI.length<=i+1/\Pv (i+1) bI H')) hc hl p hT fun bI H' h1 h2=>⟨l.length - (i+1),by omega,rfl,cy,h1,h2⟩
 ·have e:i=l.length:=by omega
  subst e
  exact .inl ⟨Nat.le_refl _,fun D hD=>hd acc H D hl p hD⟩
section
variable {X:Cx}
def Cz (K:PySem.W.Frag):List V->Hp->VK->Prop:=fun xs H Q=>(∃l:List Nat,xs=[.str (S l)]/\l.length<=sizeLine/\ ∀p,H p=none->Q (.ref p) (upd H p (.lst (cq l))))\/yK K xs H Q
theorem tS (K:PySem.W.Frag) (h:X.K=K) (hc:X.calm=true):dH X (.type "list") (Cz K):=by
 intro pins s σ H xs us Q I r q
 rcases q with q | q
 ·exact kc hc pins s σ H xs us Q I r q
 ·exact cQ K h pins s σ H xs us Q I r q
end
end L2
namespace L2
open PySem PySem.Spec PyProof.Rows
section
variable {X:Cx}
def JE (K:PySem.W.Frag):List V->Hp->VK->Prop:=fun xs H Q=> ∃p ys,xs=[.ref p]/\((aT K H p ys/\ ∀l,H l=none->Q (.ref l) (upd H l (.tup ys)))\/(aW K H p ys/\Q (.ref p) H))
theorem bA (K:PySem.W.Frag) (h:X.K=K):dH X (.type "tuple") (JE K):=by subst h;exact qB
theorem CA (K:PySem.W.Frag) (h:X.K=K):gD X (binaryOp .Add) (GK K):=by subst h;exact EN
end
end L2
namespace L2
open PySem PySem.Spec PyProof.Rows
theorem kW {K:PySem.W.Frag} {a:Addr} {xs:List V} {σc:St} {g:TG} {tc:TT} {te:TE} {Q:VK} {H1:Hp} (Pv:Nat->List V->Hp->Prop) (hn:xs.length<sizeLine) (hl: ∀i acc H,Pv i acc H->aW K H a xs) (h0:Pv 0 [] H1)
  (hs: ∀(i:Nat) (x:V) (acc:List V) (H:Hp) (Nx:List V->Hp->Prop),i<xs.length->xs[i]? =some x->acc.length<=i->Pv i acc H->(∀bI H',bI.length<=i+1->Pv (i+1) bI H'->Nx bI H')->
   g x σc H fun σ2 H2=>Wk σc σ2/\tc σ2 H2 fun b H3=>if b=true then te σ2 H3 fun v H4=>Nx (acc++[v]) H4 else Nx acc H3)
  (hd: ∀acc H D,acc.length<=xs.length->Pv xs.length acc H->H D=none->Q (.ref D) (upd H D (.lst acc))):kM (RY K a) σc g tc te Q H1:=
 nO (xs:=fun i x=>xs[i]? =some x) Pv hn (fun i acc H h p=>⟨xs,xs[i],hl i acc H p,by simp[h]⟩) (fun acc H p=>⟨xs,hl _ acc H p,Nat.le_refl _⟩) (fun i acc H x H' h p y=>⟨y.1,y.2 xs (hl i acc H p)⟩) h0 hs hd
theorem yP (l a b:Nat):EU (.str (S [l])) [.str (S [a]), .str (S [b])]=(decide (l=a)||decide (l=b)):=by
 have key: ∀c:Nat,Ef (.str (S [c])) (.str (S [l]))=decide (l=c):=fun c=>by
  show decide (S [c]=S [l])=_
  refine decide_eq_decide.mpr ⟨fun z=>?_,fun z=>by rw[z]⟩
  have:=congrArg (fun x:Str=>x.cps.toList) z
  simpa [S,eq_comm]using this
 unfold EU
 rw[List.any_cons,List.any_cons,List.any_nil,key,key,Bool.or_false]
theorem E_ (e:Nat) (l:List Nat):EU (.str (S [e])) (cq l)=decide (e∈l):=by
 have key: ∀c:Nat,Ef (.str (S [c])) (.str (S [e]))=decide (e=c):=fun c=>by
  show decide (S [c]=S [e])=_
  refine decide_eq_decide.mpr ⟨fun z=>?_,fun z=>by rw[z]⟩
  have:=congrArg (fun x:Str=>x.cps.toList) z
  simpa [S,eq_comm]using this
 unfold EU cq
 induction l with
 | nil=>rfl
 | cons c l ih=>
  rw[List.map_cons,List.any_cons,ih,key]
  by_cases z:e=c<;>simp[z]
theorem CB (l:List Nat):(cq l).all kG=true:=by
 rw[List.all_eq_true];intro v hv
 obtain ⟨d,_,rfl⟩:=List.mem_map.mp hv
 rfl
def aJ (H H':Hp):Prop:= ∀c xs,H c=some (.tup xs)->H' c=some (.tup xs)
theorem aJ.trans {H H1 H2:Hp} (a:aJ H H1) (b:aJ H1 H2):aJ H H2:=fun c xs h=>b c xs (a c xs h)
theorem aJ.of {H H':Hp} (s:ai H H'):aJ H H':=fun c xs h=>s c _ h
theorem aJ.fL {H:Hp} {p:Addr} {ys:List V} {o:HO} (h:H p=some (.lst ys)):aJ H (upd H p o):=fun c xs e=>by
 rw[aq (fun z=>by rw[z,h]at e;cases e)];exact e
theorem aJ.eS {H:Hp} {p:Addr} {o:HO} (h:H p=none):aJ H (upd H p o):=fun c xs e=>by
 rw[aq (fun z=>by rw[z,h]at e;cases e)];exact e
end L2
namespace L2
open PySem PySem.Spec PyProof.Rows
section
variable {prog:Program} {w:World} {A:Around} {E:Value->Shared->Prop} {s:Shared}
def kf (h:Heap) (v:Value) (n:Int×Int):Prop:= ∃x ox t1 t2 m,v= .ref x/\h.get? x=some ox/\ox.cls= .type "tuple"/\ox.data= .seq #[.int n.1 t1, .int n.2 t2] m
noncomputable def bX (x y:Int×Int):Bool:=decide (x.1<y.1)||(decide (x.1=y.1)&&decide (x.2<y.2))
theorem kf.keep {h h':Heap} {v:Value} {n:Int×Int} (p:kf h v n) (k: ∀b o,h.get? b=some o->h'.get? b=some o):kf h' v n:=by
 obtain ⟨x,ox,t1,t2,m,e1,e2,r⟩:=p
 exact ⟨x,ox,t1,t2,m,e1,k _ _ e2,r⟩
theorem Fb {u v:Value} {a c:Int×Int} {Q:Bool->Shared->Prop} (hx:kf s.heap u a) (hy:kf s.heap v c) (q:Q (bX a c) s):wpAny (model prog w) A (keyLt' (tuples' true) u v) Q E s:=by
 obtain ⟨x,ox,t1,t2,n,rfl,gx,_,dx⟩:=hx
 obtain ⟨y,oy,t3,t4,k,rfl,gy,_,dy⟩:=hy
 refine PySem.W.kat_lt gx dx gy dy ?_
 refine PySem.W.kat_cons (wpAny_eqBool_int ?_)
 unfold bX at q
 by_cases h:a.1=c.1
 ·rw[show (a.1==c.1)=true by simp[h]]
  refine PySem.W.kat_yes (PySem.W.kat_cons (wpAny_eqBool_int ?_))
  by_cases h2:a.2=c.2
  ·rw[show (a.2==c.2)=true by simp[h2]]
   refine PySem.W.kat_yes (PySem.W.kat_nil ?_)
   simpa [h,h2]using q
  ·rw[show (a.2==c.2)=false by simp[h2]]
   refine PySem.W.kat_no (PySem.W.kat_one _ _ (lt_int ?_))
   show Q (decide (a.2<c.2)) s
   simpa [h]using q
 ·rw[show (a.1==c.1)=false by simp[h]]
  refine PySem.W.kat_no ?_
  show wpAny (model prog w) A (keyLt' oneType' _ _) Q _ s
  refine PySem.W.kat_lt_int ?_
  simpa [h]using q
def bL (h:Heap):List Value->List (Int×Int)->Prop
 | [],[]=>True
 | v::vs,n::ns=>kf h v n/\bL h vs ns
 | _,_=>False
theorem bL.keep {h h':Heap} (k: ∀b o,h.get? b=some o->h'.get? b=some o): ∀{vs:List Value} {ns:List (Int×Int)},bL h vs ns->bL h' vs ns
 | [],[],_=>trivial
 | _::_,_::_,⟨a,b⟩=>⟨a.keep k,bL.keep k b⟩
theorem bL.get {h:Heap}: ∀{vs:List Value} {ns:List (Int×Int)} {i:Nat},bL h vs ns->(hi:i<vs.length)-> ∃n,ns[i]? =some n/\kf h (vs.getD i Value.none) n
 | [],[],i,_,hi=>absurd hi (Nat.not_lt_zero _)
 | v::vs,n::ns,0,⟨a,_⟩,_=>⟨n,rfl,a⟩
 | v::vs,n::ns,i+1,⟨_,b⟩,hi=>by
  obtain ⟨m,e,p⟩:=bL.get (i:=i) b (Nat.lt_of_succ_lt_succ hi)
  exact ⟨m,e,p⟩
theorem bL.lV {h:Heap}: ∀{vs:List Value} {ns:List (Int×Int)},bL h vs ns-> ∃fs,PySem.W.KatTups h vs fs/\fs.length=vs.length/\ ∀v∈fs, ∃i t,v=Value.int i t
 | [],[],_=>⟨[],trivial,rfl,fun _ h=>absurd h List.not_mem_nil⟩
 | v::vs,n::ns,⟨⟨x,ox,t1,t2,m,e1,e2,e3,e4⟩,b⟩=>by
  obtain ⟨fs,k1,k2,k3⟩:=bL.lV b
  refine ⟨.int n.1 t1::fs,⟨⟨x,ox,_,m,e1,e2,e3,e4,rfl⟩,k1⟩,by simp[k2],fun u hu=>?_⟩
  rcases List.mem_cons.mp hu with z | z
  ·exact ⟨_,_,z⟩
  ·exact k3 u z
theorem yQ: ∀l:List Value,(l.zip l).map (fun x=>x.2)=l
 | []=>rfl
 | v::l=>by rw[List.zip_cons_cons,List.map_cons,yQ l]
theorem bL.ne {h:Heap} {vs:List Value} {ns:List (Int×Int)} (p:bL h vs ns) {a:Addr} (ha:h.objs.size<=a): ∀v∈vs,v≠ .ref a:=fun v hv z=>by
 obtain ⟨i,hi,e⟩:=List.mem_iff_getElem.mp hv
 obtain ⟨n,_,x,ox,t1,t2,m,e1,e2,_⟩:=p.get (i:=i) hi
 have e3:vs.getD i Value.none=v:=by rw[List.getD_eq_getElem?_getD,List.getElem?_eq_getElem hi,e];rfl
 rw[e3,z]at e1
 cases e1
 exact absurd (Nat.lt_of_lt_of_le (Heap.lt_size e2) ha) (Nat.lt_irrefl _)
end
section
variable {X:Cx}
def tT (K:PySem.W.Frag) (H:Hp):List V->List (Int×Int)->Prop
 | [],[]=>True
 | v::vs,n::ns=>(∃t,v= .ref t/\aW K H t [.int n.1, .int n.2])/\tT K H vs ns
 | _,_=>False
theorem tT.at {pins:List (Addr×Obj)} {σ:St} {H:Hp} {s:Shared} (I:Inv X pins σ H s): ∀{vs:List V} {ns:List (Int×Int)} {us:List Value},tT X.K H vs ns->Vals vs us->bL s.heap us ns
 | [],[],_,_, .nil=>trivial
 | v::vs,n::ns,_,⟨⟨t,e,h⟩,b⟩, .cons r rs=>by
  subst e
  cases r
  obtain ⟨aI,rv,p,_⟩:=I.tuple h
  obtain ⟨u1,u2,e1,⟨t1,r1⟩,⟨t2,r2⟩⟩:=vals2 rv
  subst e1 r1 r2
  obtain ⟨o,ho,hc,m,hd⟩:=p
  exact ⟨⟨t,o,t1,t2,m,rfl,ho,hc,hd⟩,tT.at I b rs⟩
end
end L2
namespace L2
open PySem PySem.Spec PyProof.Rows
section
variable {prog:Program} {w:World} {A:Around} {E:Value->Shared->Prop} {s:Shared}
end
section
variable {X:Cx}
end
end L2
namespace HT
open PySem PySem.Spec PyProof.Rows
section
variable {prog:Program} {w:World} {A:Around} {E:Value->Shared->Prop} {s:Shared}
end
end HT
namespace L2
open PySem PySem.Spec PyProof.Rows
section
variable {X:Cx} {e st:Expr} {te:TE} {ts:TO} {pos p2:Pos}
end
end L2
namespace L2
open PySem PySem.Spec PyProof.Rows
section
variable {κ:Type} [DecidableEq κ]
noncomputable def cV (kvs:List (κ×V)) (k:κ):Option V:=(kvs.find? fun kv=>decide (kv.1=k)).map (·.2)
noncomputable def putK (kvs:List (κ×V)) (k:κ) (v:V):List (κ×V):=
 if (kvs.any fun kv=>decide (kv.1=k))=true then kvs.map (fun kv=>if kv.1=k then (kv.1,v) else kv) else kvs++[(k,v)]
theorem cC {p:κ×V} {r:List (κ×V)} {k:κ} (e:p.1=k):cV (p::r) k=some p.2:=by simp[cV,List.find?_cons,e]
theorem b_ {p:κ×V} {r:List (κ×V)} {k:κ} (e: ¬p.1=k):cV (p::r) k=cV r k:=by simp[cV,List.find?_cons,e]
theorem g6 (k:κ): ∀kvs:List (κ×V),(kvs.any fun kv=>decide (kv.1=k))=(cV kvs k).isSome
 | []=>rfl
 | p::r=>by
  rw[List.any_cons]
  by_cases e:p.1=k
  ·simp only[cC e,decide_eq_true e,Bool.true_or,Option.isSome_some]
  ·rw[b_ e,decide_eq_false e,Bool.false_or];exact g6 k r
theorem vj (k j:κ) (y:V): ∀kvs:List (κ×V),cV (kvs.map fun kv=>if kv.1=k then (kv.1,y) else kv) j=(cV kvs j).map fun x=>if j=k then y else x
 | []=>rfl
 | p::r=>by
  have ih:=vj k j y r
  rw[List.map_cons]
  by_cases h:p.1=k
  ·rw[if_pos h]
   by_cases e:p.1=j
   ·rw[cC (p:=(p.1,y)) e,cC e,Option.map_some,if_pos (e.symm.trans h)]
   ·rw[b_ (p:=(p.1,y)) e,b_ e,ih]
  ·rw[if_neg h]
   by_cases e:p.1=j
   ·rw[cC (p:=p) e,cC e,Option.map_some,if_neg (fun z=>h (e.trans z))]
   ·rw[b_ (p:=p) e,b_ e,ih]
theorem rJ (k j:κ) (y:V): ∀kvs:List (κ×V),cV kvs k=none->cV (kvs++[(k,y)]) j=if j=k then some y else cV kvs j
 | [],_=>by
  by_cases e:k=j
  ·rw[if_pos e.symm];exact cC (p:=(k,y)) e
  ·rw[if_neg (fun z=>e z.symm)];exact b_ (p:=(k,y)) e
 | p::r,hn=>by
  rw[List.cons_append]
  have hk: ¬p.1=k:=fun z=>by rw[cC z]at hn;cases hn
  rw[b_ hk]at hn
  have ih:=rJ k j y r hn
  by_cases e:p.1=j
  ·rw[cC e,cC e,if_neg (fun z=>hk (e.trans z))]
  ·rw[b_ e,b_ e,ih]
theorem CC (kvs:List (κ×V)) (k j:κ) (y:V):cV (putK kvs k y) j=if j=k then some y else cV kvs j:=by
 unfold putK
 by_cases a:(kvs.any fun kv=>decide (kv.1=k))=true
 ·rw[if_pos a,vj]
  rw[g6]at a
  by_cases e:j=k
  ·obtain ⟨x,hx⟩:=Option.isSome_iff_exists.mp a
   rw[if_pos e,e,hx,Option.map_some,if_pos rfl]
  ·rw[if_neg e]
   cases cV kvs j with
   | none=>rfl
   | some x=>rw[Option.map_some,if_neg e]
 ·rw[if_neg a]
  refine rJ k j y kvs ?_
  rw[g6]at a
  cases q:cV kvs k with
  | none=>rfl
  | some x=>rw[q]at a;exact (a rfl).elim
theorem jh (kvs:List (κ×V)) (k:κ) (v:V):(putK kvs k v).length<=kvs.length+1:=by
 unfold putK
 split
 ·rw[List.length_map];omega
 ·rw[List.length_append,List.length_cons,List.length_nil];omega
theorem vk {kvs:List (κ×V)} {k:κ} (v:V) (h:cV kvs k=none):putK kvs k v=kvs++[(k,v)]:=by
 unfold putK
 rw[g6,h]
 exact if_neg (by decide)
theorem qw.ml {o:Option V} {u:Option Value} (r:qw o u):o.isSome=u.isSome:=by
 cases o with
 | none=>cases u with
  | none=>rfl
  | some _=>exact (show False from r).elim
 | some _=>cases u with
  | none=>exact (show False from r).elim
  | some _=>rfl
theorem KV.val {kvs:List (κ×V)} {vs:List (κ×Value)} (r:KV kvs vs) (k:κ):qw (cV kvs k) (valueAt vs k):=by
 unfold KV at r
 induction r with
 | nil=>exact True.intro
 | @cons p q ps qs h t ih=>
  obtain ⟨h1,h2⟩:=h
  by_cases e:p.1=k
  ·have e':q.1=k:=h1.symm.trans e
   have b:valueAt (q::qs) k=some q.2:=by simp[valueAt,List.find?_cons,e']
   rw[cC e,b];exact h2
  ·have e': ¬q.1=k:=fun z=>e (h1.trans z)
   have b:valueAt (q::qs) k=valueAt qs k:=by simp[valueAt,List.find?_cons,e']
   rw[b_ e,b];exact ih
theorem KV.any {kvs:List (κ×V)} {vs:List (κ×Value)} (r:KV kvs vs) (k:κ):(kvs.any fun kv=>decide (kv.1=k))=vs.any fun kv=>decide (kv.1=k):=by
 unfold KV at r
 induction r with
 | nil=>rfl
 | cons h t ih=>rw[List.any_cons,List.any_cons,ih,h.1]
theorem KV.JF {kvs:List (κ×V)} {vs:List (κ×Value)} (r:KV kvs vs) (k:κ) {y:V} {u:Value} (ry:RelV y u):
  KV (kvs.map fun kv=>if kv.1=k then (kv.1,y) else kv) (vs.map fun kv=>if kv.1=k then (kv.1,u) else kv):=by
 unfold KV at r ⊢
 induction r with
 | nil=>exact .nil
 | @cons p q ps qs h t ih=>
  rw[List.map_cons,List.map_cons]
  refine .cons ?_ ih
  obtain ⟨h1,h2⟩:=h
  by_cases e:p.1=k
  ·rw[if_pos e,if_pos (h1.symm.trans e)];exact ⟨h1,ry⟩
  ·rw[if_neg e,if_neg (fun z=>e (h1.trans z))];exact ⟨h1,h2⟩
theorem KV.put {kvs:List (κ×V)} {vs:List (κ×Value)} (r:KV kvs vs) (k:κ) {y:V} {u:Value} (ry:RelV y u):KV (putK kvs k y) (stored vs k u):=by
 unfold putK stored
 rw[r.any k]
 by_cases e:(vs.any fun kv=>decide (kv.1=k))=true
 ·rw[if_pos e,if_pos e];exact r.JF k ry
 ·rw[if_neg e,if_neg e];exact Paired.snoc r ⟨rfl,ry⟩
theorem KV.keys {kvs:List (κ×V)} {vs:List (κ×Value)} (r:KV kvs vs):kvs.map (·.1)=vs.map (·.1):=by
 unfold KV at r
 induction r with
 | nil=>rfl
 | cons h t ih=>rw[List.map_cons,List.map_cons,ih,h.1]
theorem KV.length {kvs:List (κ×V)} {vs:List (κ×Value)} (r:KV kvs vs):kvs.length=vs.length:=Paired.length r
end
theorem yR {P:Program} {w:World} {k:Key} {u:Value} (r:RelV (kV k) u):(bT P w).is k u=true:=by
 cases k with
 | inl i=>obtain ⟨t,e⟩:=(show ∃t,u=Value.int i t from r);subst e;exact uS P w i t
 | inr x=>obtain ⟨t,e⟩:=(show ∃t,u=Value.str x t from r);subst e;exact uT P w x t
theorem rK {P:Program} {w:World}: ∀{ks:List Key} {us:List Value},Vals (ks.map kV) us->ItemsAre (bT P w) ks us
 | [],_,r=>by rw[List.map_nil]at r;cases r;exact .nil
 | k::ks,_,r=>by
  rw[List.map_cons]at r
  cases r with
  | cons h t=>exact .cons (yR h) (rK t)
abbrev KT (H:Hp):List (List Key×V)->List (List Key×Addr×Value)->Prop:=Paired fun p q=>p.1=q.1/\H q.2.1=some (.tup (p.1.map kV))/\RelV p.2 q.2.2
theorem KT.val {H:Hp} {kvs:List (List Key×V)} {xs:List (List Key×Addr×Value)} (r:KT H kvs xs) (k:List Key):qw (cV kvs k) ((atKey xs k).map (·.2)):=by
 induction r with
 | nil=>exact True.intro
 | @cons p q ps qs h t ih=>
  obtain ⟨h1,_,h2⟩:=h
  by_cases e:p.1=k
  ·have e':q.1=k:=h1.symm.trans e
   have b:atKey (q::qs) k=some q.2:=by simp[atKey,List.find?_cons,e']
   rw[cC e,b];exact h2
  ·have e': ¬q.1=k:=fun z=>e (h1.trans z)
   have b:atKey (q::qs) k=atKey qs k:=by simp[atKey,List.find?_cons,e']
   rw[b_ e,b];exact ih
theorem KT.JF {H:Hp} {kvs:List (List Key×V)} {xs:List (List Key×Addr×Value)} (r:KT H kvs xs) (k:List Key) {y:V} {u:Value} (ry:RelV y u):
  KT H (kvs.map fun kv=>if kv.1=k then (kv.1,y) else kv) (xs.map (putAt k u)):=by
 induction r with
 | nil=>exact .nil
 | @cons p q ps qs h t ih=>
  rw[List.map_cons,List.map_cons]
  refine .cons ?_ ih
  obtain ⟨h1,h2,h3⟩:=h
  unfold putAt
  by_cases e:p.1=k
  ·rw[if_pos e,if_pos (h1.symm.trans e)];exact ⟨h1,h2,ry⟩
  ·rw[if_neg e,if_neg (fun z=>e (h1.trans z))];exact ⟨h1,h2,h3⟩
theorem KT.put {H:Hp} {kvs:List (List Key×V)} {xs:List (List Key×Addr×Value)} (r:KT H kvs xs) (k:List Key) {b:Addr} {y:V} {u:Value} (hb:H b=some (.tup (k.map kV))) (ry:RelV y u):
  KT H (putK kvs k y) (storedH xs k b u):=by
 have e:(kvs.any fun kv=>decide (kv.1=k))=(atKey xs k).isSome:=by
  rw[g6,(r.val k).ml,Option.isSome_map]
 unfold putK storedH
 rw[e]
 by_cases q:(atKey xs k).isSome=true
 ·rw[if_pos q,if_pos q];exact r.JF k ry
 ·rw[if_neg q,if_neg q];exact Paired.snoc r ⟨rfl,hb,ry⟩
theorem KT.keeps {H H':Hp} {kvs:List (List Key×V)} {xs:List (List Key×Addr×Value)} (r:KT H kvs xs) (ht: ∀b ys,H b=some (.tup ys)->H' b=some (.tup ys)):KT H' kvs xs:=
 Paired.Iu r fun _ _ z=>⟨z.1,ht _ _ z.2.1,z.2.2⟩
section
variable {P:Program} {w:World} {H:Hp} {h:Heap} {a:Addr}
theorem GV {u:HO} (ok:kz P w H h) (e:Rd H a u):cW P w H h a u:=e.ok ok
theorem yS {kvs:List (Key×V)} (ok:kz P w H h) (e:Rd H a (.dK kvs)):kvs.length<=sizeLine/\(a==sysModules)=false/\ ∃vs,KV kvs vs/\h.DictOf (bT P w) a vs:=
 show cW P w H h a (.dK kvs) from GV ok e
theorem GW {kvs:List (Key×V)} (ok:kz P w H h) (e:H a=some (.dK kvs)):kvs.length<=sizeLine/\(a==sysModules)=false/\ ∃vs,KV kvs vs/\h.DictOf (bT P w) a vs:=yS ok (.inl e)
theorem tV {ks:List Key} (ok:kz P w H h) (e:H a=some (.tup (ks.map kV))):(tupleKind (bT P w)).is h ks a:=by
 obtain ⟨_,aI,r,o,h1,h2,n,h3⟩:=(show cW P w H h a (.tup (ks.map kV)) from ok a _ e)
 exact ⟨o,aI.toArray,n,h1,h2,h3,by simpa using rK r⟩
theorem yT {kvs:List (List Key×V)} (ok:kz P w H h) (e:Rd H a (.dT kvs)):kvs.length<=sizeLine/\(a==sysModules)=false/\
  ∃xs,KT H kvs xs/\h.DictOfH (tupleKind (bT P w)) a xs:=by
 obtain ⟨z,y,xs,r,o,es,ep,h1,h2,h3,h4,h5⟩:=(show cW P w H h a (.dT kvs) from GV ok e)
 refine ⟨z,y,xs,r,o,es,ep,h1,h2,h3,h4,fun x hx=>?_,h5⟩
 have all: ∀{l:List (List Key×V)} {m:List (List Key×Addr×Value)},KT H l m-> ∀x∈m,(tupleKind (bT P w)).is h x.1 x.2.1:=by
  intro l m q
  induction q with
  | nil=>intro x hx;exact nomatch hx
  | @cons p q ps qs hq t ih=>
   intro x hx
   rcases List.mem_cons.mp hx with e | hx
   ·subst e
    exact tV ok (by rw[<-hq.1];exact hq.2.1)
   ·exact ih x hx
 exact all r x hx
theorem Nf {kvs:List (List Key×V)} (ok:kz P w H h) (e:H a=some (.dT kvs)):kvs.length<=sizeLine/\(a==sysModules)=false/\
  ∃xs,KT H kvs xs/\h.DictOfH (tupleKind (bT P w)) a xs:=yT ok (.inl e)
end
def gG (H:Hp) (a:Addr) (y:V) (r:Option V):Prop:=
 (∃kvs k,Rd H a (.dK kvs)/\y=kV k/\r=cV kvs k)\/ ∃kvs k b,Rd H a (.dT kvs)/\y= .ref b/\H b=some (.tup (k.map kV))/\r=cV kvs k
def qF (H:Hp) (a:Addr) (y v:V) (H':Hp):Prop:=
 (∃kvs k,H a=some (.dK kvs)/\y=kV k/\kvs.length<sizeLine/\H'=upd H a (.dK (putK kvs k v)))\/
 ∃kvs k b,H a=some (.dT kvs)/\y= .ref b/\H b=some (.tup (k.map kV))/\kvs.length<sizeLine/\H'=upd H a (.dT (putK kvs k v))
theorem gG.k {H:Hp} {a:Addr} {kvs:List (Key×V)} {k:Key} (e:H a=some (.dK kvs)):gG H a (kV k) (cV kvs k):= .inl ⟨kvs,k, .inl e,rfl,rfl⟩
theorem gG.t {H:Hp} {a b:Addr} {kvs:List (List Key×V)} {k:List Key} (e:H a=some (.dT kvs)) (eb:H b=some (.tup (k.map kV))):gG H a (.ref b) (cV kvs k):= .inr ⟨kvs,k,b, .inl e,rfl,eb,rfl⟩
theorem qF.k {H:Hp} {a:Addr} {kvs:List (Key×V)} {k:Key} {v:V} (e:H a=some (.dK kvs)) (hl:kvs.length<sizeLine):qF H a (kV k) v (upd H a (.dK (putK kvs k v))):= .inl ⟨kvs,k,e,rfl,hl,rfl⟩
theorem qF.t {H:Hp} {a b:Addr} {kvs:List (List Key×V)} {k:List Key} {v:V} (e:H a=some (.dT kvs)) (eb:H b=some (.tup (k.map kV))) (hl:kvs.length<sizeLine):
  qF H a (.ref b) v (upd H a (.dT (putK kvs k v))):= .inr ⟨kvs,k,b,e,rfl,eb,hl,rfl⟩
section
variable {X:Cx} {pins:List (Addr×Obj)} {σ:St} {H:Hp} {s:Shared} {a:Addr} {y v:V} {u r:Value} {o:Option V} {A:Around} {E:Value->Shared->Prop}
theorem Inv.big (I:Inv X pins σ H s):sysModules<s.heap.objs.size:=by
 have h:mainGlobals<s.heap.objs.size:=(I.mod.glob.keeps I.bk).lt
 exact Nat.lt_trans (by decide) h
theorem Au {Q:Value->Shared->Prop} (hu:A.units+1<cLine) (I:Inv X pins σ H s) (g:gG H a y (some v)) (ry:RelV y u) (h: ∀w' s',Inv X pins σ H s'->RelV v w'->Q w' s'):
  wpAny (model X.prog X.w) A (getItem (.ref a) u) Q E s:=by
 rcases g with ⟨kvs,k,e,ey,l⟩ | ⟨kvs,k,b,e,ey,eb,l⟩
 ·subst ey
  obtain ⟨z,hd,vs,rel,dd⟩:=yS I.bu e
  obtain ⟨w',hw,zY⟩:=qw.some_of (v:=v) (o:=valueAt vs k) (by rw[l];exact rel.val k)
  exact wpAny_getItem_of (yR ry) dd.mapOf hw (h w' _ (I.tok _) zY)
 ·subst ey
  cases (show u=Value.ref b from ry)
  obtain ⟨z,hd,xs,rel,dd⟩:=yT I.bu e
  obtain ⟨w',hw,zY⟩:=qw.some_of (v:=v) (o:=(atKey xs k).map (·.2)) (by rw[l];exact rel.val k)
  obtain ⟨p,hp,iY⟩:=Option.map_eq_some_iff.mp hw
  refine wpAny_getItem_heap (tupleKind_room_in1 hu) (tV I.bu eb) dd hp ?_
  rw[iY]
  exact h w' _ (I.tok _) zY
theorem Fc {Q:Value->Shared->Prop} (hu:A.units+1<cLine) (I:Inv X pins σ H s) (g:gG H a y o) (ry:RelV y u) (h: ∀s',Inv X pins σ H s'->Q (.bool (!o.isSome)) s'):
  wpAny (model X.prog X.w) A (compareOp .NotIn u (.ref a)) Q E s:=by
 rcases g with ⟨kvs,k,e,ey,l⟩ | ⟨kvs,k,b,e,ey,eb,l⟩
 ·subst ey
  obtain ⟨z,hd,vs,rel,dd⟩:=yS I.bu e
  refine wpAny_notIn_of (yR ry) hd dd.mapOf ?_
  rw[<-(rel.val k).ml, <-l]
  exact h _ (I.tok _)
 ·subst ey
  cases (show u=Value.ref b from ry)
  obtain ⟨z,hd,xs,rel,dd⟩:=yT I.bu e
  refine wpAny_notIn_heap (tupleKind_room_in1 hu) (tV I.bu eb) hd dd ?_
  have q:=(rel.val k).ml
  rw[Option.isSome_map]at q
  rw[<-q, <-l]
  exact h _ (I.tok _)
theorem yU {h':Heap} {t':Nat} {ob:HO} (I:Inv X pins σ H s) (mu:Mg (H a)) (hs:Heap.SameBut a s.heap h') (he: ∃q,h'.get? a=some q) (new:cW X.prog X.w (upd H a ob) h' a ob):
  Inv X pins σ (upd H a ob) { s with heap:=h',toks:=t' }:=
 I.write (x:=a) (e:=a) mu (.inl rfl) (fun b q hb z=>(hs.2 b hb).trans z) he new
theorem JG {P:Program} {w:World} {H':Hp} {h':Heap} {kvs:List (Key×V)} {vs:List (Key×Value)} (z:kvs.length<=sizeLine) (hd:(a==sysModules)=false) (rel:KV kvs vs) (dd:h'.DictOf (bT P w) a vs):
  cW P w H' h' a (.dK kvs):=⟨z,hd,vs,rel,dd⟩
theorem Av {H':Hp} {Q:Unit->Shared->Prop} (hu:A.units+1<cLine) (I:Inv X pins σ H s) (g:qF H a y v H') (ry:RelV y u) (rv:RelV v r) (h: ∀s',Inv X pins σ H' s'->Q () s'):
  wpAny (model X.prog X.w) A (setItem (.ref a) u r) Q E s:=by
 rcases g with ⟨kvs,k,e,ey,l,eH⟩ | ⟨kvs,k,b,e,ey,eb,l,eH⟩
 ·subst ey eH
  obtain ⟨z,hd,vs,rel,dd⟩:=GW I.bu e
  have hz:vs.length<=sizeLine:=by rw[<-rel.length];exact z
  have hl:(putK kvs k v).length<=sizeLine:=by have:=jh kvs k v;omega
  refine wpAny_setItem_pairs (hsz:=hz) (yR ry) dd fun h' Qc hs=>h _ ?_
  have he: ∃q,h'.get? a=some q:=let ⟨q,_,_,hq,_⟩:=Qc;⟨q,hq⟩
  exact yU I (by rw[e];exact True.intro) hs he (JG hl hd (rel.put k rv) Qc)
 ·subst ey eH
  cases (show u=Value.ref b from ry)
  obtain ⟨z,hd,xs,rel,dd⟩:=Nf I.bu e
  have hz:xs.length<=sizeLine:=by rw[<-Paired.length rel];exact z
  have hl:(putK kvs k v).length<=sizeLine:=by have:=jh kvs k v;omega
  refine wpAny_setItem_heap (hsz:=hz) (tupleKind_room_in1 hu) (tV I.bu eb) dd fun h' Qc hs=>h _ ?_
  obtain ⟨q,es,ep,hq,h2,h3,h4,_,h5⟩:=Qc
  refine yU I (by rw[e];exact True.intro) hs ⟨q,hq⟩ ⟨hl,hd,_,(rel.put k eb rv).keeps fun c ys ec=>?_,q,es,ep,hq,h2,h3,h4,h5⟩
  rw[aq (Mf ec e (fun z=>nomatch z))]
  exact ec
end
section
variable {X:Cx} {pins:List (Addr×Obj)} {σ:St} {H:Hp} {s:Shared} {a:Addr} {kvs:List (Key×V)} {k:Key} {u:Value} {A:Around} {E:Value->Shared->Prop}
end
def Ng (i:Expr):Prop:= ∀ov iv,subscripted i false ov iv=operate [ov,iv] (getItem ov iv)
theorem Fd {prog:Program} {w:World} {A:Around} {E:Value->Shared->Prop} {s:Shared} {env:Env} {value slice:Expr} {pos:Pos} {T id:String} {Q:Value->Shared->Prop}
  (hl:typeLookup (.type T) "__getitem__"=pure (some (.builtin id))) (hs:Ng slice)
  (h:wpAny (model prog w) A (eval value env) (fun o s₁=>wpAny (model prog w) A (eval slice env) (fun i s₂=>s₂.TypeIs o T/\wpAny (model prog w) A (getItem o i) Q E s₂) E s₁) E s):
  wpAny (model prog w) A (eval (.Subscript value slice pos) env) Q E s:=by
 refine Subscript_ (wpAny_mono h (fun o s₁ h₁=>wpAny_mono h₁ (fun i s₂ h₂=>?_) fun _ _ x=>x) fun _ _ x=>x)
 obtain ⟨hT,h₂⟩:=h₂
 unfold subscriptTail
 refine wpAny_bind ?_
 rw[getitemInPython_of_ne hT.not_modules]
 refine wpAny_bind (wpAny_specialOf hT hl ?_)
 have fin:wpAny (model prog w) A (subscripted slice false o i) (fun r s₃=>wpAny (model prog w) A (letTemporaryGo value o r >>= fun _=>pure r) Q E s₃) E s₂:=by
  rw[hs o i]
  exact wpAny_operating (wpAny_mono h₂ (fun r s₃ h₃=>wpAny_bind (wpAny_letTemporaryGo (wpAny_pure h₃))) fun _ _ x=>x)
 first
  | exact wpAny_pure (wpAny_bind fin)
  | exact wpAny_bind (wpAny_pure (wpAny_bind fin))
  | exact wpAny_bind fin
theorem vm {X:Cx} {pins:List (Addr×Obj)} {σ:St} {H:Hp} {s:Shared} {a:Addr} {y:V} {o:Option V} (I:Inv X pins σ H s) (g:gG H a y o):s.TypeIs (.ref a) "dict":=by
 rcases g with ⟨kvs,k,e,_,_⟩ | ⟨kvs,k,b,e,_,_,_⟩
 ·obtain ⟨_,_,vs,_,dd⟩:=yS I.bu e
  exact dd.typeIs
 ·obtain ⟨_,_,xs,_,dd⟩:=yT I.bu e
  exact dd.typeIs
def Nh (td ty:TE):TE:=fun σ H Q=>td σ H fun x H1=>ty σ H1 fun y H2=> ∃a v,x= .ref a/\gG H2 a y (some v)/\Q v H2
def Fe (ty td:TE):TE:=fun σ H Q=>ty σ H fun y H1=>td σ H1 fun x H2=> ∃a o,x= .ref a/\gG H2 a y o/\Q (.bl (!o.isSome)) H2
def Ni (td ty tv:TE):TS:=fun D σ H=>tv σ H fun v H1=>td σ H1 fun x H2=>ty σ H2 fun y H3=> ∃a H4,x= .ref a/\qF H3 a y v H4/\D.nx σ H4
section
variable {X:Cx} {o i e value:Expr} {pos pos' R8:Pos} {td ty tv:TE}
theorem fh (hu:X.A.units+1<cLine) (ho:PE X o td) (hi:PE X i ty) (hs:Ng i):PE X (.Subscript o i pos) (Nh td ty):=by
 intro pins s σ H Q I h
 refine Fd PySem.F.slot_dict_getitem.lookup hs (bZ (ho pins s σ H _ I h) fun u s1 ⟨x,H1,I1,rx,q1⟩=>bZ (hi pins s1 σ H1 _ I1 q1) fun iv s2 ⟨y,H2,I2,ry,a,v,ex,g,q2⟩=>?_)
 subst ex
 obtain rfl:u=Value.ref a:=rx
 exact ⟨vm I2 g,Au hu I2 g ry fun w' s3 I3 zY=>⟨v,H2,I3,zY,q2⟩⟩
theorem Aw (hu:X.A.units+1<cLine) (hi:PE X i ty) (ho:PE X o td):PC X .NotIn i o (Fe ty td):=by
 intro pins s σ H Q I h
 refine bZ (hi pins s σ H _ I h) fun iv s1 ⟨y,H1,I1,ry,q1⟩=>bZ (ho pins s1 σ H1 _ I1 q1) fun u s2 ⟨x,H2,I2,rx,a,ov,ex,g,q2⟩=>?_
 subst ex
 obtain rfl:u=Value.ref a:=rx
 exact Fc hu I2 g ry fun s3 I3=>⟨.bl (!ov.isSome),H2,I3,rfl,q2⟩
theorem nQ (hu:X.A.units+1<cLine) (ho:PE X o td) (hi:PE X i ty) (hv:PE X value tv) (hs:swapsWith value (some (.Subscript o i pos')) pos.line X.env=pure false):
  PS X (.Assign [.Subscript o i pos'] value pos) (Ni td ty tv):=by
 intro pins s σ H D I h
 refine wpAny_Assign_Subscript (bZ (hv pins s σ H _ I h) fun r s1 ⟨v,H1,I1,rv,q1⟩=>bZ (ho pins s1 σ H1 _ I1 q1) fun u s2 ⟨x,H2,I2,rx,q2⟩=>bZ (hi pins s2 σ H2 _ I2 q2) fun iv s3 ⟨y,H3,I3,ry,a,H4,ex,g,q3⟩=>?_) hs
 subst ex
 obtain rfl:u=Value.ref a:=rx
 exact Av hu I3 g ry rv fun s4 I4=>⟨σ,H4,I4,q3⟩
end
theorem CD {P:Program} {w:World} {H:Hp} (h:Heap) (hb:sysModules<h.objs.size):cW P w H (h.push { cls:= .type "dict",data:= .dict #[] }) h.objs.size (.dK []):=
 ⟨Nat.zero_le _,beq_eq_false_iff_ne.mpr (Ne.symm (Nat.ne_of_lt hb)),[], .nil,Heap.DictOf.new h⟩
theorem CF {P:Program} {w:World} {H:Hp} (h:Heap) (hb:sysModules<h.objs.size):cW P w H (h.push { cls:= .type "dict",data:= .dict #[] }) h.objs.size (.dT []):=
 ⟨Nat.zero_le _,beq_eq_false_iff_ne.mpr (Ne.symm (Nat.ne_of_lt hb)),[], .nil,_, #[],0,Heap.get?_push_size _ rfl,⟨rfl,rfl,rfl⟩,rfl,rfl,List.nodup_nil⟩
def JH:TE:=fun _ H Q=> ∀p,H p=none->Q (.ref p) (upd H p (.dK []))
def JI:TE:=fun _ H Q=> ∀p,H p=none->Q (.ref p) (upd H p (.dT []))
section
variable {X:Cx} {pos:Pos}
theorem vn:PE X (.Dict [] [] pos) JH:=fun pins s σ H Q I h=>
 wpAny_Dict_empty ⟨.ref s.heap.objs.size,_,I.laid (a:=s.heap.objs.size) (o:= .dK []) (t':=s.toks) (fun _ _ q=>Heap.get?_push_of_some _ q) (Nat.le_refl _) (CD s.heap I.big),rfl,h _ (I.bu.fresh (Nat.le_refl _))⟩
theorem CG:PE X (.Dict [] [] pos) JI:=fun pins s σ H Q I h=>
 wpAny_Dict_empty ⟨.ref s.heap.objs.size,_,I.laid (a:=s.heap.objs.size) (o:= .dT []) (t':=s.toks) (fun _ _ q=>Heap.get?_push_of_some _ q) (Nat.le_refl _) (CF s.heap I.big),rfl,h _ (I.bu.fresh (Nat.le_refl _))⟩
end
structure M1 (X:Cx) (o:Expr) (m:Str) (apos:Pos) (e:Expr) (eJ:Pos):Prop where
 base:attributeBase o m X.env (eval o X.env)=eval o X.env
 g7:((backTo eJ (starEach [e] X.env)).all (fun x=>!x.1)&&(backToKw eJ (keywordEach [] X.env)).all (fun x=>x.1.isSome)
  &&decide (([e]:List Expr).length+([]:List Keyword).length+(if ([]:List Keyword).isEmpty then 0 else 1)<30))=true
 line:(apos.endLine==eJ.line)=true
 trees:backTo eJ (starEach [e] X.env)=[(false,eval e X.env)]
structure M2 (X:Cx) (o:Expr) (m:Str) (apos:Pos) (e f:Expr) (eJ:Pos):Prop where
 base:attributeBase o m X.env (eval o X.env)=eval o X.env
 g7:((backTo eJ (starEach [e,f] X.env)).all (fun x=>!x.1)&&(backToKw eJ (keywordEach [] X.env)).all (fun x=>x.1.isSome)
  &&decide (([e,f]:List Expr).length+([]:List Keyword).length+(if ([]:List Keyword).isEmpty then 0 else 1)<30))=true
 line:(apos.endLine==eJ.line)=true
 trees:backTo eJ (starEach [e,f] X.env)=[(false,eval e X.env),(false,eval f X.env)]
section
variable {X:Cx} {pins:List (Addr×Obj)} {σ:St} {H:Hp} {s:Shared} {a:Addr} {y d:V} {u r:Value} {o:Option V} {A:Around} {E:Value->Shared->Prop}
end
section
variable {X:Cx} {o e f:Expr} {apos eJ:Pos} {td ty tx:TE}
end
section
variable {X:Cx} {pins:List (Addr×Obj)} {σ:St} {H:Hp} {s:Shared} {a:Addr} {kvs:List (Key×V)} {A:Around} {E:Value->Shared->Prop}
end
section
variable {X:Cx} {pins:List (Addr×Obj)} {σ:St} {H:Hp} {s:Shared} {a:Addr} {y:V} {u:Value} {A:Around} {E:Value->Shared->Prop}
end
end L2
namespace L2
open PySem PySem.Spec PyProof.Rows
section
variable {prog:Program} {w:World} {A:Around} {E:Value->Shared->Prop} {s:Shared}
end
section
variable {X:Cx}
end
end L2
set_option maxHeartbeats 1000000
namespace L2
open PySem PySem.Spec PyProof.Rows
section
variable {prog:Program} {w:World} {KK:Type} [DecidableEq KK] {knd:KeyKind prog w KK}
end
section
variable {X:Cx}
end
end L2
set_option maxHeartbeats 1000000
namespace L2.F2
open PySem PySem.Spec PyProof.Rows
end L2.F2
namespace L2
open PySem PySem.Spec PyProof.Rows
section
variable {prog:Program} {w:World} {A:Around} {E:Value->Shared->Prop} {s:Shared}
end
section
variable {X:Cx}
end
end L2
set_option maxHeartbeats 1000000
namespace L2
open PySem PySem.Spec PyProof.Rows
section
variable {prog:Program} {w:World} {A:Around} {E:Value->Shared->Prop} {s:Shared}
end
section
variable {X:Cx}
end
end L2
set_option maxHeartbeats 2000000
namespace L2
open PySem PySem.Spec PyProof.Rows
section
variable {prog:Program} {w:World} {A:Around} {E:Value->Shared->Prop} {s:Shared}
end
section
variable {X:Cx}
end
noncomputable def dd {α:Type} [DecidableEq α]:List α->List α->List α
 | σ,[]=>σ
 | σ,x::l=>dd (if x∈σ then σ else σ++[x]) l
section
variable {prog:Program} {w:World} {A:Around} {E:Value->Shared->Prop} {s:Shared}
end
section
variable {prog:Program} {w:World} {A:Around} {E:Value->Shared->Prop} {s:Shared}
end
section
variable {X:Cx}
end
end L2
namespace L2
open PySem PySem.Spec PyProof.Rows
section
variable {prog:Program} {w:World} {A:Around} {E:Value->Shared->Prop} {s:Shared}
end
section
variable {X:Cx}
end
section
variable {X:Cx}
end
end L2
namespace L2
open PySem PySem.Spec PyProof.Rows
section
variable {X:Cx} {st:Stmt} {rest:List Stmt} {t u:TS}
end
end L2
namespace L2
open PySem PySem.Spec PyProof.Rows
section
variable {X:Cx}
end
end L2
namespace L2
open PySem PySem.Spec PyProof.Rows
section
variable {X:Cx}
end
section
variable {prog:Program} {w:World} {A:Around} {E:Value->Shared->Prop} {s:Shared}
structure ZA (z TI TO i1 i2:Addr) (f1 f2:List Addr):Prop where
 m1:i1∈f1
 m2:i2∈f2
 z1:z∉f1
 z2:z∉f2
 o1:TO∉f1
 o2:TO∉f2
 c1:i1∉f2
 c2:i2∉f1
 tz:TI≠z
 tt:TI≠TO
 t1:TI≠i1
 t2:TI≠i2
 oz:TO≠z
theorem nm {a b:Addr} {f:List Addr} (h:a∈f) (n:b∉f):a≠b:=fun z=>n (z▸h)
section
variable {z TI TO i1 i2:Addr} {f1 f2:List Addr} {n1 n2 i:Nat} {P1 P2:Nat->Value->Prop} {S1 S2:Nat->Heap->Prop} {a b:Value}
theorem Ax {Q:Value->Shared->Prop} (D1:Draws prog w A i1 f1 n1 P1 S1) (D2:Draws prog w A i2 f2 n2 P2 S2) (Z:ZA z TI TO i1 i2 f1 f2)
  (hz:IsZip s.heap z TI TO .none) (wV:IsPair s.heap TI (.ref i1) (.ref i2)) (Eh:IsPair s.heap TO a b) (h1:S1 i s.heap) (h2:S2 i s.heap) (l1:i<n1) (l2:i<n2)
  (hQ: ∀x y h' tk,P1 i x->P2 i y->IsZip h' z TI TO (rawInt s.heap.objs.size)->IsPair h' TO x y->S1 (i+1) h'->S2 (i+1) h'->IsPair h' s.heap.objs.size x y->h'.objs.size=s.heap.objs.size+1->
   (∀c o,c≠z->c≠TO->c≠i1->c≠i2->s.heap.get? c=some o->h'.get? c=some o)->Q (.ref s.heap.objs.size) { s with heap:=h',toks:=tk }):
  wpAny (model prog w) A (Builtin.«zip.__next__» ⟨[.ref z],[]⟩) (fun fin s'=> ∃v,fin= .done (.ret v)/\Q v s') E s:=by
 obtain ⟨hp,g,d,SQ,os⟩:=s
 have i1z:=nm Z.m1 Z.z1
 have i2z:=nm Z.m2 Z.z2
 have Qd:=nm Z.m1 Z.o1
 have Qe:=nm Z.m2 Z.o2
 have i21:=nm Z.m2 Z.c1
 refine wpAny_bind (m:=field (.ref z) 2) (wpAny_field hz rfl (x:= .bool false) rfl ?_)
 refine wpAny_bind (m:=field (.ref z) 3) (wpAny_field hz rfl (x:= .ref TI) rfl ?_)
 refine wpAny_bind (m:=seqItems? (.ref TI)) (wpAny_seqItems wV rfl ?_)
 refine wpAny_bind (m:=Builtin.SmallTypes.ownedTupleIsFree (.ref z)) ?_
 (unfold Builtin.SmallTypes.ownedTupleIsFree;refine wpAny_bind (m:=field (.ref z) 0) (wpAny_field hz rfl (x:= .none) rfl (wpAny_pure ?_)))
 simp only[if_true]
 refine wpAny_bind (wpAny_rule ?_);refine wpAny_bind (m:=field (.ref z) 4) (wpAny_field hz rfl (x:= .ref TO) rfl ?_)
 refine wpAny_bind (wpAny_setField_rec hz (by simp) fun k1 vo lS=>?_)
 replace vo:IsZip k1 z TI TO .ellipsis:=vo
 replace lS:Heap.SameBut z hp k1:=lS
 refine wpAny_bind ?_;simp only[List.zipIdx_cons,List.zipIdx_nil,List.forIn_cons,List.forIn_nil]
 refine wpAny_bind (wpAny_bind (wpAny_onRaise ?_));refine wpAny_bind (m:=Builtin.SmallTypes.nextOf (.ref i1)) ?_
 refine D1.item i _ _ _ l1 (D1.frame _ _ _ h1 fun c hc o e=>lS.extBut _ _ (nm hc Z.z1) e) fun x k2 tk2 px lR kg=>wpAny_pure ?_
 replace kg:Heap.SameBut i1 k1 k2:=kg
 have to2:IsPair k2 TO a b:=kg.extBut _ _ (Ne.symm Qd) (lS.extBut _ _ Z.oz Eh)
 refine wpAny_bind (m:=seqItems? (.ref TO)) (wpAny_seqItems to2 rfl ?_)
 refine wpAny_bind (wpAny_updateSeq_pair to2 fun k3 to3 qG=>?_)
 replace to3:IsPair k3 TO x b:=to3
 replace qG:Heap.SameBut TO k2 k3:=qG
 refine wpAny_bind (wpAny_letGo (wpAny_pure ?_));refine wpAny_bind (wpAny_bind (wpAny_onRaise ?_))
 refine wpAny_bind (m:=Builtin.SmallTypes.nextOf (.ref i2)) ?_
 refine D2.item i _ _ _ l2 (D2.frame _ _ _ h2 fun c hc o e=>qG.extBut _ _ (nm hc Z.o2) (kg.extBut _ _ (nm hc Z.c1) (lS.extBut _ _ (nm hc Z.z2) e))) fun y k4 Nj py Nk oT=>wpAny_pure ?_
 replace oT:Heap.SameBut i2 k3 k4:=oT
 have Nl:IsPair k4 TO x b:=oT.extBut _ _ (Ne.symm Qe) to3
 refine wpAny_bind (m:=seqItems? (.ref TO)) (wpAny_seqItems Nl rfl ?_)
 refine wpAny_bind (wpAny_updateSeq_pair Nl fun k5 Ff xA=>?_)
 replace Ff:IsPair k5 TO x y:=Ff
 replace xA:Heap.SameBut TO k4 k5:=xA
 refine wpAny_bind (wpAny_letGo (wpAny_pure (wpAny_pure ?_)));refine wpAny_bind (m:=seqItems? (.ref TO)) (wpAny_seqItems Ff rfl ?_)
 refine wpAny_bind (wpAny_newTuple ?_)
 have sz:k5.objs.size=hp.objs.size:=by rw[xA.1,oT.1,qG.1,kg.1,lS.1]
 have z5:IsZip k5 z TI TO .ellipsis:=xA.extBut _ _ (Ne.symm Z.oz) (oT.extBut _ _ (Ne.symm i2z) (qG.extBut _ _ (Ne.symm Z.oz) (kg.extBut _ _ (Ne.symm i1z) vo)))
 have kp: ∀c o,c≠z->c≠TO->c≠i1->c≠i2->hp.get? c=some o->k5.get? c=some o:=fun c o c1 c2 c3 c4 e=>xA.extBut _ _ c2 (oT.extBut _ _ c4 (qG.extBut _ _ c2 (kg.extBut _ _ c3 (lS.extBut _ _ c1 e))))
 have Fg:S1 (i+1) k5:=D1.frame _ _ _ lR fun c hc o e=>xA.extBut _ _ (nm hc Z.o1) (oT.extBut _ _ (nm hc Z.c2) (qG.extBut _ _ (nm hc Z.o1) e))
 have SR:S2 (i+1) k5:=D2.frame _ _ _ Nk fun c hc o e=>xA.extBut _ _ (nm hc Z.o2) e
 have zl:z<k5.objs.size:=Heap.lt_size z5
 refine wpAny_bind (m:=Builtin.SmallTypes.ownedTupleHandOut (.ref z) (.ref k5.objs.size)) ?_
 have z6:IsZip (k5.push { cls:= .type "tuple",data:= .seq #[x,y] }) z TI TO .ellipsis:=Heap.get?_push_of_some _ z5
 (unfold Builtin.SmallTypes.ownedTupleHandOut;refine wpAny_bind (wpAny_setField_rec z6 (by simp) fun k7 z7 s7=>?_))
 replace z7:IsZip k7 z TI TO (rawInt k5.objs.size):=z7
 refine wpAny_setField_rec z7 (by simp) fun k8 z8 s8=>?_
 replace z8:IsZip k8 z TI TO (rawInt k5.objs.size):=z8
 have up: ∀c o,c≠z->k5.get? c=some o->k8.get? c=some o:=fun c o c1 e=>s8.extBut _ _ c1 (s7.extBut _ _ c1 (Heap.get?_push_of_some _ e))
 have t8:IsPair k8 k5.objs.size x y:=s8.extBut _ _ (Nat.ne_of_gt zl) (s7.extBut _ _ (Nat.ne_of_gt zl) (Heap.get?_push_size _ rfl))
 have e8:k8.objs.size=k5.objs.size+1:=by rw[s8.1,s7.1,Heap.size_push]
 rw[sz]at z8 t8 e8
 refine wpAny_pure ⟨_,rfl,?_⟩
 show Q (.ref k5.objs.size) _
 rw[sz]
 exact hQ x y k8 Nj px py z8 (up _ _ Z.oz Ff) (D1.frame _ _ _ Fg fun c hc o e=>up c o (nm hc Z.z1) e) (D2.frame _ _ _ SR fun c hc o e=>up c o (nm hc Z.z2) e) t8 e8 fun c o c1 c2 c3 c4 e=>up c o c1 (kp c o c1 c2 c3 c4 e)
theorem CH {Q:Fin->Shared->Prop} (D1:Draws prog w A i1 f1 n1 P1 S1) (Z:ZA z TI TO i1 i2 f1 f2)
  (hz:IsZip s.heap z TI TO .none) (wV:IsPair s.heap TI (.ref i1) (.ref i2)) (Eh:IsPair s.heap TO a b) (h1:S1 n1 s.heap)
  (hE: ∀h' e,(∀c o,c≠z->c≠TO->c≠i1->c≠i2->s.heap.get? c=some o->h'.get? c=some o)->(∃o,h'.get? e=some o/\o.cls= .type "StopIteration")->E (.ref e) { s with heap:=h' }):
  wpAny (model prog w) A (Builtin.«zip.__next__» ⟨[.ref z],[]⟩) Q E s:=by
 obtain ⟨hp,g,d,SQ,os⟩:=s
 have i1z:=nm Z.m1 Z.z1
 refine wpAny_bind (m:=field (.ref z) 2) (wpAny_field hz rfl (x:= .bool false) rfl ?_)
 refine wpAny_bind (m:=field (.ref z) 3) (wpAny_field hz rfl (x:= .ref TI) rfl ?_)
 refine wpAny_bind (m:=seqItems? (.ref TI)) (wpAny_seqItems wV rfl ?_)
 refine wpAny_bind (m:=Builtin.SmallTypes.ownedTupleIsFree (.ref z)) ?_
 (unfold Builtin.SmallTypes.ownedTupleIsFree;refine wpAny_bind (m:=field (.ref z) 0) (wpAny_field hz rfl (x:= .none) rfl (wpAny_pure ?_)))
 simp only[if_true]
 refine wpAny_bind (wpAny_rule ?_);refine wpAny_bind (m:=field (.ref z) 4) (wpAny_field hz rfl (x:= .ref TO) rfl ?_)
 refine wpAny_bind (wpAny_setField_rec hz (by simp) fun k1 vo lS=>?_)
 replace vo:IsZip k1 z TI TO .ellipsis:=vo
 replace lS:Heap.SameBut z hp k1:=lS
 refine wpAny_bind ?_;simp only[List.zipIdx_cons,List.zipIdx_nil,List.forIn_cons,List.forIn_nil]
 refine wpAny_bind (wpAny_bind (wpAny_onRaise ?_));refine wpAny_bind (m:=Builtin.SmallTypes.nextOf (.ref i1)) ?_
 refine D1.done _ _ _ (D1.frame _ _ _ h1 fun c hc o e=>lS.extBut _ _ (nm hc Z.z1) e) fun k2 e kg he=>?_
 obtain ⟨oe,Ay,Fh⟩:=he
 have z2:IsZip k2 z TI TO .ellipsis:=kg _ _ (Ne.symm i1z) vo
 have ez:e≠z:=fun x=>by subst x;rw[z2]at Ay;cases Ay;simp at Fh
 refine wpAny_setField_rec z2 (by simp) fun k3 _ qG=>hE k3 e (fun c o c1 _ c3 _ x=>qG.extBut _ _ c1 (kg _ _ c3 (lS.extBut _ _ c1 x))) ⟨oe,qG.extBut _ _ ez Ay,Fh⟩
theorem xB {Q:Option Value->Shared->Prop} (D1:Draws prog w A.in1 i1 f1 n1 P1 S1) (D2:Draws prog w A.in1 i2 f2 n2 P2 S2) (Z:ZA z TI TO i1 i2 f1 f2)
  (hz:IsZip s.heap z TI TO .none) (wV:IsPair s.heap TI (.ref i1) (.ref i2)) (Eh:IsPair s.heap TO a b) (h1:S1 i s.heap) (h2:S2 i s.heap) (l1:i<n1) (l2:i<n2)
  (hQ: ∀x y h' tk,P1 i x->P2 i y->IsZip h' z TI TO (rawInt s.heap.objs.size)->IsPair h' TO x y->S1 (i+1) h'->S2 (i+1) h'->IsPair h' s.heap.objs.size x y->h'.objs.size=s.heap.objs.size+1->
   (∀c o,c≠z->c≠TO->c≠i1->c≠i2->s.heap.get? c=some o->h'.get? c=some o)->Q (some (.ref s.heap.objs.size)) { s with heap:=h',toks:=tk }):
  wpAny (model prog w) A (pyNext (.ref z)) Q E s:=by
 have hT:s.TypeIs (.ref z) "zip":=⟨_,hz,rfl⟩
 unfold pyNext
 exact wpAny_bind (wpAny_attempt (wpAny_callSpecial?_slot (name:=Str.ofString "__next__") hT F.slot_zip_next (wpAny_call_entry F.slot_zip_next hT F.entry_zip_next
   (Ax D1 D2 Z hz wV Eh h1 h2 l1 l2 fun x y h' tk p1 p2 a1 a2 a3 a4 a5 a6 a7=>wpAny_pure (hQ x y h' tk p1 p2 a1 a2 a3 a4 a5 a6 a7)) (F.args_zip_next_1 _))))
theorem Az {Q:Option Value->Shared->Prop} (D1:Draws prog w A.in1 i1 f1 n1 P1 S1) (Z:ZA z TI TO i1 i2 f1 f2)
  (hz:IsZip s.heap z TI TO .none) (wV:IsPair s.heap TI (.ref i1) (.ref i2)) (Eh:IsPair s.heap TO a b) (h1:S1 n1 s.heap)
  (hQ: ∀h',(∀c o,c≠z->c≠TO->c≠i1->c≠i2->s.heap.get? c=some o->h'.get? c=some o)->Q none { s with heap:=h' }):wpAny (model prog w) A (pyNext (.ref z)) Q E s:=by
 have hT:s.TypeIs (.ref z) "zip":=⟨_,hz,rfl⟩
 unfold pyNext
 refine wpAny_bind (wpAny_attempt (wpAny_callSpecial?_slot (name:=Str.ofString "__next__") hT F.slot_zip_next (wpAny_call_entry F.slot_zip_next hT F.entry_zip_next (CH D1 Z hz wV Eh h1 fun h' e hk he=>?_) (F.args_zip_next_1 _))))
 obtain ⟨o,ho,hc⟩:=he
 refine wpAny_bind (wpAny_isInstance (T:="StopIteration") (b:=true) ⟨o,ho,hc⟩ isSubtype_stop (wpAny_pure (hQ _ hk)))
end
structure ZS (P:Program) (w:World) (K:PySem.W.Frag) (a it:Addr) (Sq:Hp->List V->Prop) (IT:Nat->Heap->Prop):Prop where
 obj: ∀i h,IT i h-> ∃o,h.get? it=some o/\ ∀v,o.data≠ .cell v
 keep: ∀i h h',IT i h->(∀o,h.get? it=some o->h'.get? it=some o)->IT i h'
 inj: ∀(X:Cx),X.K=K-> ∀(pins:List (Addr×Obj)) (s:Shared) (σ:St) (H:Hp),Inv X pins σ H s-> ∀xs ys,Sq H xs->Sq H ys->xs=ys
 draws: ∀(X:Cx),X.prog=P->X.w=w->X.K=K->X.calm=true-> ∀(pins:List (Addr×Obj)) (s:Shared) (σ:St) (H:Hp),Inv X pins σ H s-> ∀xs,Sq H xs->a≠it->
  ∃(aI:List Value) (SS:Nat->Heap->Prop),Vals xs aI/\Draws P w X.A.in1 it [it,a] aI.length (fun i v=>aI[i]? =some v) SS/\(∀i,IT i s.heap->SS i s.heap)/\ ∀i h,SS i h->IT i h
theorem xC {P:Program} {w:World} {K:PySem.W.Frag} (a it:Addr):ZS P w K a it (fun H xs=>aW K H a xs) (fun i h=>h.IsTupleIter it a i) where
 obj:=fun i h st=>by
  obtain ⟨o,ho,hc,hd⟩:=st
  exact ⟨o,ho,fun v z=>by rw[hd]at z;cases z⟩
 keep:=fun i h h' st k=>by
  obtain ⟨o,ho,r⟩:=st
  exact ⟨o,k o ho,r⟩
 inj:=fun X hK pins s σ H I xs ys h1 h2=>by subst hK;exact I.lX h1 h2
 draws:=fun X hP hw hK hc pins s σ H I xs hq ne=>by
  subst hP hw hK
  obtain ⟨aI,rv,p,_⟩:=I.tuple hq
  have D:=jg (prog:=X.prog) (w:=X.w) (A:=X.A.in1) (I.ok.hd hc) it a ne aI.toArray
  refine ⟨aI,fun i h=>h.IsTupleIter it a i/\h.IsTuple a aI.toArray,rv,?_,fun i h=>⟨h,p⟩,fun i h z=>z.1⟩
  have e:aI.toArray.size=aI.length:=List.size_toArray
  rw[<-e]
  refine ⟨D.live,D.frame,fun i s Q E hi st q=>D.item i s Q E hi st fun x h' tk hx=>q x h' tk (by simpa using hx),D.done⟩
noncomputable def GX (Sq1 Sq2:Hp->List V->Prop):It:=⟨fun i H=> ∃xs ys x y,Sq1 H xs/\Sq2 H ys/\xs[i]? =some x/\ys[i]? =some y,
 fun i H x H'=> ∃T u v,(∀xs,Sq1 H xs->xs[i]? =some u)/\(∀ys,Sq2 H ys->ys[i]? =some v)/\x= .ref T/\H T=none/\H'=upd H T (.tup [u,v]),
 fun i H=> ∃xs,Sq1 H xs/\(∃ys,Sq2 H ys)/\xs.length=i⟩
noncomputable abbrev LP (h:Heap) (c:String) (l:Addr):Heap:=h.push { cls:= .type c,data:= .fields #[.ref l, .int 0 0] }
noncomputable abbrev Qf (h:Heap) (c d:String) (l m:Addr):Heap:=LP (LP h c l) d m
noncomputable abbrev Qg (h:Heap) (c d:String) (l m:Addr):Heap:=(Qf h c d l m).push { cls:= .type "tuple",data:= .seq #[.ref h.objs.size, .ref (LP h c l).objs.size] }
noncomputable abbrev Nm (h:Heap) (c d:String) (l m:Addr):Heap:=(Qg h c d l m).push { cls:= .type "tuple",data:= .seq #[.none, .none] }
noncomputable abbrev JJ (h:Heap) (c d:String) (l m:Addr):Heap:=(Nm h c d l m).push { cls:= .type "zip",data:= .fields #[.none, .bool false, .bool false, .ref (Qf h c d l m).objs.size, .ref (Qg h c d l m).objs.size] }
theorem vp (l m:Addr) (xs ys:Array Value):Meets (Builtin.«zip.__new__» ⟨[.type "zip", .ref l, .ref m],[]⟩) (fun _ R s=>s.heap.IsTuple l xs/\s.heap.IsTuple m ys/\R (.ok (.ret (.ref (Nm s.heap "tuple_iterator" "tuple_iterator" l m).objs.size))) { s with heap:=JJ s.heap "tuple_iterator" "tuple_iterator" l m }):=
 .of_wp fun prog w A R s h=>by
  obtain ⟨hp,g,d,tk,os⟩:=s;obtain ⟨q1,q2,h⟩:=h;have xv:=sub_zip
  have k1:Heap.IsTuple (Shared.heap ⟨hp,g,d,tk,os⟩) l xs:=q1
  have k2:Heap.IsTuple (Shared.heap ⟨hp.push { cls:= .type "tuple_iterator",data:= .fields #[.ref l, .int 0 0] },g,d,tk,os⟩) m ys:=by
   obtain ⟨o,e,r⟩:=q2
   exact ⟨o,Heap.get?_push_of_some _ e,r⟩
  wp_walk using wpAny_pyIter_tuple k1,wpAny_pyIter_tuple k2
  exact ⟨_,rfl,h⟩
def ZMk (c d:String) (P1 P2:Heap->Prop) (l m:Addr):Prop:= ∀(prog:Program) (w:World) (A:Around) (E:Value->Shared->Prop) (s:Shared) (Q:Value->Shared->Prop),P1 s.heap->P2 s.heap->
  (∀h',IsZip h' (s.heap.objs.size+4) (s.heap.objs.size+2) (s.heap.objs.size+3) .none->IsPair h' (s.heap.objs.size+2) (.ref s.heap.objs.size) (.ref (s.heap.objs.size+1))->
   IsPair h' (s.heap.objs.size+3) .none .none->h'.get? s.heap.objs.size=some { cls:= .type c,data:= .fields #[.ref l, .int 0 0] }->h'.get? (s.heap.objs.size+1)=some { cls:= .type d,data:= .fields #[.ref m, .int 0 0] }->
   (∀b o,s.heap.get? b=some o->h'.get? b=some o)->Q (.ref (s.heap.objs.size+4)) { s with heap:=h' })->
  wpAny (model prog w) A (call (.type "zip") [.ref l, .ref m]) Q E s
theorem JK {c d:String} {P1 P2:Heap->Prop} {l m:Addr} (M:Meets (Builtin.«zip.__new__» ⟨[.type "zip", .ref l, .ref m],[]⟩) (fun _ R s=>P1 s.heap/\P2 s.heap/\R (.ok (.ret (.ref (Nm s.heap c d l m).objs.size))) { s with heap:=JJ s.heap c d l m })):ZMk c d P1 P2 l m:=by
 intro prog w A E s Q p1 p2 h
 refine callType_new F.called_zip (by decide) (F.typeCall_zip_2 _ _) (F.newCall_zip_2 _ _) (fun ob=>F.args_object_init_3 ob _ _) F.entry_zip_new M ⟨p1,p2,?_⟩
 have e1:(LP s.heap c l).objs.size=s.heap.objs.size+1:=Heap.size_push ..
 have e2:(Qf s.heap c d l m).objs.size=s.heap.objs.size+2:=by rw[Heap.size_push,e1]
 have e3:(Qg s.heap c d l m).objs.size=s.heap.objs.size+3:=by rw[Heap.size_push,e2]
 have e4:(Nm s.heap c d l m).objs.size=s.heap.objs.size+4:=by rw[Heap.size_push,e3]
 have g5:(JJ s.heap c d l m).get? (Nm s.heap c d l m).objs.size=some _:=Heap.get?_push_size _ rfl
 have g4:(JJ s.heap c d l m).get? (Qg s.heap c d l m).objs.size=some _:=Heap.get?_push_of_some _ (Heap.get?_push_size _ rfl)
 have g3:(JJ s.heap c d l m).get? (Qf s.heap c d l m).objs.size=some _:=Heap.get?_push_of_some _ (Heap.get?_push_of_some _ (Heap.get?_push_size _ rfl))
 have g2:(JJ s.heap c d l m).get? (LP s.heap c l).objs.size=some _:=Heap.get?_push_of_some _ (Heap.get?_push_of_some _ (Heap.get?_push_of_some _ (Heap.get?_push_size _ rfl)))
 have g1:(JJ s.heap c d l m).get? s.heap.objs.size=some _:=Heap.get?_push_of_some _ (Heap.get?_push_of_some _ (Heap.get?_push_of_some _ (Heap.get?_push_of_some _ (Heap.get?_push_size _ rfl))))
 show _/\_
 rw[e2,e3,e4]at g5
 rw[e1,e2]at g3
 rw[e3]at g4
 rw[e1]at g2
 rw[e4]
 exact ⟨⟨_,g5,rfl⟩,h _ g5 g3 g4 g1 g2 fun b o x=>Heap.get?_push_of_some _ (Heap.get?_push_of_some _ (Heap.get?_push_of_some _ (Heap.get?_push_of_some _ (Heap.get?_push_of_some _ x))))⟩
theorem Fi {a b c:Nat} (h1:a≠b) (h2:a≠c):(a:Addr)∉([b,c]:List Addr):=fun h=>by
 rcases List.mem_cons.mp h with e | e
 ·exact h1 e
 ·exact h2 (List.mem_singleton.mp e)
theorem Ei {a b:Nat} (h:a≠b):(a:Addr)≠(b:Addr):=h
theorem JL {n l m:Nat} (h1:l<n) (h2:m<n):ZA (n+4:Nat) (n+2:Nat) (n+3:Nat) n (n+1:Nat) [n,l] [(n+1:Nat),m]:=
 ⟨List.mem_cons_self,List.mem_cons_self,Fi (a:=n+4) (b:=n) (c:=l) (by omega) (by omega),Fi (a:=n+4) (b:=n+1) (c:=m) (by omega) (by omega),Fi (a:=n+3) (b:=n) (c:=l) (by omega) (by omega),Fi (a:=n+3) (b:=n+1) (c:=m) (by omega) (by omega),
  Fi (a:=n) (b:=n+1) (c:=m) (by omega) (by omega),Fi (a:=n+1) (b:=n) (c:=l) (by omega) (by omega),Ei (a:=n+2) (b:=n+4) (by omega),Ei (a:=n+2) (b:=n+3) (by omega),Ei (a:=n+2) (b:=n) (by omega),Ei (a:=n+2) (b:=n+1) (by omega),Ei (a:=n+3) (b:=n+4) (by omega)⟩
end
def Nn (Sq1 Sq2:Addr->Hp->List V->Prop) (ta:TA):TI:=fun σ H R=>ta σ H fun vs H1=> ∃a b,vs=[.ref a, .ref b]/\(∃xs,Sq1 a H1 xs)/\(∃ys,Sq2 b H1 ys)/\R (GX (Sq1 a) (Sq2 b)) H1
abbrev xD (K:PySem.W.Frag):Addr->Hp->List V->Prop:=fun a H xs=>aW K H a xs
section
variable {X:Cx} {elts:List Expr} {k:Nat} {pos':Pos} {a b:Expr} {ta:TA} {p pos:Pos}
end
theorem yV {Sq1 Sq2:Hp->List V->Prop} {xs ys:List V} {g:TG} {tb:TS} {D:Ends} {σ:St} {H:Hp} (Pv:Nat->St->Hp->Prop) (hlen:xs.length=ys.length) (h0:Pv 0 σ H) (hl: ∀i σ H,i<=xs.length->Pv i σ H->Sq1 H xs/\Sq2 H ys)
  (hs: ∀i x y σ H T,xs[i]? =some x->ys[i]? =some y->Pv i σ H->H T=none->g (.ref T) σ (upd H T (.tup [x,y])) fun σ2 H2=>tb { D with nx:=Pv (i+1),ct:=Pv (i+1),bk:=D.nx } σ2 H2) (hd: ∀σ H,Pv xs.length σ H->D.nx σ H):
  ∃W:Nat->Nat->St->Hp->Prop,(∃m,W 0 m σ H)/\ ∀i m σ H,W i m σ H->
   ((GX Sq1 Sq2).stop i H/\D.nx σ H)\/((GX Sq1 Sq2).go i H/\ ∃N:St->Hp->Prop,(∀σ' H',N σ' H'-> ∃m',m'<m/\W (i+1) m' σ' H')/\ ∀x H',(GX Sq1 Sq2).yD i H x H'->g x σ H' fun σ2 H2=>tb { D with nx:=N,ct:=N,bk:=D.nx } σ2 H2):=by
 refine ⟨fun i m σ H=>m=xs.length - i/\i<=xs.length/\Pv i σ H,⟨xs.length,by simp,Nat.zero_le _,h0⟩,?_⟩
 rintro i m σ H ⟨rfl,hi,p⟩
 obtain ⟨q1,q2⟩:=hl i σ H hi p
 by_cases cy:i<xs.length
 ·have JM:i<ys.length:=by omega
  refine .inr ⟨⟨xs,ys,xs[i],ys[i],q1,q2,by simp[cy],by simp[JM]⟩,Pv (i+1),fun σ' H' p'=>⟨xs.length - (i+1),by omega,rfl,cy,p'⟩,fun x H' y=>?_⟩
  obtain ⟨T,u,v,hu,hv,rfl,hn,rfl⟩:=y
  exact hs i u v σ _ T (hu xs q1) (hv ys q2) p hn
 ·have e:i=xs.length:=by omega
  subst e
  exact .inl ⟨⟨xs,q1,⟨ys,q2⟩,rfl⟩,hd σ H p⟩
theorem CI {Sq1 Sq2:Hp->List V->Prop} {xs ys:List V} {σc:St} {g:TG} {tc:TT} {te:TE} {Q:VK} {H1:Hp} (Pv:Nat->List V->Hp->Prop) (hlen:xs.length=ys.length) (hn:xs.length<sizeLine) (hl: ∀i acc H,Pv i acc H->Sq1 H xs/\Sq2 H ys) (h0:Pv 0 [] H1)
  (hs: ∀(i:Nat) (x y:V) (acc:List V) (H:Hp) (T:Addr) (Nx:List V->Hp->Prop),xs[i]? =some x->ys[i]? =some y->acc.length<=i->Pv i acc H->H T=none->(∀bI H',bI.length<=i+1->Pv (i+1) bI H'->Nx bI H')->
   g (.ref T) σc (upd H T (.tup [x,y])) fun σ2 H2=>Wk σc σ2/\tc σ2 H2 fun b H3=>if b=true then te σ2 H3 fun v H4=>Nx (acc++[v]) H4 else Nx acc H3)
  (hd: ∀acc H D,acc.length<=xs.length->Pv xs.length acc H->H D=none->Q (.ref D) (upd H D (.lst acc))):kM (GX Sq1 Sq2) σc g tc te Q H1:=by
 refine ⟨fun i m acc H=>m=xs.length - i/\i<=xs.length/\acc.length<=i/\Pv i acc H,⟨xs.length,by simp,Nat.zero_le _,Nat.le_refl _,h0⟩,?_⟩
 rintro i m acc H ⟨rfl,hi,uN,p⟩
 obtain ⟨q1,q2⟩:=hl i acc H p
 refine ⟨by omega,?_⟩
 by_cases cy:i<xs.length
 ·have JM:i<ys.length:=by omega
  refine .inr ⟨⟨xs,ys,xs[i],ys[i],q1,q2,by simp[cy],by simp[JM]⟩,fun x H' y=>?_⟩
  obtain ⟨T,u,v,hu,hv,rfl,hT,rfl⟩:=y
  exact hs i u v acc _ T (fun bI H'=> ∃m',m'<xs.length - i/\(m'=xs.length - (i+1)/\i+1<=xs.length/\bI.length<=i+1/\Pv (i+1) bI H')) (hu xs q1) (hv ys q2) uN p hT fun bI H' h1 h2=>⟨xs.length - (i+1),by omega,rfl,cy,h1,h2⟩
 ·have e:i=xs.length:=by omega
  subst e
  exact .inl ⟨⟨xs,q1,⟨ys,q2⟩,rfl⟩,fun D hD=>hd acc H D uN p hD⟩
end L2
namespace L2
open PySem PySem.Spec PyProof.Rows
section
variable {X:Cx}
end
end L2
namespace L2
open PySem PySem.Spec PyProof.Rows PySem.MeetsSeq PySem.SeqAt
section
variable {X:Cx}
end
end L2
namespace L2
open PySem PySem.Spec PyProof.Rows
end L2
namespace PySem
end PySem
namespace L2
open PySem PySem.Spec PyProof.Rows
structure aaY (P:Program) (w:World) (K:PySem.W.Frag) (mg:Str->Option Value) (base:Heap) (k:Nat) (f:Addr) (fd:FuncData) (ps:List Str) (sp:Sp) (pre:List Value->Shared->Prop) (post:Shared->Prop):Prop where
 len: ∀vs H Q E,sp vs H Q E->vs.length=ps.length
 run: ∀(A:Around) (outer:List Env) (s:Shared) (H:Hp) (args:Args) (us:List Value) (vs:List V) (Q:VK) (E:XK),gF k A->B9 P w K mg base A outer s H->BindsTo s fd args (ps.zip us)->Vals vs us->pre us s->sp vs H Q E->
  codeAny (model P w) A (.call (.ref f) args) (fun r s'=>CR eI outer P w H s Q E r s'/\post s') s
section
variable {P:Program} {w:World} {K:PySem.W.Frag} {mg:Str->Option Value} {base:Heap}
end
end L2
namespace L2
open PySem PySem.Spec PyProof.Rows
noncomputable def kh (c:Nat):List Nat->List (List Nat)
 | []=>[[]]
 | d::r=>if d=c then []::kh c r else match kh c r with | []=>[[d]] | p::ps=>(d::p)::ps
theorem oU (c:Nat): ∀l, ∃p ps,kh c l=p::ps
 | []=>⟨_,_,rfl⟩
 | d::r=>by
  unfold kh
  split
  ·exact ⟨_,_,rfl⟩
  ·obtain ⟨p,ps,e⟩:=oU c r
   rw[e];exact ⟨_,_,rfl⟩
noncomputable def wW (c:Nat):Nat->List Nat->List Nat
 | _,[]=>[]
 | a,d::r=>if d=c then a::wW c (a+1) r else wW c (a+1) r
theorem tW (l:List Nat) (c lim:Nat): ∀(r:List Nat) (a:Nat) (st:Array Nat×Nat),l.drop a=r->st.2<=a->st.1.size+r.length<lim->
  (forIn (List.range' a (r.length+1)) st (StrLaws.occBody (S l) (S [c]) l.length lim)).run.fst.toList=st.1.toList++wW c a r
 | [],a,st,hd,hf,hl=>by
  have fI:l.length<=a:=List.drop_eq_nil_iff.mp hd
  show (forIn [a] st (StrLaws.occBody (S l) (S [c]) l.length lim)).run.fst.toList=st.1.toList++[]
  rw[List.forIn_cons,List.append_nil]
  unfold StrLaws.occBody
  rw[if_neg (by rw[bG];simp only[List.length_cons,List.length_nil];omega)]
  rfl
 | d::r,a,st,hd,hf,hl=>by
  have fI:a<l.length:=by
   have:=congrArg List.length hd
   simp only[List.length_drop,List.length_cons]at this
   omega
  have AA:l[a]? =some d:=by
   have:=congrArg (fun z=>z[0]?) hd
   simpa using this
  have Iy:l.drop (a+1)=r:=by
   have:=congrArg List.tail hd
   simpa using this
  show (forIn (a::List.range' (a+1) (r.length+1)) st (StrLaws.occBody (S l) (S [c]) l.length lim)).run.fst.toList=_
  rw[List.forIn_cons]
  have xv:Builtin.Str.subAt (S l) (S [c]) a=(l[a]? ==some c):=subAt_one l c a
  simp only[List.length_cons]at hl
  by_cases h:d=c
  ·subst h
   unfold StrLaws.occBody
   rw[if_pos (by rw[xv,AA,bG];simp only[List.length_cons,List.length_nil];exact ⟨⟨⟨by omega,hf⟩,by omega⟩,by simp⟩)]
   have ih:=tW l d lim r (a+1) (st.1.push a,a+(S [d]).length) Iy (by rw[bG];simp) (by simp only[Array.size_push];omega)
   unfold wW
   rw[if_pos rfl]
   refine Eq.trans ih ?_
   simp
  ·unfold StrLaws.occBody
   rw[if_neg (by rw[xv,AA];simp[h])]
   have ih:=tW l c lim r (a+1) st Iy (by omega) (by omega)
   unfold wW
   rw[if_neg h]
   exact ih
theorem yW (l:List Nat) (c lim:Nat) (h:l.length<lim):Builtin.Str.occurrences (S l) (S [c]) 0 (S l).length lim=wW c 0 l:=by
 rw[StrLaws.occ_eq,bG]
 exact (tW l c lim l 0 (#[],0) rfl (Nat.le_refl _) (by simpa using h)).trans (by simp)
theorem vq (l:List Nat) (i j:Nat):Builtin.Str.strSub (S l) i j=S ((l.drop i).take (j - i)):=by
 apply Str.ext'
 apply Array.toList_inj.mp
 rw[StrLaws.strSub_toList]
 simp[S]
theorem mn (l:List Nat) (c:Nat): ∀(r:List Nat) (a b:Nat),b<=a->l.drop a=r->(∀d∈(l.drop b).take (a - b),d≠c)->
  StrLaws.partsFrom (S l) 1 b (wW c a r)=((match kh c r with | []=>[] | p::ps=>((l.drop b).take (a - b)++p)::ps)).map S
 | [],a,b,hba,hd,hn=>by
  have fI:l.length<=a:=List.drop_eq_nil_iff.mp hd
  show [Builtin.Str.strSub (S l) b (S l).length]=[S ((l.drop b).take (a - b)++[])]
  rw[vq,bG,List.append_nil]
  congr 2
  rw[List.take_of_length_le (by rw[List.length_drop];omega),List.take_of_length_le (by rw[List.length_drop];omega)]
 | d::r,a,b,hba,hd,hn=>by
  have fI:a<l.length:=by
   have:=congrArg List.length hd
   simp only[List.length_drop,List.length_cons]at this
   omega
  have Iy:l.drop (a+1)=r:=by
   have:=congrArg List.tail hd
   simpa using this
  have AA:l[a]? =some d:=by
   have:=congrArg (fun z=>z[0]?) hd
   simpa using this
  by_cases h:d=c
  ·subst h
   unfold wW kh
   rw[if_pos rfl,if_pos rfl]
   show Builtin.Str.strSub (S l) b a::StrLaws.partsFrom (S l) 1 (a+1) (wW d (a+1) r)=S _::(kh d r).map S
   rw[vq,List.append_nil,mn l d r (a+1) (a+1) (Nat.le_refl _) Iy (by simp)]
   obtain ⟨p,ps,e⟩:=oU d r
   rw[e]
   simp
  ·have e1:(l.drop b).take (a+1 - b)=(l.drop b).take (a - b)++[d]:=by
    have e0:a+1 - b=(a - b)+1:=by omega
    rw[e0,List.take_add_one,List.getElem?_drop]
    have e2:b+(a - b)=a:=by omega
    rw[e2,AA]
    rfl
   have ih:=mn l c r (a+1) b (by omega) Iy (by
    rw[e1]
    intro z hz
    rcases List.mem_append.mp hz with q | q
    ·exact hn z q
    ·rw[List.mem_singleton.mp q];exact h)
   unfold wW kh
   rw[if_neg h,if_neg h,ih]
   obtain ⟨p,ps,e⟩:=oU c r
   rw[e,e1]
   simp
theorem yX (l:List Nat) (c lim:Nat) (h:l.length<lim):Builtin.Str.partsBetween (S l) (Builtin.Str.occurrences (S l) (S [c]) 0 (S l).length lim) 1=(kh c l).map S:=by
 rw[StrLaws.partsBetween_eq,yW l c lim h,mn l c l 0 0 (Nat.le_refl _) rfl (by simp)]
 obtain ⟨p,ps,e⟩:=oU c l
 rw[e]
 simp
theorem vt (c:Nat): ∀(l:List Nat) (a:Nat),wW c a l=[]->l.filter (fun d=>decide (d≠c))=l
 | [],_,_=>rfl
 | d::r,a,h=>by
  unfold wW at h
  by_cases e:d=c
  ·rw[if_pos e]at h;cases h
  ·rw[if_neg e]at h
   rw[List.filter_cons_of_pos (by simpa using e),vt c r (a+1) h]
end L2
namespace L2
open PySem PySem.Spec PyProof.Rows
noncomputable def fo (c:Nat):List (List Nat)->List Nat
 | []=>[]
 | [p]=>p
 | p::q::r=>p++c::fo c (q::r)
theorem yY (c:Nat): ∀(ps:List (List Nat)),Builtin.Str.glued (S [c]) (ps.map S)=S (fo c ps)
 | []=>rfl
 | [p]=>rfl
 | p::q::r=>by
  have ih:=yY c (q::r)
  rw[StrLaws.glued_eq_join]at ih ⊢
  show S p++S [c]++Str.join (S [c]) ((q::r).map S)=_
  rw[ih,rz,rz,List.append_assoc]
  rfl
theorem mq (c:Nat): ∀ps:List (List Nat),(fo c ps).length<=(ps.map List.length).sum+ps.length
 | []=>Nat.le_refl _
 | [p]=>by simp[fo]
 | p::q::r=>by
  have ih:=mq c (q::r)
  unfold fo
  simp only[List.length_append,List.length_cons,List.map_cons,List.sum_cons]at ih ⊢
  omega
theorem nR {c:Nat}: ∀{p:List Nat} (r:List Nat),c∉p->kh c (p++c::r)=p::kh c r
 | [],r,_=>by
  show kh c (c::r)=_
  conv=>lhs;unfold kh
  rw[if_pos rfl]
 | d::p,r,h=>by
  have hd:d≠c:=fun z=>h (by rw[z];exact List.mem_cons_self)
  have ih:=nR r (fun z=>h (List.mem_cons_of_mem _ z):c∉p)
  show kh c (d::(p++c::r))=_
  conv=>lhs;unfold kh
  rw[if_neg hd,ih]
theorem kX {c:Nat}: ∀{p:List Nat},c∉p->kh c p=[p]
 | [],_=>rfl
 | d::p,h=>by
  have hd:d≠c:=fun z=>h (by rw[z];exact List.mem_cons_self)
  have ih:=kX (fun z=>h (List.mem_cons_of_mem _ z):c∉p)
  unfold kh
  rw[if_neg hd,ih]
theorem kY {c:Nat}: ∀{ps:List (List Nat)},ps≠[]->(∀p∈ps,c∉p)->kh c (fo c ps)=ps
 | [],h,_=>absurd rfl h
 | [p],_,h=>kX (h p List.mem_cons_self)
 | p::q::r,_,h=>by
  show kh c (p++c::fo c (q::r))=_
  rw[nR _ (h p List.mem_cons_self),kY (by simp) (fun x hx=>h x (List.mem_cons_of_mem _ hx))]
theorem yZ (c:Nat): ∀l:List Nat,(kh c l).length<=l.length+1
 | []=>Nat.le_refl _
 | d::r=>by
  have ih:=yZ c r
  unfold kh
  split
  ·simp only[List.length_cons];omega
  ·obtain ⟨p,ps,e⟩:=oU c r
   rw[e]at ih ⊢
   simp only[List.length_cons]at ih ⊢
   omega
theorem CJ (l:List Nat) (c:Nat):Txt.split (S l) (S [c])=(kh c l).map S:=by
 have hp:=yX l c (l.length+1) (Nat.lt_succ_self _)
 have ho:=yW l c (l.length+1) (Nat.lt_succ_self _)
 have GY:wW c 0 l=[]->(kh c l).map S=[S l]:=fun e=>by
  have hc:c∉l:=fun z=>by
   have e2:=vt c l 0 e
   have:c∈l.filter fun d=>decide (d≠c):=by rw[e2];exact z
   have:=(List.mem_filter.mp this).2
   simp at this
  rw[kX hc];rfl
 unfold Txt.split
 have e0:(S l).length+1=l.length+1:=by rw[bG]
 have e1:(S [c]).length=1:=by rw[bG];rfl
 rw[e0,ho]
 split
 ·rename_i h
  by_cases hz:wW c 0 l=[]
  ·exact (GY hz).symm
  ·exfalso
   rw[Bool.or_eq_true]at h
   have kA:c∈l:=by
    by_cases z:c∈l
    ·exact z
    ·exfalso
     apply hz
     have: ∀(r:List Nat) (a:Nat),c∉r->wW c a r=[]:=by
      intro r
      induction r with
      | nil=>intro a _;rfl
      | cons d r ih=>
       intro a hn
       unfold wW
       rw[if_neg (fun q:d=c=>hn (by rw[q];exact List.mem_cons_self)),ih (a+1) (fun q=>hn (List.mem_cons_of_mem _ q))]
     exact this l 0 z
   rcases h with h | h
   ·have h':=of_decide_eq_true h
    rw[bG,e1]at h'
    have:=List.length_pos_of_mem kA
    omega
   ·have h':=of_decide_eq_true h
    unfold Builtin.Str.strKind at h'
    have k1: ∀b:Nat,(S l).cps.all (· <b)=true->(S [c]).cps.all (· <b)=true:=fun b hb=>by
     have ea: ∀m:List Nat,(S m).cps.all (· <b)=m.all fun x=>decide (x<b):=fun m=>by simp[S]
     rw[ea,List.all_eq_true]at hb
     rw[ea,List.all_eq_true]
     intro x hx
     rw[List.mem_singleton.mp hx]
     exact hb c kA
    by_cases a1:(S l).cps.all (· <256)=true
    ·rw[if_pos a1,if_pos (k1 256 a1)]at h';omega
    ·rw[if_neg a1]at h'
     by_cases a2:(S l).cps.all (· <65536)=true
     ·rw[if_pos a2]at h'
      split at h'
      ·omega
      ·rw[if_pos (k1 65536 a2)]at h';omega
     ·rw[if_neg a2]at h'
      repeat' split at h'
      all_goals omega
 ·split
  ·rename_i h
   exact (GY (List.isEmpty_iff.mp h)).symm
  ·rw[<-ho,e1]
   exact hp
section
variable {X:Cx}
def JN (K:PySem.W.Frag) (c:Nat):V->List V->Hp->VK->Prop:=fun x vs H Q=> ∃(p:Addr) (ls:List (List Nat)),x= .str (S [c])/\vs=[.ref p]/\aT K H p (ls.map fun l=>V.str (S l))/\(ls.map List.length).sum+ls.length<=16777216/\Q (.str (S (fo c ls))) H
theorem oV (K:PySem.W.Frag) (c:Nat) (hK:X.K=K):wU X "str.join" (JN K c):=by
 subst hK
 intro pins s σ H x xs v us Q I rx rv h
 obtain ⟨p,ls,rfl,rfl,hq,hz,q⟩:=h
 obtain ⟨t,rfl⟩:=rx
 obtain ⟨u,rfl,ru⟩:=vals1 rv
 cases ru
 obtain ⟨aI,r,pl,_⟩:=I.list hq
 have e:(S [c]).length=1:=by rw[bG];rfl
 refine join_list pl.isList (by simpa using iq r) ?_ fun t' k=>?_
 ·rw[e,Nat.mul_one,List.map_map,List.length_map]
  have:((ls.map ((fun x:Str=>x.length) ∘ S)).sum)=(ls.map List.length).sum:=congrArg List.sum (List.map_congr_left fun l _=>bG l)
  rw[this];exact hz
 ·have e2:Txt.join (S [c]) (ls.map S)=S (fo c ls):=yY c ls
  rw[e2]
  exact ⟨.str (S (fo c ls)),H,I.tok _,⟨_,rfl⟩,q⟩
def Fj (c:Nat):V->List V->Hp->VK->Prop:=fun x vs H Q=> ∃l,x= .str (S l)/\vs=[.str (S [c])]/\l.length<=1000000/\ ∀p,H p=none->Q (.ref p) (upd H p (.lst ((kh c l).map fun l=>V.str (S l))))
theorem jX: ∀(ps:List (List Nat)) (tv:List (Str×Tok)),tv.map (·.1)=ps.map S->Vals (ps.map fun l=>V.str (S l)) (strValues tv)
 | [],[],_=> .nil
 | p::ps,(a,t)::tv,h=>by
  simp only[List.map_cons,List.cons.injEq]at h
  obtain ⟨rfl,h⟩:=h
  exact .cons ⟨t,rfl⟩ (jX ps tv h)
 | [],_::_,h=>by simp at h
 | _::_,[],h=>by simp at h
theorem mr (c:Nat):wU X "str.split" (Fj c):=by
 intro pins s σ H x xs v us Q I rx rv h
 obtain ⟨l,rfl,rfl,hz,q⟩:=h
 obtain ⟨t,rfl⟩:=rx
 obtain ⟨u,rfl,tu,rfl⟩:=vals1 rv
 have hn:=gb
 have hlen:=yZ c l
 have fin: ∀(tv:List (Str×Tok)) (k:Nat),tv.map (·.1)=Txt.split (S l) (S [c])->EP X pins σ Q (.ref s.heap.objs.size) { s with heap:=s.heap.push { cls:= .type "list",data:= .seq (strValues tv).toArray },toks:=k }:=fun tv k e=>by
  rw[CJ]at e
  have hf:H s.heap.objs.size=none:=I.bu.fresh (Nat.le_refl _)
  refine ⟨.ref s.heap.objs.size,_,I.laid (o:= .lst ((kh c l).map fun l=>V.str (S l))) (t':=k) (fun b u e=>Heap.get?_push_of_some _ e) (Nat.le_refl _) ?_,rfl,q _ hf⟩
  refine ⟨by rw[List.length_map];have:(1000001:Nat)<=sizeLine:=(by decide);omega,strValues tv,0,jX _ _ e,Heap.get?_push_size _ rfl⟩
 have hxs:(S l).length<=sizeLine:=by rw[bG];have:(1000001:Nat)<=sizeLine:=(by decide);omega
 have iN:(Builtin.Str.partsBetween (S l) (Builtin.Str.occurrences (S l) (S [c]) 0 (S l).length ((S l).length+1)) (S [c]).length).length<=sizeLine:=by
  have e1:(S [c]).length=1:=by rw[bG];rfl
  rw[e1,yX l c _ (by rw[bG];exact Nat.lt_succ_self _),List.length_map]
  have:(1000001:Nat)<=sizeLine:=by decide
  omega
 have hy:((S [c]).length==0)=false:=by rw[bG];rfl
 show wpAny _ _ (call (.builtin "str.split") [.str (S l) t, .str (S [c]) tu]) _ _ s
 cases h1:(decide ((S l).length<(S [c]).length)||decide (Builtin.Str.strKind (S l)<Builtin.Str.strKind (S [c])))
 ·cases hf:(Builtin.Str.occurrences (S l) (S [c]) 0 (S l).length ((S l).length+1)).isEmpty
  ·refine call_meets F.slot_str_split (typeIs_str _ _ _) F.entry_str_split (F.args_str_split_2 _ _) (meets_str_split_sep (S l) (S [c]) t tu h1 hy hf hxs iN) ?_
   show wants _ _ _ { s with toks:=_,heap:=s.heap.push { cls:= .type "list",data:= .seq (strsFrom s.toks _).toArray } }
   rw[strsFrom_eq]
   exact fin (numbered s.toks _) _ ((numbered_texts _ _).trans ((if_neg (ne_true_of_eq_false h1)).trans (if_neg (ne_true_of_eq_false hf))).symm)
  ·exact call_meets F.slot_str_split (typeIs_str _ _ _) F.entry_str_split (F.args_str_split_2 _ _) (meets_str_split_not_found (S l) (S [c]) t tu h1 hy hf)
    (fin [(S l,t)] s.toks ((if_neg (ne_true_of_eq_false h1)).trans (if_pos hf)).symm)
 ·exact call_meets F.slot_str_split (typeIs_str _ _ _) F.entry_str_split (F.args_str_split_2 _ _) (meets_str_split_cannot_occur (S l) (S [c]) t tu h1)
   (fin [(S l,t)] s.toks (if_pos h1).symm)
noncomputable def dg (n:Nat):List Nat:=((toString (n:Int):String):Str).cps.toList
theorem Np (n:Nat):((toString (n:Int):String):Str)=S (dg n):=MY _
theorem rL {n:Nat} (h:n<2 ^ 60):((n:Int)).natAbs.log2<1920:=by
 rw[Int.natAbs_natCast]
 by_cases z:n=0
 ·subst z;decide
 ·exact (Nat.log2_lt z).mpr (Nat.lt_of_lt_of_le h (Nat.pow_le_pow_right (by decide) (by decide)))
def Nq (c:Nat) (ta tb:TE):TE:=fun σ H Q=>ta σ H fun x H1=> ∃n:Nat,x= .int n/\n<1000000/\(dg n).length<=400/\tb σ H1 fun y H2=> ∃m:Nat,y= .int m/\m<1000000/\(dg m).length<=400/\Q (.str (S (dg n++c::dg m))) H2
theorem Fl {a b:Expr} {ta tb:TE} {x:Str} {kk:Nat} {p1 p2 p3 pos:Pos} (c:Nat) (hx:x=S [c]) (ha:PE X a ta) (hb:PE X b tb):
  PE X (.JoinedStr [.FormattedValue a (-1) none p1, .Constant (.str x) kk p2, .FormattedValue b (-1) none p3] pos) (Nq c ta tb):=by
 subst hx
 intro pins s σ H Q I h
 have hz:(1000:Nat)<=sizeLine:=by decide
 refine JoinedStr_many (joinParts_cons (FormattedValue_plain (bZ (ha pins s σ H _ I h) fun v s1 ⟨x,H1,I1,r1,n,e1,hn,Ss,q1⟩=>?_)))
 subst e1
 obtain ⟨t,rfl⟩:=r1
 refine formatField_int_small (rL (by omega)) ?_
 have e0:Str.empty++((toString (n:Int):String):Str)=S (dg n):=by rw[Np];exact rz [] (dg n)
 show (Str.empty++((toString (n:Int):String):Str)).length<=sizeLine/\wpAny _ _ (joinParts (Str.empty++((toString (n:Int):String):Str)) _) _ _ _
 rw[e0]
 have I1':Inv X pins σ H1 { s1 with toks:=s1.toks+1+1 }:=I1.tok _
 have SU:Inv X pins σ H1 { s1 with toks:=s1.toks+1+1+1 }:=I1.tok _
 refine ⟨by rw[bG];omega,?_⟩
 refine joinParts_cons (Calls.Constant_str (k:=kk) (pos:=p2) ?_)
 show (S (dg n)++S [c]).length<=sizeLine/\wpAny _ _ (joinParts (S (dg n)++S [c]) _) _ _ _
 rw[rz]
 refine ⟨by rw[bG,List.length_append,List.length_singleton];omega,?_⟩
 refine joinParts_cons (FormattedValue_plain (bZ (hb pins _ σ H1 _ SU q1) fun v s2 ⟨y,H2,I2,r2,m,e2,hm,hl,q2⟩=>?_))
 subst e2
 obtain ⟨t2,rfl⟩:=r2
 refine formatField_int_small (rL (by omega)) ?_
 show (S (dg n++[c])++((toString (m:Int):String):Str)).length<=sizeLine/\wpAny _ _ (joinParts (S (dg n++[c])++((toString (m:Int):String):Str)) []) _ _ _
 rw[Np,rz,List.append_assoc,List.singleton_append]
 have BN:(dg n++c::dg m).length<=1000:=by rw[List.length_append,List.length_cons];omega
 refine ⟨by rw[bG];omega,joinParts_nil ?_ (by rw[bG];omega)⟩
 exact ⟨.str (S (dg n++c::dg m)),H2,(I2.tok _).tok _,⟨_,rfl⟩,q2⟩
end
end L2
namespace L2
open PySem PySem.Spec PyProof.Rows
structure ZT (P:Program) (w:World) (K:PySem.W.Frag) (fp:List Addr) (it:Addr) (Sq:Hp->List V->Prop) (IT:Nat->Heap->Prop):Prop where
 obj: ∀i h,IT i h-> ∃o,h.get? it=some o/\ ∀v,o.data≠ .cell v
 keep: ∀i h h',IT i h->(∀o,h.get? it=some o->h'.get? it=some o)->IT i h'
 inj: ∀(X:Cx),X.K=K-> ∀(pins:List (Addr×Obj)) (s:Shared) (σ:St) (H:Hp),Inv X pins σ H s-> ∀xs ys,Sq H xs->Sq H ys->xs=ys
 draws: ∀(X:Cx),X.prog=P->X.w=w->X.K=K->X.calm=true-> ∀(pins:List (Addr×Obj)) (s:Shared) (σ:St) (H:Hp),Inv X pins σ H s-> ∀xs,Sq H xs->
  ∃(PP:Nat->Value->Prop) (SS:Nat->Heap->Prop),(∀i x v,xs[i]? =some x->PP i v->RelV x v)/\Draws P w X.A.in1 it fp xs.length PP SS/\(∀i,IT i s.heap->SS i s.heap)/\ ∀i h,SS i h->IT i h
theorem ZS.zt {P:Program} {w:World} {K:PySem.W.Frag} {a it:Addr} {Sq:Hp->List V->Prop} {IT:Nat->Heap->Prop} (Z:ZS P w K a it Sq IT) (ne:a≠it):ZT P w K [it,a] it Sq IT where
 obj:=Z.obj
 keep:=Z.keep
 inj:=Z.inj
 draws:=fun X hP hw hK hc pins s σ H I xs hq=>by
  obtain ⟨aI,SS,rv,D,h1,h2⟩:=Z.draws X hP hw hK hc pins s σ H I xs hq ne
  rw[<-rv.length]at D
  refine ⟨_,SS,fun i x v hx hv=>?_,D,h1,h2⟩
  obtain ⟨u,hu,ru⟩:=rv.get hx
  have:v=u:=Option.some.inj (hv.symm.trans hu)
  rw[this];exact ru
theorem JO {P:Program} {w:World} {K:PySem.W.Frag} (it:Addr) (l:List Nat) (t:Tok):ZT P w K [it] it (fun _ xs=>xs=cq l) (fun i h=>h.IsStrIter it (strIterType (S l)) (S l) t i) where
 obj:=fun i h st=>by
  obtain ⟨o,ho,hc,hd⟩:=st
  exact ⟨o,ho,fun v z=>by rw[hd]at z;cases z⟩
 keep:=fun i h h' st k=>by
  obtain ⟨o,ho,r⟩:=st
  exact ⟨o,k o ho,r⟩
 inj:=fun X hK pins s σ H I xs ys h1 h2=>h1.trans h2.symm
 draws:=fun X hP hw hK hc pins s σ H I xs hq=>by
  subst hP hw hK hq
  have rel: ∀i x v,(cq l)[i]? =some x->(∃(c:Nat) (u:Tok),(S l).cps[i]? =some c/\v=Value.str ⟨#[c]⟩ u)->RelV x v:=fun i x v hx hh=>by
   obtain ⟨c,u,e1,e2⟩:=hh
   obtain ⟨d,hd,rfl⟩:=di hx
   have e3:l[i]? =some c:=by rw[<-e1];show l[i]? =l.toArray[i]?; exact (List.getElem?_toArray ..).symm
   rw[hd]at e3;cases e3
   exact ⟨u,e2⟩
  have e:(S l).cps.size=(cq l).length:=by rw[ja,aU]
  by_cases ha:(S l).cps.all (· <128)=true
  ·have et:strIterType (S l)="str_ascii_iterator":=by unfold strIterType;rw[if_pos ha]
   have D:=Draws.strAscii (prog:=X.prog) (w:=X.w) (A:=X.A.in1) (I.ok.hd hc) it (S l) t
   rw[e]at D
   exact ⟨_,_,rel,D,fun i h=>by rw[et]at h;exact h,fun i h z=>by rw[et];exact z⟩
  ·have et:strIterType (S l)="str_iterator":=by unfold strIterType;rw[if_neg ha]
   have D:=Draws.strWide (prog:=X.prog) (w:=X.w) (A:=X.A.in1) (I.ok.hd hc) it (S l) t
   rw[e]at D
   exact ⟨_,_,rel,D,fun i h=>by rw[et]at h;exact h,fun i h z=>by rw[et];exact z⟩
theorem AB {P:Program} {w:World} {K:PySem.W.Frag} {elts:List Expr} {k:Nat} {pos:Pos} {z TI TO i1 i2:Addr} {f1 f2:List Addr} {Sq1 Sq2:Hp->List V->Prop} {I1 I2:Nat->Heap->Prop}
  (W1:ZT P w K f1 i1 Sq1 I1) (W2:ZT P w K f2 i2 Sq2 I2) (Z:ZA z TI TO i1 i2 f1 f2):
  Turn P w K (.Tuple elts k pos) (GX Sq1 Sq2) [z,TI,TO,i1,i2] z (fun i h=>IsZip h z TI TO .none/\IsPair h TI (.ref i1) (.ref i2)/\(∃a b,IsPair h TO a b)/\I1 i h/\I2 i h) where
 mem:=by simp
 obj:=fun i h st b hb=>by
  obtain ⟨q1,q2,⟨a,b',q3⟩,q4,q5⟩:=st
  simp only[List.mem_cons,List.not_mem_nil,or_false]at hb
  rcases hb with g | g | g | g | g<;>rw[g]
  ·exact ⟨_,q1,fun v z=>by cases z⟩
  ·exact ⟨_,q2,fun v z=>by cases z⟩
  ·exact ⟨_,q3,fun v z=>by cases z⟩
  ·exact W1.obj i h q4
  ·exact W2.obj i h q5
 keep:=fun i h h' st kp=>by
  obtain ⟨q1,q2,⟨a,b',q3⟩,q4,q5⟩:=st
  exact ⟨kp z (by simp) _ q1,kp TI (by simp) _ q2,⟨a,b',kp TO (by simp) _ q3⟩,W1.keep _ _ _ q4 fun o e=>kp i1 (by simp) o e,W2.keep _ _ _ q5 fun o e=>kp i2 (by simp) o e⟩
 item:=by
  intro X hP hw hK hc i pins s σ H E I hf st hg
  obtain ⟨q1,q2,⟨a,b',q3⟩,q4,q5⟩:=st
  obtain ⟨xs,ys,x,y,hx,hy,gx,gy⟩:=hg
  obtain ⟨PX,SX,rx,DX,ux,vx⟩:=W1.draws X hP hw hK hc pins s σ H I xs hx
  obtain ⟨PY,SY,ry,DY,uy,vy⟩:=W2.draws X hP hw hK hc pins s σ H I ys hy
  have SV:=W1.inj X hK pins s σ H I
  have SW:=W2.inj X hK pins s σ H I
  subst hP hw hK
  refine xB DX DY Z q1 q2 q3 (ux i q4) (uy i q5) (List.getElem?_eq_some_iff.mp gx).1 (List.getElem?_eq_some_iff.mp gy).1 fun x2 y2 h' tk p1 p2 e1 e2 e3 e4 e5 e6 e7=>⟨_,rfl,?_⟩
  have ru:=rx i x x2 gx p1
  have S0:=ry i y y2 gy p2
  have lt: ∀{c o},s.heap.get? c=some o->s.heap.objs.size≠c:=fun e=>Nat.ne_of_gt (Heap.lt_size e)
  obtain ⟨o1,g1⟩:=DX.live _ _ (ux i q4)
  obtain ⟨o2,g2⟩:=DY.live _ _ (uy i q5)
  have BM:s.heap.objs.size∉[z,TI,TO,i1,i2]:=by
   simp only[List.mem_cons,List.not_mem_nil,or_false,not_or]
   exact ⟨lt q1,lt q2,lt q3,lt g1,lt g2⟩
  refine wpAny_letOwnedTupleGo_zip e1 fun h2 z2 sb=>?_
  have kk: ∀b o,b∉[z,TI,TO,i1,i2]->s.heap.get? b=some o->h2.get? b=some o:=fun b o hb e=>by
   simp only[List.mem_cons,List.not_mem_nil,or_false,not_or]at hb
   exact sb.extBut _ _ hb.1 (e7 b o hb.1 hb.2.2.1 hb.2.2.2.1 hb.2.2.2.2 e)
  have kR:h2.IsTuple s.heap.objs.size #[x2,y2]:=⟨_,sb.extBut _ _ (lt q1) e5,rfl,_,rfl⟩
  refine ⟨.ref s.heap.objs.size,upd H s.heap.objs.size (.tup [x,y]),?_,rfl,⟨s.heap.objs.size,x,y,fun zs JP=>by rw[SV zs xs JP hx];exact gx,fun zs JP=>by rw[SW zs ys JP hy];exact gy,rfl,I.bu.fresh (Nat.le_refl _),rfl⟩,
   ⟨z2,sb.extBut _ _ Z.tz (e7 _ _ Z.tz Z.tt Z.t1 Z.t2 q2),⟨_,_,sb.extBut _ _ Z.oz e2⟩,vx _ _ (DX.frame _ _ _ e3 fun c hc o e=>sb.extBut _ _ (nm hc Z.z1) e),vy _ _ (DY.frame _ _ _ e4 fun c hc o e=>sb.extBut _ _ (nm hc Z.z2) e)⟩,fun b hb=>?_⟩
  ·refine I.je (t':=tk) (h':=h2) kk hf (Nat.le_refl _) ?_
   exact ⟨by show 2<=sizeLine;decide,[x2,y2], .cons ru (.cons S0 .nil),kR⟩
  ·rw[aq (fun q:b=s.heap.objs.size=>BM (q▸hb))];exact (hf b hb).1
 done:=by
  intro X hP hw hK hc i pins s σ H E I hf st hg
  obtain ⟨q1,q2,⟨a,b',q3⟩,q4,q5⟩:=st
  obtain ⟨xs,hx,⟨ys,hy⟩,el⟩:=hg
  obtain ⟨PX,SX,rx,DX,ux,vx⟩:=W1.draws X hP hw hK hc pins s σ H I xs hx
  subst hP hw hK
  subst el
  refine Az DX Z q1 q2 q3 (ux _ q4) fun h' hk=>⟨rfl,I.kQ (t':=s.toks) (ch:=[z,TI,TO,i1,i2]) (fun b o hb e=>?_) hf⟩
  simp only[List.mem_cons,List.not_mem_nil,or_false,not_or]at hb
  exact hk b o hb.1 hb.2.2.1 hb.2.2.2.1 hb.2.2.2.2 e
 self:=fun _ _ s _ _ st h=>wpAny_pyIter_zip st.1 h
noncomputable abbrev Qh (h:Heap) (x:Str) (t:Tok):Heap:=h.push { cls:= .type (strIterType x),data:= .fields #[.str x t, .int 0 0] }
noncomputable abbrev Qi (h:Heap) (x:Str) (t:Tok) (m:Addr):Heap:=LP (Qh h x t) "tuple_iterator" m
noncomputable abbrev Qj (h:Heap) (x:Str) (t:Tok) (m:Addr):Heap:=(Qi h x t m).push { cls:= .type "tuple",data:= .seq #[.ref h.objs.size, .ref (Qh h x t).objs.size] }
noncomputable abbrev Qk (h:Heap) (x:Str) (t:Tok) (m:Addr):Heap:=(Qj h x t m).push { cls:= .type "tuple",data:= .seq #[.none, .none] }
noncomputable abbrev LQ (h:Heap) (x:Str) (t:Tok) (m:Addr):Heap:=(Qk h x t m).push { cls:= .type "zip",data:= .fields #[.none, .bool false, .bool false, .ref (Qi h x t m).objs.size, .ref (Qj h x t m).objs.size] }
set_option maxHeartbeats 4000000 in
theorem vv (x:Str) (t:Tok) (m:Addr) (ys:Array Value):Meets (Builtin.«zip.__new__» ⟨[.type "zip", .str x t, .ref m],[]⟩) (fun _ R s=>s.heap.IsTuple m ys/\R (.ok (.ret (.ref (Qk s.heap x t m).objs.size))) { s with heap:=LQ s.heap x t m }):=
 .of_wp fun prog w A R s h=>by
  obtain ⟨hp,g,d,tk,os⟩:=s;obtain ⟨q2,h⟩:=h;have xv:=sub_zip
  have k2:Heap.IsTuple (Shared.heap ⟨hp.push { cls:= .type (strIterType x),data:= .fields #[.str x t, .int 0 0] },g,d,tk,os⟩) m ys:=by
   obtain ⟨o,e,r⟩:=q2
   exact ⟨o,Heap.get?_push_of_some _ e,r⟩
  have k1: ∀{A':Around} {E':Value->Shared->Prop} {Q':Value->Shared->Prop},Q' (.ref hp.objs.size) ⟨hp.push { cls:= .type (strIterType x),data:= .fields #[.str x t, .int 0 0] },g,d,tk,os⟩->wpAny (model prog w) A' (pyIter (.str x t)) Q' E' ⟨hp,g,d,tk,os⟩:=fun h=>wpAny_pyIter_strU (s:=⟨hp,g,d,tk,os⟩) h
  wp_walk using k1,wpAny_pyIter_tuple k2
  exact ⟨_,rfl,h⟩
theorem JQ (x:Str) (t:Tok) (m:Addr) (ys:Array Value) {prog:Program} {w:World} {A:Around} {E:Value->Shared->Prop} {s:Shared} {Q:Value->Shared->Prop} (p2:s.heap.IsTuple m ys)
  (h: ∀h',IsZip h' (s.heap.objs.size+4) (s.heap.objs.size+2) (s.heap.objs.size+3) .none->IsPair h' (s.heap.objs.size+2) (.ref s.heap.objs.size) (.ref (s.heap.objs.size+1))->
   IsPair h' (s.heap.objs.size+3) .none .none->h'.get? s.heap.objs.size=some { cls:= .type (strIterType x),data:= .fields #[.str x t, .int 0 0] }->h'.get? (s.heap.objs.size+1)=some { cls:= .type "tuple_iterator",data:= .fields #[.ref m, .int 0 0] }->
   (∀b o,s.heap.get? b=some o->h'.get? b=some o)->Q (.ref (s.heap.objs.size+4)) { s with heap:=h' }):
  wpAny (model prog w) A (call (.type "zip") [.str x t, .ref m]) Q E s:=by
 refine callType_new F.called_zip (by decide) (F.typeCall_zip_2 _ _) (F.newCall_zip_2 _ _) (fun ob=>F.args_object_init_3 ob _ _) F.entry_zip_new (vv x t m ys) ⟨p2,?_⟩
 have e1:(Qh s.heap x t).objs.size=s.heap.objs.size+1:=Heap.size_push ..
 have e2:(Qi s.heap x t m).objs.size=s.heap.objs.size+2:=by rw[Heap.size_push,e1]
 have e3:(Qj s.heap x t m).objs.size=s.heap.objs.size+3:=by rw[Heap.size_push,e2]
 have e4:(Qk s.heap x t m).objs.size=s.heap.objs.size+4:=by rw[Heap.size_push,e3]
 have g5:(LQ s.heap x t m).get? (Qk s.heap x t m).objs.size=some _:=Heap.get?_push_size _ rfl
 have g4:(LQ s.heap x t m).get? (Qj s.heap x t m).objs.size=some _:=Heap.get?_push_of_some _ (Heap.get?_push_size _ rfl)
 have g3:(LQ s.heap x t m).get? (Qi s.heap x t m).objs.size=some _:=Heap.get?_push_of_some _ (Heap.get?_push_of_some _ (Heap.get?_push_size _ rfl))
 have g2:(LQ s.heap x t m).get? (Qh s.heap x t).objs.size=some _:=Heap.get?_push_of_some _ (Heap.get?_push_of_some _ (Heap.get?_push_of_some _ (Heap.get?_push_size _ rfl)))
 have g1:(LQ s.heap x t m).get? s.heap.objs.size=some _:=Heap.get?_push_of_some _ (Heap.get?_push_of_some _ (Heap.get?_push_of_some _ (Heap.get?_push_of_some _ (Heap.get?_push_size _ rfl))))
 show _/\_
 rw[e2,e3,e4]at g5
 rw[e1,e2]at g3
 rw[e3]at g4
 rw[e1]at g2
 rw[e4]
 exact ⟨⟨_,g5,rfl⟩,h _ g5 g3 g4 g1 g2 fun b o x=>Heap.get?_push_of_some _ (Heap.get?_push_of_some _ (Heap.get?_push_of_some _ (Heap.get?_push_of_some _ (Heap.get?_push_of_some _ x))))⟩
theorem Fm {n m:Nat} (h2:m<n):ZA (n+4:Nat) (n+2:Nat) (n+3:Nat) n (n+1:Nat) [n] [(n+1:Nat),m]:=by
 have n1: ∀{a b:Nat},a≠b->(a:Addr)∉([b]:List Addr):=fun h q=>h (List.mem_singleton.mp q)
 exact ⟨List.mem_cons_self,List.mem_cons_self,n1 (a:=n+4) (by omega),Fi (a:=n+4) (b:=n+1) (c:=m) (by omega) (by omega),n1 (a:=n+3) (by omega),Fi (a:=n+3) (b:=n+1) (c:=m) (by omega) (by omega),
  Fi (a:=n) (b:=n+1) (c:=m) (by omega) (by omega),n1 (a:=n+1) (by omega),Ei (a:=n+2) (b:=n+4) (by omega),Ei (a:=n+2) (b:=n+3) (by omega),Ei (a:=n+2) (b:=n) (by omega),Ei (a:=n+2) (b:=n+1) (by omega),Ei (a:=n+3) (b:=n+4) (by omega)⟩
section
variable {X:Cx} {elts:List Expr} {k:Nat} {pos':Pos} {a b:Expr} {ta:TA} {p pos:Pos}
abbrev JR (l:List Nat):Hp->List V->Prop:=fun _ xs=>xs=cq l
def JS (K:PySem.W.Frag) (ta:TA):TI:=fun σ H R=>ta σ H fun vs H1=> ∃l b,vs=[.str (S l), .ref b]/\(∃ys,aW K H1 b ys)/\R (GX (JR l) (xD K b)) H1
theorem vw (K:PySem.W.Frag) (hK:X.K=K) (hg:Gl X "zip") (hm:X.mg "zip"=none) (ha:PA X [a,b] ta) (hs:starEach [a,b] X.env=[(false,eval a X.env),(false,eval b X.env)]:=by rfl) (tf:starEach [b] X.env=[(false,eval b X.env)]:=by rfl):
  PI X (.Tuple elts k pos') (.Call (.Name "zip" p) [a,b] [] pos) (JS K ta):=by
 subst hK
 intro pins s σ H R I h
 refine Call_ (dE I hg hm boot_zip (PyProof.Rows.callWith_type1 (bZ (ha pos pins s σ H _ I h) fun us s1 ⟨vs,H1,I1,r1,q1⟩=>?_) (by rw[hs,tf]) (by rw[tf];rfl)))
 obtain ⟨l,v,rfl,⟨ys,hy⟩,q⟩:=q1
 obtain ⟨u',v',rfl,ru,rv⟩:=vals2 r1
 obtain ⟨t,rfl⟩:=ru
 cases rv
 obtain ⟨yi,_,py,_⟩:=I1.tuple hy
 obtain ⟨oy,ey,_⟩:=id py
 have lv:=Heap.lt_size ey
 refine JQ (S l) t v yi.toArray py fun h' z1 z2 z3 z4 z5 kk=>wpAny_pyIter_zip z1 ?_
 refine ⟨s1.heap.objs.size+4,[s1.heap.objs.size+4,s1.heap.objs.size+2,s1.heap.objs.size+3,s1.heap.objs.size,s1.heap.objs.size+1],_,_,H1,rfl,I1.kept (t':=s1.toks) kk,AB (JO s1.heap.objs.size l t) ((xC v (s1.heap.objs.size+1)).zt (Nat.ne_of_lt (Nat.lt_succ_of_lt lv))) (Fm lv),
  ⟨z1,z2,⟨_,_,z3⟩,⟨_,z4,rfl,rfl⟩,⟨_,z5,rfl,rfl⟩⟩,fun e he=>?_,q⟩
 have Nr:s1.heap.objs.size<=e:=by
  simp only[List.mem_cons,List.not_mem_nil,or_false]at he
  rcases he with g | g | g | g | g<;>rw[g]<;>omega
 exact I1.kD Nr (I1.bu.fresh Nr)
end
end L2
set_option maxHeartbeats 1000000
namespace L2
open PySem PySem.Spec PyProof.Rows
theorem vz:typeLookup (.type "dict") "__len__"=pure (some (.builtin "dict.__len__")):=PySem.F.slot_dict_len.lookup
section
variable {prog:Program} {w:World} {A:Around} {E:Value->Shared->Prop} {s:Shared} {KK:Type} [DecidableEq KK] {knd:PySem.KeyKind prog w KK}
theorem tX {Q:List Value->Shared->Prop} (hh:A.handled=none) (d:Addr) (kvs:List (KK×Value)) (ep:Nat) (hd:(d==sysModules)=false) (hm:s.heap.DictAt knd d kvs ep) (hn:kvs.length<=sizeLine)
  (hQ: ∀s' acc,(∀b o,s.heap.get? b=some o->s'.heap.get? b=some o)->s'.gens=s.gens->s'.drawn=s.drawn->s'.os=s.os->ItemsOf (fun i v=> ∃k x,kvs[i]? =some (k,x)/\knd.is k v=true) acc kvs.length->Q acc.toList s'):
  wpAny (model prog w) A (collect (.ref d)) Q E s:=by
 have hT:s.TypeIs (.ref d) "dict":=hm.dictOf.typeIs
 obtain ⟨od,tY,aa_⟩:=id hT
 have Nt:=Heap.lt_size tY
 unfold collect
 refine wpAny_bind (wpAny_runValue (codeAny_builtin PySem.F.entry_proto_collect ?_))
 rw[Around.under_plainId PySem.F.plain_proto_collect _]
 show wpAny _ A.in1 (newList [] >>= fun l=>again (.builtin "list.__iadd__" ⟨[l, .ref d],[]⟩)) _ _ s
 refine wpAny_bind (wpAny_newObj_type ?_)
 refine wpAny_pure ⟨plainId_quiet PySem.F.plain_list_iadd _,codeAny_builtin PySem.F.entry_list_iadd ?_⟩
 rw[Around.under_plainId PySem.F.plain_list_iadd _]
 show wpAny _ A.in1 (Builtin.List.listExtendWith (.ref s.heap.objs.size) (.ref d) (.ref s.heap.objs.size)) _ _ _
 generalize hH:s.heap.push { cls:= .type "list",data:= .seq ([]:List Value).toArray }=H
 have S3:H.objs.size=s.heap.objs.size+1:=by rw[<-hH,Heap.size_push]
 have JT:H.DictAt knd d kvs ep:=hm.at' fun o e=>by rw[<-hH];exact Heap.get?_push_of_some _ e
 have hT1:Shared.TypeIs { s with heap:=H } (.ref d) "dict":=JT.dictOf.typeIs
 have S4:s.heap.objs.size≠d:=Nat.ne_of_gt Nt
 unfold Builtin.List.listExtendWith
 refine wpAny_bind (wpAny_typeOf hT1 ?_)
 have h1:Builtin.List.listSameRef (.ref s.heap.objs.size) (.ref d)=false:=by simp[Builtin.List.listSameRef,S4]
 rw[if_neg (by rw[h1];decide)]
 refine wpAny_bind (wpAny_pyIter_dict (s:={ s with heap:=H }) hd JT ?_)
 show wpAny _ A.in1 _ _ _ { s with heap:=H.push { cls:= .type "dict_keyiterator",data:= .fields #[.ref d, .int 0 0, .int kvs.length 0, .int ep 0] } }
 generalize GN:H.push { cls:= .type "dict_keyiterator",data:= .fields #[.ref d, .int 0 0, .int kvs.length 0, .int ep 0] }=H2
 have JU:H2.DictAt knd d kvs ep:=JT.at' fun o e=>by rw[<-GN];exact Heap.get?_push_of_some _ e
 have S5:Shared.TypeIs { s with heap:=H2 } (.ref d) "dict":=JU.dictOf.typeIs
 refine wpAny_bind (wpAny_holding ?_)
 unfold Builtin.List.listLengthHint
 refine wpAny_bind (wpAny_specialOf S5 vz ?_)
 wp_delta
 refine wpAny_bind (wpAny_isInstance (T:="dict") (b:=true) S5 (by rw[isSubtype_type];kernel_rfl) ?_)
 show wpAny _ A.in1 (typeOf (Value.ref d) >>= _) _ _ _
 refine wpAny_bind (wpAny_typeOf S5 ?_)
 refine wpAny_pure ?_
 rw[if_pos (by decide+kernel)]
 refine wpAny_bind (wpAny_rule ?_)
 refine wpAny_bind ?_
 unfold Builtin.List.listTouch
 have hS:H2.get? s.heap.objs.size=some { cls:= .type "list",data:= .seq ([]:List Value).toArray }:=by
  rw[<-GN];exact Heap.get?_push_of_some _ (by rw[<-hH];exact Heap.get?_push_size _ rfl)
 refine wpAny_bind (wpAny_updateSeq hS rfl ?_ (Nat.zero_le _) (Nat.succ_le_succ (Nat.zero_le _)))
 have hS2:=Heap.get?_update_self (Obj.mapSeq (fun l:Array Value=>l.push .none)) hS rfl
 refine wpAny_updateSeq hS2 rfl ?_ (by show 1<=sizeLine;decide) (Nat.zero_le _)
 have hS3:=Heap.get?_update_self (Obj.mapSeq (fun l:Array Value=>l.pop)) hS2 rfl
 have S6: ∀b o,b≠s.heap.objs.size->H2.get? b=some o->((H2.update s.heap.objs.size (Obj.mapSeq (fun l:Array Value=>l.push .none))).update s.heap.objs.size (Obj.mapSeq (fun l:Array Value=>l.pop))).get? b=some o:=fun b o hb e=>
  (Heap.get?_update_other _ _ (Ne.symm hb)).trans ((Heap.get?_update_other _ _ (Ne.symm hb)).trans e)
 have hit:H2.get? H.objs.size=some { cls:= .type "dict_keyiterator",data:= .fields #[.ref d, .int 0 0, .int kvs.length 0, .int ep 0] }:=by rw[<-GN];exact Heap.get?_push_size _ rfl
 have hIS:H.objs.size≠s.heap.objs.size:=by rw[S3];exact Nat.succ_ne_self _
 have hdI:d≠H.objs.size:=by rw[S3];exact Nat.ne_of_lt (Nat.lt_succ_of_lt Nt)
 have hSf:s.heap.objs.size∉[H.objs.size,d]:=fun hmm=>by
  rcases List.mem_cons.mp hmm with z | z
  ·exact hIS z.symm
  ·exact S4 (List.mem_singleton.mp z)
 refine wpAny_pure ⟨plainId_quiet PySem.F.plain_extend_loop _,codeAny_extend_loopS (Walks.dictKeys (knd:=knd) (A:=A.in1) hh H.objs.size d hdI kvs ep).toS hn _ hSf _ kvs.length 0 _ _ _ rfl (Nat.zero_le _)
  ⟨⟨_,S6 _ _ hIS hit,rfl,rfl⟩,JU.at' fun o e=>S6 d o (Ne.symm S4) e⟩ hS3 (ItemsOf.nil _) fun s' bI c' Ql hS' oD=>?_⟩
 show wpAny _ A (load s.heap.objs.size >>= _) _ _ s'
 refine wpAny_bind (wpAny_load hS' ?_)
 refine wpAny_pure (hQ s' bI (fun b ob e=>Ql.heap b ob (fun hb=>?_) (S6 b ob (Nat.ne_of_lt (Heap.lt_size e)) (by rw[<-GN];exact Heap.get?_push_of_some _ (by rw[<-hH];exact Heap.get?_push_of_some _ e)))) Ql.gens Ql.drawn Ql.os oD)
 have cy:=Heap.lt_size e
 rcases List.mem_cons.mp hb with h | h
 ·exact absurd cy (h▸Nat.lt_irrefl _)
 ·rw[List.mem_singleton.mp h,S3]at cy;exact absurd cy (Nat.not_lt.mpr (Nat.le_succ _))
theorem vA {Q:Value->Shared->Prop} (hh:A.handled=none) (d:Addr) (kvs:List (Key×Value)) (ep:Nat) (ls:List (List Nat)) (hk:kvs.map (·.1)=ls.map fun l=>Sum.inr (S l)) (hd:(d==sysModules)=false) (hm:s.heap.DictAt (bT prog w) d kvs ep) (Jz:kvs.length<64)
  (h: ∀(h1 h':Heap) (tk:Nat) (a:Addr) (out:Array Value) (Ap:List Str) (e:Nat),(∀b o,s.heap.get? b=some o->h1.get? b=some o)->(∀b o,h1.get? b=some o->h'.get? b=some o)->a=h1.objs.size->h'.get? a=some (seqObj "list" out e)->StrsAre out.toList Ap->Ap.Perm (ls.map S)->sortedS Ap=true->Q (.ref a) { s with heap:=h',toks:=tk }):
  wpAny (model prog w) A (call (.builtin "sorted") [.ref d]) Q E s:=by
 refine Calls.call_function_entry kind_sorted plain_sorted entry_sorted (args_sorted1 _) ?_
 unfold Builtin.«sorted»
 refine wpAny_bind (m:=checkCount "sorted" 1 1 _) (wpAny_pure ?_)
 have jT:(64:Nat)<sizeLine:=by decide
 refine wpAny_bind (tX (A:=A.in1) (show A.in1.handled=none from hh) d kvs ep hd hm (by omega) (fun s' acc hkk hg BO ho oD=>?_))
 obtain ⟨h1,h2⟩:=oD
 have hlen:kvs.length=ls.length:=by have:=congrArg List.length hk;simpa using this
 have rv:Vals (ls.map fun l=>V.str (S l)) acc.toList:=by
  have key: ∀(ls:List (List Nat)) (vs:List Value),vs.length=ls.length->(∀(j:Nat) (v:Value),vs[j]? =some v-> ∃l t,ls[j]? =some l/\v=Value.str (S l) t)->Vals (ls.map fun l=>V.str (S l)) vs:=by
   intro ls
   induction ls with
   | nil=>intro vs hl _;have:vs=[]:=List.eq_nil_of_length_eq_zero hl;subst this;exact .nil
   | cons l ls ih=>
    intro vs hl hv
    cases vs with
    | nil=>simp at hl
    | cons v vs=>
     obtain ⟨l',t,e1,e2⟩:=hv 0 v rfl
     have SD:l=l':=by simpa using e1
     subst SD
     refine .cons ⟨t,e2⟩ (ih vs (by simpa using hl) fun j v' e=>?_)
     obtain ⟨l',t',g1,g2⟩:=hv (j+1) v' (by simpa using e)
     exact ⟨l',t',by simpa using g1,g2⟩
  refine key ls acc.toList (by simpa [<-hlen]using h1) fun j v e=>?_
  obtain ⟨k,x,e1,e2⟩:=h2 j v (by simpa using e)
  have e3:(kvs.map (·.1))[j]? =some k:=by rw[List.getElem?_map,e1];rfl
  rw[hk,List.getElem?_map]at e3
  cases e4:ls[j]? with
  | none=>rw[e4]at e3;cases e3
  | some l=>
   rw[e4]at e3
   have e5:k=Sum.inr (S l):=(Option.some.inj e3).symm
   subst e5
   obtain ⟨t,e6⟩:=Value.isStrOf_shape (x:=S l) (v:=v) e2
   exact ⟨l,t,rfl,e6⟩
 have hS:=yM rv
 have hn:acc.toList.length=ls.length:=by rw[<-rv.length,List.length_map]
 refine wpAny_bind (wpAny_newList ?_)
 have BK:(s'.heap.push (seqObj "list" acc.toList.toArray 0)).get? s'.heap.objs.size=some (seqObj "list" acc.toList.toArray 0):=Heap.get?_push_size _ rfl
 show wpAny _ _ _ _ _ { s' with heap:=s'.heap.push (seqObj "list" acc.toList.toArray 0) }
 refine wpAny_bind (wpAny_holding (wpAny_call_entry slot_list_sort ⟨_,BK,rfl⟩ entry_list_sort (list_sort_treeK (κ:=strKind) strKind_oneLt BK hS.keysOf (fun v₁ v₂ rest e=>keyKind_strs (by rw[<-e];exact hS)) (by omega) fun jO hp hs=>⟨_,rfl,?_⟩) (args_list_sort _)))
 obtain ⟨Ap,k1,k2,k3⟩:=sorted_out_str hS hp hs
 obtain ⟨e,he⟩:=sortedHeap_at (out:=(arrOf jO).map (·.2)) BK
 refine wpAny_pure ⟨_,rfl,?_⟩
 have es: ∀hh:Heap,({ s' with heap:=hh }:Shared)={ s with heap:=hh,toks:=s'.toks }:=fun hh=>by
  cases s;cases s'
  simp only at hg BO ho
  subst hg BO ho
  rfl
 show Q (.ref s'.heap.objs.size) { s' with heap:=sortedHeap (s'.heap.push (seqObj "list" acc.toList.toArray 0)) s'.heap.objs.size acc.toList ((arrOf jO).map (·.2)) }
 rw[es]
 refine h s'.heap _ _ _ _ Ap e hkk (fun b o hb=>?_) rfl he k1 k2 k3
 have cy:=Heap.lt_size hb
 rw[sortedHeap_old (Nat.ne_of_lt cy) (by rw[size_push'];exact Nat.lt_succ_of_lt cy)]
 exact Heap.get?_push_of_some _ hb
end
section
variable {X:Cx}
def JV:List V->Hp->VK->Prop:=fun xs H Q=> ∃(d:Addr) (kvs:List (Key×V)) (ls:List (List Nat)),xs=[.ref d]/\H d=some (.dK kvs)/\kvs.map (·.1)=(ls.map fun l=>Sum.inr (S l))/\ls.length<64/\ ∀(q:Addr) (ms:List (List Nat)),H q=none->ms.Perm ls->(ms.Pairwise fun a b=> ¬b<a)->Q (.ref q) (upd H q (.lst (ms.map fun l=>V.str (S l))))
theorem y0 {kvs:List (Key×V)} {vs:List (Key×Value)} (h:KV kvs vs):vs.map (·.1)=kvs.map (·.1):=by
 induction h with
 | nil=>rfl
 | cons r _ ih=>rw[List.map_cons,List.map_cons,ih,r.1]
theorem tZ (hc:X.calm=true):dH X (.builtin "sorted") JV:=by
 intro pins s σ H xs us Q I r h
 obtain ⟨d,kvs,ls,rfl,hd,hk,hn,q⟩:=h
 obtain ⟨u,rfl,ru⟩:=vals1 r
 cases ru
 obtain ⟨hz,S7,vs,kv,o,es,ep,e1,e2,e3,e4,e5,e6⟩:=I.bu d _ hd
 have hlen:vs.length=ls.length:=by
  have a1:=congrArg List.length (y0 kv)
  have a2:=congrArg List.length hk
  simp only[List.length_map]at a1 a2
  omega
 refine vA (s:=s) (I.ok.hd hc) d vs ep ls ((y0 kv).trans hk) S7 ⟨o,es,e1,e2,e3,e4,e5,e6⟩ (by omega) fun h1 h' tk a out Ap e k1 k2 ea he g1 g2 g3=>?_
 have oS:(Ap.map fun x=>x.cps.toList).Perm ls:=by
  have:=g2.map fun x:Str=>x.cps.toList
  rw[List.map_map]at this
  have e2:ls.map ((fun x:Str=>x.cps.toList) ∘ S)=ls:=by
   calc ls.map _=ls.map id:=List.map_congr_left fun l _=>dR l
    _=_:=List.map_id _
  rwa [e2]at this
 have hv:=tR g1
 have pw:=rG g3
 have I1:Inv X pins σ H { s with heap:=h1,toks:=tk }:=I.kept k1
 have hsz:(64:Nat)<sizeLine:=by decide
 have I2:Inv X pins σ (upd H a (.lst ((Ap.map fun x=>x.cps.toList).map fun l=>V.str (S l)))) { s with heap:=h',toks:=tk }:=
  I1.laid (t':=tk) (a:=a) (o:= .lst ((Ap.map fun x=>x.cps.toList).map fun l=>V.str (S l))) k2 (by rw[ea];exact Nat.le_refl _) ⟨by rw[List.length_map,oS.length_eq];omega,out.toList,e,hv,by simpa [seqObj]using he⟩
 exact ⟨.ref a,_,I2,rfl,q _ _ (I1.bu.fresh (by rw[ea];exact Nat.le_refl _)) oS pw⟩
end
end L2
set_option maxHeartbeats 1000000
namespace L2
open PySem PySem.Spec PyProof.Rows
section
variable {X:Cx}
end
end L2
namespace L2.F2
open PySem PySem.Spec PyProof.Rows
end L2.F2
namespace L2
open PySem PySem.Spec PyProof.Rows
section
variable {prog:Program} {w:World} {A:Around} {E:Value->Shared->Prop} {s:Shared}
end
section
variable {X:Cx} {tg:Expr}
end
theorem xE {K:PySem.W.Frag} {a:Addr} {xs:List V} {σc:St} {g:TG} {tc:TT} {te:TE} {Q:VK} {H1:Hp} (Pv:Nat->List V->Hp->Prop) (hn:xs.length<sizeLine) (hl: ∀i acc H,Pv i acc H->aT K H a xs) (h0:Pv 0 [] H1)
  (hs: ∀(i:Nat) (x:V) (acc:List V) (H:Hp) (T:Addr) (Nx:List V->Hp->Prop),xs[i]? =some x->acc.length<=i->Pv i acc H->H T=none->(∀bI H',bI.length<=i+1->Pv (i+1) bI H'->Nx bI H')->
   g (.ref T) σc (upd H T (.tup [.int i,x])) fun σ2 H2=>Wk σc σ2/\tc σ2 H2 fun b H3=>if b=true then te σ2 H3 fun v H4=>Nx (acc++[v]) H4 else Nx acc H3)
  (hd: ∀acc H D,acc.length<=xs.length->Pv xs.length acc H->H D=none->Q (.ref D) (upd H D (.lst acc))):kM (Ar K a) σc g tc te Q H1:=by
 refine ⟨fun i m acc H=>m=xs.length - i/\i<=xs.length/\acc.length<=i/\Pv i acc H,⟨xs.length,by simp,Nat.zero_le _,Nat.le_refl _,h0⟩,?_⟩
 rintro i m acc H ⟨rfl,hi,uN,p⟩
 refine ⟨by omega,?_⟩
 by_cases cy:i<xs.length
 ·refine .inr ⟨⟨xs,xs[i],hl i acc H p,List.getElem?_eq_getElem cy⟩,fun x H' y=>?_⟩
  obtain ⟨T,z,hy,rfl,hT,rfl⟩:=y
  exact hs i z acc _ T (fun bI H'=> ∃m',m'<xs.length - i/\(m'=xs.length - (i+1)/\i+1<=xs.length/\bI.length<=i+1/\Pv (i+1) bI H')) (hy xs (hl i acc H p)) uN p hT fun bI H' h1 h2=>⟨xs.length - (i+1),by omega,rfl,cy,h1,h2⟩
 ·have e:i=xs.length:=by omega
  subst e
  exact .inl ⟨⟨xs,hl _ acc H p,rfl⟩,fun D hD=>hd acc H D uN p hD⟩
end L2
set_option maxHeartbeats 1000000
namespace L2
open PySem PySem.Spec PyProof.Rows
section
variable {X:Cx}
def JW:List V->Hp->VK->Prop:=fun xs H Q=> ∃d kvs,xs=[.ref d]/\H d=some (.dK kvs)/\kvs.length<=100000/\ ∀l,H l=none->Q (.ref l) (upd H l (.lst (kvs.map fun kv=>kV kv.1)))
theorem AD {P:Program} {w:World} {k:Key} {u:Value} (h:(bT P w).is k u=true):RelV (kV k) u:=by
 rcases bY h with ⟨i,t,rfl,rfl⟩ | ⟨x,t,rfl,rfl⟩
 ·exact ⟨t,rfl⟩
 ·exact ⟨t,rfl⟩
theorem xF (hc:X.calm=true):dH X (.type "list") JW:=by
 intro pins s σ H xs us Q I r h
 obtain ⟨d,kvs,rfl,hd,hz,q⟩:=h
 obtain ⟨u,rfl,ru⟩:=vals1 r
 cases ru
 obtain ⟨z,lo,ws,kv,dd⟩:=GW I.bu hd
 obtain ⟨o,es,ep,ho,he,S8,hk,Nu,hn⟩:=dd
 have hm:s.heap.DictAt (bT X.prog X.w) d ws ep:=⟨o,es,ho,he,S8,hk,Nu,hn⟩
 have hlw:ws.length=kvs.length:=kv.length.symm
 have Nv:=kv.keys
 have hs:(100000:Nat)<sizeLine:=by decide
 refine PySem.W.kdl_call (PySem.W.kdl_dict (knd:=bT X.prog X.w) (kvs:=ws) (ep:=ep) lo) (I.ok.hd hc) hm (by omega) fun h' tk bI c' hkp e oD=>?_
 obtain ⟨h1,h2⟩:=oD
 refine ⟨.ref s.heap.objs.size,_,I.laid (t':=tk) (o:= .lst (kvs.map fun kv=>kV kv.1)) hkp (Nat.le_refl _) ?_,rfl,q _ I.fresh⟩
 refine ⟨by rw[List.length_map];omega,bI.toList,c',?_,by simpa using e⟩
 have gen: ∀(l:List (Key×V)) (vs:List Value),vs.length=l.length->(∀(j:Nat) (v:Value),vs[j]? =some v-> ∃k,(l.map (·.1))[j]? =some k/\(bT X.prog X.w).is k v=true)->Vals (l.map fun kv=>kV kv.1) vs:=by
  intro l
  induction l with
  | nil=>intro vs hl _;cases vs with
   | nil=>exact .nil
   | cons _ _=>cases hl
  | cons p l ih=>
   intro vs hl h
   cases vs with
   | nil=>cases hl
   | cons v vs=>
    obtain ⟨k,hk,hi⟩:=h 0 v rfl
    cases hk
    exact .cons (AD hi) (ih vs (by simpa using hl) fun j w hj=>by have:=h (j+1) w (by simpa using hj);simpa using this)
 refine gen kvs bI.toList (by rw[<-hlw];simpa using h1) fun j v ej=>?_
 obtain ⟨k,x,ek,ei⟩:=h2 j v (by simpa using ej)
 refine ⟨k,?_,ei⟩
 rw[Nv,List.getElem?_map,ek]
 rfl
theorem CK {i:Nat} (h:(i:Int)<2 ^ 63):Builtin.List.listFitsIndex (i:Int)=true:=by
 unfold Builtin.List.listFitsIndex
 rw[Bool.and_eq_true]
 exact ⟨decide_eq_true (by omega),decide_eq_true (by omega)⟩
def Fn:V->List V->Hp->VK->Prop:=fun x vs H Q=> ∃(l:Addr) (xs:List V) (i:Nat) (y:V),x= .ref l/\vs=[.int i,y]/\H l=some (.lst xs)/\i<=xs.length/\xs.length<sizeLine/\Q .ck (upd H l (.lst (xs.take i++y::xs.drop i)))
theorem mv:LJ X "list.insert" Fn:=by
 intro pins s σ H x vs v us Q I rx rv h
 obtain ⟨l,xs,i,y,rfl,rfl,hH,hi,hz,q⟩:=h
 cases rx
 obtain ⟨a,b,rfl,⟨t,rfl⟩,rb⟩:=vals2 rv
 obtain ⟨z,aI,n,r,hl,e⟩:=I.ow hH
 have hn:=gb
 have hf: ¬(!Builtin.List.listFitsIndex (i:Int))=true:=by rw[CK (by omega)];decide
 have hsz:aI.toArray.size<=sizeLine:=by rw[List.size_toArray];omega
 generalize hI:(i:Int)=I' at hf
 have hm:=PySem.AutoSeq1.list_insert_list_int_val_1 l aI.toArray n I' t b hf hsz
 refine call_meets F.slot_list_insert ⟨_,e,rfl⟩ F.entry_list_insert (F.args_list_insert_3 _ _ _) hm ⟨e,?_⟩
 clear hm
 refine ⟨.ck,_,I.Ag (its':=aI.take i++b::aI.drop i) hH e ?_ ?_ ?_,rfl,q⟩
 ·have e1:(if I'<0 then (I'+(aI.toArray.size:Int)).toNat else min I'.toNat aI.toArray.size)=i:=by rw[<-hI,if_neg (by omega),Int.toNat_natCast,List.size_toArray];omega
  show ((aI.toArray.extract 0 (if I'<0 then (I'+(aI.toArray.size:Int)).toNat else min I'.toNat aI.toArray.size)).push b++aI.toArray.extract (if I'<0 then (I'+(aI.toArray.size:Int)).toNat else min I'.toNat aI.toArray.size))=_
  rw[e1]
  apply Array.toList_inj.mp
  simp
  exact List.take_of_length_le (by rw[List.length_drop];exact Nat.le_refl _)
 ·have h1:Vals (xs.take i) (aI.take i):=r.take i
  exact h1.append (.cons rb (r.drop i))
 ·rw[List.length_append,List.length_cons,List.length_take,List.length_drop];omega
def JX (K:PySem.W.Frag):V->List V->Hp->VK->Prop:=fun x vs H Q=> ∃(p:Addr) (ls:List (List Nat)),x= .str (S [])/\vs=[.ref p]/\aW K H p (ls.map fun l=>V.str (S l))/\(ls.map List.length).sum<=16777216/\Q (.str (S ls.flatten)) H
theorem CL (K:PySem.W.Frag) (h:X.K=K):wU X "str.join" (JX K):=by
 subst h
 intro pins s σ H x xs v us Q I rx rv h
 obtain ⟨p,ls,rfl,rfl,hq,hz,q⟩:=h
 obtain ⟨t,rfl⟩:=rx
 obtain ⟨u,rfl,ru⟩:=vals1 rv
 cases ru
 obtain ⟨aI,r,pl,_⟩:=I.tuple hq
 have e:(S []).length=0:=rfl
 refine join_tuple pl (by simpa using iq r) ?_ fun t' k=>?_
 ·rw[e,Nat.mul_zero,Nat.add_zero,List.map_map]
  have e2:(Str.length ∘ S)=List.length:=by funext l;exact bG l
  have e3:((fun x:Str=>x.length) ∘ S)=List.length:=by funext l;exact bG l
  first | (rw[e2];exact hz) | (rw[e3];exact hz)
 ·exact ⟨.str (S ls.flatten),H,I.tok _,⟨t',congrArg (fun z=>Value.str z t') (Cq ls)⟩,q⟩
def AE (ta:TA):TE:=fun σ H Q=>ta σ H fun vs H1=> ∃j:Int,vs=[.int j]/\ -(2 ^ 61)<=j/\j<=1000000/\ ∀q,H1 q=none->Q (.ref q) (upd H1 q (.lst ((List.range j.toNat).map fun (k:Nat)=>V.int (0+(k:Int)))))
def AF (ta:TA):TE:=fun σ H Q=>ta σ H fun vs H1=> ∃i j:Int,vs=[.int i, .int j]/\(-(2 ^ 61)<=i/\i<2 ^ 61/\ -(2 ^ 61)<=j/\j<2 ^ 61)/\j - i<=1000000/\ ∀q,H1 q=none->Q (.ref q) (upd H1 q (.lst ((List.range (j - i).toNat).map fun (k:Nat)=>V.int (i+(k:Int)))))
theorem vB {i:Int}: ∀(n:Nat) (vs:List Value),vs.length=n->(∀(j:Nat) (v:Value),vs[j]? =some v-> ∃t,v= .int (i+(j:Int)*1) t)->Vals ((List.range n).map fun (k:Nat)=>V.int (i+(k:Int))) vs
 | 0,vs,hl,_=>by
  obtain rfl:vs=[]:=List.length_eq_zero_iff.mp hl
  exact .nil
 | n+1,vs,hl,h=>by
  have e:vs=vs.take n++[vs[n]'(by omega)]:=by
   conv=>lhs;rw[<-List.take_length (l:=vs),hl,List.take_succ_eq_append_getElem (by omega)]
  obtain ⟨t,ht⟩:=h n (vs[n]'(by omega)) (List.getElem?_eq_getElem _)
  rw[e,List.range_succ,List.map_append]
  refine (vB n (vs.take n) (by rw[List.length_take];omega) fun j w hj=>h j w ?_).append (.cons ⟨t,?_⟩ .nil)
  ·have hj':=(List.getElem?_eq_some_iff.mp hj).1
   rw[List.length_take]at hj'
   rw[List.getElem?_take_of_lt (by omega)]at hj
   exact hj
  ·rw[ht,Int.mul_one]
theorem vC {pins:List (Addr×Obj)} {σ:St} {H:Hp} {s:Shared} {Q:VK} {lo hi:Int} {t u v:Tok} {tk:Nat} (hc:X.calm=true) (I:Inv X pins σ H s) (h1: -(2 ^ 61)<=lo) (h2:lo<2 ^ 61) (h3: -(2 ^ 61)<=hi) (h4:hi<2 ^ 61) (hz:hi - lo<=1000000)
  (q: ∀p,H p=none->Q (.ref p) (upd H p (.lst ((List.range (hi - lo).toNat).map fun (k:Nat)=>V.int (lo+(k:Int)))))):
  wpAny (model X.prog X.w) X.A (call (.type "list") [.ref s.heap.objs.size]) (EP X pins σ Q) X.xe { s with heap:=s.heap.push { cls:= .type "range",data:= .fields #[.int lo t, .int hi u, .int 1 v] },toks:=tk }:=by
 have hs:(1000000:Nat)<sizeLine:=by decide
 refine PySem.call_list_range (n:=(hi - lo).toNat) (I.ok.hd hc) (IsRange.new ..) (small_one (by omega) (by omega) (by omega) (by omega)) (by rw[rangeSize_one];split<;>omega) (by omega) fun h' tk' bI c' hk e oD=>?_
 obtain ⟨ha1,ha2⟩:=oD
 have hsz:(s.heap.push { cls:= .type "range",data:= .fields #[.int lo t, .int hi u, .int 1 v] }).objs.size=s.heap.objs.size+1:=Heap.size_push _ _
 refine ⟨.ref _,_,I.laid (t':=tk') (o:= .lst ((List.range (hi - lo).toNat).map fun (k:Nat)=>V.int (lo+(k:Int)))) (fun b o hb=>hk b o (Heap.get?_push_of_some _ hb)) (Nat.le_of_lt (by show s.heap.objs.size<_;rw[hsz];exact Nat.lt_succ_self _)) ?_,rfl,q _ (I.bu.fresh (Nat.le_of_lt (by show s.heap.objs.size<_;rw[hsz];exact Nat.lt_succ_self _)))⟩
 exact ⟨by rw[List.length_map,List.length_range];omega,bI.toList,c',vB _ _ (by simpa using ha1) (fun j v e=>ha2 j v (by simpa using e)),by simpa using e⟩
theorem ji {a:Expr} {ta:TA} {p p2 pos t5:Pos} (hc:X.calm=true) (S9:Gl X "list") (JY:X.mg "list"=none) (hg:Gl X "range") (hm:X.mg "range"=none) (ha:PA X [a] ta)
  (hs:starEach [a] X.env=[(false,eval a X.env)]:=by rfl) (tf:starEach [.Call (.Name "range" p2) [a] [] t5] X.env=[(false,eval (.Call (.Name "range" p2) [a] [] t5) X.env)]:=by rfl):
  PE X (.Call (.Name "list" p) [.Call (.Name "range" p2) [a] [] t5] [] pos) (AE ta):=by
 intro pins s σ H Q I h
 refine Call_ (dE I S9 JY boot_list (PyProof.Rows.callWith_type1 ?_ tf rfl))
 rw[tf]
 refine Calls.spliced_cons ?_
 refine Call_ (dE I hg hm boot_range (PyProof.Rows.callWith_type1 (bZ (ha t5 pins s σ H _ I h) fun us s1 ⟨vs,H1,I1,r1,q1⟩=>?_) hs rfl))
 obtain ⟨j,rfl,q1,q2,q⟩:=q1
 obtain ⟨u,rfl,t,rfl⟩:=vals1 r1
 refine call_range_1 ?_
 refine Calls.spliced_nil ?_
 refine vC hc I1 (by omega) (by omega) q1 (by omega) (by omega) (by simpa using q)
theorem mT {a b:Expr} {ta:TA} {p p2 pos t5:Pos} (hc:X.calm=true) (S9:Gl X "list") (JY:X.mg "list"=none) (hg:Gl X "range") (hm:X.mg "range"=none) (ha:PA X [a,b] ta)
  (hs:starEach [a,b] X.env=[(false,eval a X.env),(false,eval b X.env)]:=by rfl) (hs1:starEach [b] X.env=[(false,eval b X.env)]:=by rfl) (tf:starEach [.Call (.Name "range" p2) [a,b] [] t5] X.env=[(false,eval (.Call (.Name "range" p2) [a,b] [] t5) X.env)]:=by rfl):
  PE X (.Call (.Name "list" p) [.Call (.Name "range" p2) [a,b] [] t5] [] pos) (AF ta):=by
 intro pins s σ H Q I h
 refine Call_ (dE I S9 JY boot_list (PyProof.Rows.callWith_type1 ?_ tf rfl))
 rw[tf]
 refine Calls.spliced_cons ?_
 refine Call_ (dE I hg hm boot_range (PyProof.Rows.callWith_type1 (bZ (ha t5 pins s σ H _ I h) fun us s1 ⟨vs,H1,I1,r1,q1⟩=>?_) (by rw[hs,hs1]) (by rw[hs1];rfl)))
 obtain ⟨i,j,rfl,⟨q1,q2,q3,q4⟩,q5,q⟩:=q1
 obtain ⟨u,u',rfl,⟨t,rfl⟩,⟨t',rfl⟩⟩:=vals2 r1
 refine call_range_2 ?_
 refine Calls.spliced_nil ?_
 exact vC hc I1 q1 q2 q3 q4 q5 q
end
end L2
namespace L2
open PySem PySem.Spec PyProof.Rows PySem.W
section
def Ev (lt:Nat->Nat->Bool) (n:Nat) {α:Type}:KasT α->(α->Prop)->Prop
 | .ret a,Q=>Q a
 | .ask i j k,Q=>i<n/\j<n/\Ev lt n (k (lt i j)) Q
theorem Ev.bind {lt:Nat->Nat->Bool} {n:Nat} {α β:Type} {f:α->KasT β} {Q:β->Prop}: ∀{t:KasT α},Ev lt n t (fun a=>Ev lt n (f a) Q)->Ev lt n (t.bind f) Q
 | .ret _,h=>h
 | .ask _ _ _,⟨a,b,h⟩=>⟨a,b,Ev.bind h⟩
theorem Ev.wp {lt:Nat->Nat->Bool} {n:Nat} {α:Type} {cmp:Nat->Nat->(Bool->Shared->Prop)->Shared->Prop} {s:Shared} (hc: ∀i j,i<n->j<n-> ∀C:Bool->Shared->Prop,C (lt i j) s->cmp i j C s) {Q:α->Prop} {G:α->Shared->Prop} (hq: ∀a,Q a->G a s): ∀{t:KasT α},Ev lt n t Q->t.kasWp cmp G s
 | .ret a,h=>hq a h
 | .ask i j k,⟨a,b,h⟩=>hc i j a b _ (Ev.wp hc hq h)
structure GZ (lt:Nat->Nat->Bool) (n:Nat):Prop where
 tr: ∀a b c,lt b a=false->lt c b=false->lt c a=false
 sm: ∀a b,lt a b=true->lt b a=false
 tt: ∀a b,a<n->b<n->a≠b->lt a b=false->lt b a=true
def Pm (p:Array Nat) (n:Nat):Prop:=p.Perm (List.range n).toArray
theorem gd (p:Array Nat) (i:Nat):p.getD i 0=p[i]?.getD 0:=by simp[Array.getD_eq_getD_getElem?]
theorem Pm.size {p:Array Nat} {n:Nat} (h:Pm p n):p.size=n:=by have:=h.size_eq;simpa using this
theorem Pm.lt {p:Array Nat} {n:Nat} (h:Pm p n) (hn:0<n) (i:Nat):p.getD i 0<n:=by
 rw[gd]
 by_cases hi:i<p.size
 ·rw[Array.getElem?_eq_getElem hi]
  have m:p[i]∈p:=Array.getElem_mem hi
  have:=h.mem_iff.mp m
  simpa using this
 ·rw[Array.getElem?_eq_none (by omega)];exact hn
theorem Pm.ne {p:Array Nat} {n i j:Nat} (h:Pm p n) (hi:i<n) (hj:j<n) (uZ:i≠j):p.getD i 0≠p.getD j 0:=by
 have hs:=h.size
 have nd:p.toList.Nodup:=(Array.perm_iff_toList_perm.mp h).nodup_iff.mpr (by simpa using List.nodup_range)
 have h1:i<p.size:=by omega
 have h2:j<p.size:=by omega
 rw[gd,gd,Array.getElem?_eq_getElem h1,Array.getElem?_eq_getElem h2]
 intro e
 have e2:p.toList[i]'(by simpa using h1)=p.toList[j]'(by simpa using h2):=by simpa using e
 exact uZ ((List.getElem_inj nd).mp e2)
section
variable {lt:Nat->Nat->Bool} {n:Nat}
def t_ (lt:Nat->Nat->Bool) (p:Array Nat) (k:Nat):Prop:= ∀i j,i<j->j<k->lt (p.getD j 0) (p.getD i 0)=false
def JZ (lt:Nat->Nat->Bool) (p:Array Nat) (k:Nat):Prop:= ∀i j,i<j->j<k->lt (p.getD i 0) (p.getD j 0)=false
theorem xG (T:GZ lt n) (hn:0<n) {p:Array Nat} (hp:Pm p n) {Q:Nat->Prop}: ∀f m,1<=m->t_ lt p m->(∀m',m<=m'->m'<=m+f->t_ lt p m'->(m'<m+f->lt (p.getD m' 0) (p.getD (m' - 1) 0)=true)->Q m')->Ev lt n (kas_asc p f m) Q
 | 0,m,_,up,q=>q m (Nat.le_refl _) (Nat.le_refl _) up (fun h=>absurd h (by omega))
 | f+1,m,h1,up,q=>by
  refine ⟨hp.lt hn _,hp.lt hn _,?_⟩
  cases c:lt (p.getD m 0) (p.getD (m - 1) 0) with
  | true=>
   show Ev lt n (if true=true then _ else _) _
   rw[if_pos rfl]
   exact q m (Nat.le_refl _) (by omega) up (fun _=>c)
  | false=>
   show Ev lt n (if false=true then _ else _) _
   rw[if_neg Bool.false_ne_true]
   refine xG T hn hp f (m+1) (by omega) (fun i j uZ hj=>?_) (fun m' a b u g=>q m' (by omega) (by omega) u (fun z=>g (by omega)))
   by_cases S_:j<m
   ·exact up i j uZ S_
   ·have Ta:j=m:=by omega
    subst Ta
    by_cases hi:i=j - 1
    ·subst hi;exact c
    ·exact T.tr _ _ _ (up i (j - 1) (by omega) (by omega)) c
theorem y6 (T:GZ lt n) (hn:0<n) {p:Array Nat} (hp:Pm p n) {Q:Array Nat×Nat×Nat->Prop}: ∀f m,1<=m->m+f<=n->JZ lt p m->(∀m',m<=m'->m'<=m+f->JZ lt p m'->Q (p,m',0))->Ev lt n (kas_desc f p m 0) Q
 | 0,m,_,_,up,q=>q m (Nat.le_refl _) (Nat.le_refl _) up
 | f+1,m,h1,hf,up,q=>by
  refine ⟨hp.lt hn _,hp.lt hn _,?_⟩
  cases c:lt (p.getD m 0) (p.getD (m - 1) 0) with
  | true=>
   show Ev lt n (if true=true then _ else _) _
   rw[if_pos rfl,if_neg (show ¬((0:Nat)>0) by decide)]
   refine y6 T hn hp f (m+1) (by omega) (by omega) (fun i j uZ hj=>?_) (fun m' a b u=>q m' (by omega) (by omega) u)
   by_cases S_:j<m
   ·exact up i j uZ S_
   ·have Ta:j=m:=by omega
    subst Ta
    have c2:=T.sm _ _ c
    by_cases hi:i=j - 1
    ·subst hi;exact c2
    ·exact T.tr _ _ _ c2 (up i (j - 1) (by omega) (by omega))
  | false=>
   show Ev lt n (if false=true then _ else _) _
   rw[if_neg Bool.false_ne_true]
   refine ⟨hp.lt hn _,hp.lt hn _,?_⟩
   rw[T.tt _ _ (hp.lt hn _) (hp.lt hn _) (hp.ne (by omega) (by omega) (by omega)) c]
   show Ev lt n (if true=true then _ else _) _
   rw[if_pos rfl]
   exact q m (Nat.le_refl _) (by omega) up
theorem CM {p:Array Nat} (hp:Pm p n) (i j:Nat):Pm (kas_rev p i j) n:=(mirror_perm p i j _).trans hp
theorem y7 {p:Array Nat} {m:Nat} (hm:m<=p.size) (k:Nat):(kas_rev p 0 m).getD k 0=if k<m then p.getD (m - 1 - k) 0 else p.getD k 0:=by
 rw[gd,gd,gd]
 unfold kas_rev
 rw[getElem?_mirror_all hm]
 by_cases h:k<m
 ·rw[if_pos ⟨Nat.zero_le _,h⟩,if_pos h]
  congr 2
  omega
 ·rw[if_neg (fun z=>h z.2),if_neg h]
theorem CN (T:GZ lt n) (hn:0<n) {p:Array Nat} (hp:Pm p n) {m:Nat} (h1:1<=m) (hm:m<=n) (dn:JZ lt p m) {Q:Nat×Array Nat->Prop} (q: ∀m' p',1<=m'->m'<=n->Pm p' n->t_ lt p' m'->Q (m',p')):Ev lt n (kas_tail3 m n p) Q:=by
 refine Ev.bind (xG T hn (CM hp 0 m) (n - m) m h1 (fun i j uZ hj=>?_) (fun m' a b u _=>q m' _ (by omega) (by omega) (CM hp 0 m) u))
 have hs:=hp.size
 rw[y7 (by omega),y7 (by omega),if_pos hj,if_pos (by omega)]
 exact dn _ _ (by omega) (by omega)
theorem CO (T:GZ lt n) (hn:0<n) {p:Array Nat} (hp:Pm p n) {Q:Nat×Array Nat->Prop} (q: ∀m' p',1<=m'->m'<=n->Pm p' n->t_ lt p' m'->Q (m',p')):Ev lt n (kas_count n p) Q:=by
 refine Ev.bind (xG T hn hp (n - 1) 1 (Nat.le_refl _) (fun i j uZ hj=>absurd hj (by omega)) (fun m a b u g=>?_))
 by_cases e:m=n
 ·rw[if_pos (by simpa using e)]
  exact q m p a (by omega) hp u
 ·rw[if_neg (by simpa using e)]
  have cy:=g (by omega)
  by_cases h1:m>1
  ·rw[if_pos h1]
   refine ⟨hp.lt hn _,hp.lt hn _,?_⟩
   rw[T.tt _ _ (hp.lt hn _) (hp.lt hn _) (hp.ne (by omega) hn (by omega)) (u 0 (m - 1) (by omega) (by omega))]
   show Ev lt n (if true=true then _ else _) _
   rw[if_pos rfl]
   exact q m p a (by omega) hp u
  ·rw[if_neg h1]
   have em:m=1:=by omega
   subst em
   refine Ev.bind (y6 T hn hp (n - (1+1)) (1+1) (by omega) (by omega) (fun i j uZ hj=>?_) (fun m' c d dn=>?_))
   ·have ei:i=0:=by omega
    have ej:j=1:=by omega
    subst ei ej
    exact T.sm _ _ cy
   ·rw[if_neg (show ¬((0:Nat)>0) by decide)]
    exact CN T hn hp (by omega) (by omega) dn q
theorem oW (T:GZ lt n) (hn:0<n) {p:Array Nat} (hp:Pm p n) {k:Nat} (up:t_ lt p k) {Q:Nat->Prop}: ∀f l r,l<=r->r<=k->r - l<=f->(∀i,i<l->lt (p.getD k 0) (p.getD i 0)=false)->(∀i,r<=i->i<k->lt (p.getD i 0) (p.getD k 0)=false)->(∀l',l'<=k->(∀i,i<l'->lt (p.getD k 0) (p.getD i 0)=false)->(∀i,l'<=i->i<k->lt (p.getD i 0) (p.getD k 0)=false)->Q l')->Ev lt n (kas_place p k f l r) Q
 | 0,l,r,h1,h2,hf,a,b,q=>q l (by omega) a (fun i hi hk=>b i (by omega) hk)
 | f+1,l,r,h1,h2,hf,a,b,q=>by
  unfold kas_place
  by_cases e:l ≥ r
  ·rw[if_pos e]
   exact q l (by omega) a (fun i hi hk=>b i (by omega) hk)
  ·rw[if_neg e]
   refine ⟨hp.lt hn _,hp.lt hn _,?_⟩
   cases c:lt (p.getD k 0) (p.getD ((l+r) / 2) 0) with
   | true=>
    show Ev lt n (if true=true then _ else _) _
    rw[if_pos rfl]
    refine oW T hn hp up f l _ (by omega) (by omega) (by omega) a (fun i hi hk=>?_) q
    have c2:=T.sm _ _ c
    by_cases ei:i=(l+r) / 2
    ·rw[ei];exact c2
    ·exact T.tr _ _ _ c2 (up ((l+r) / 2) i (by omega) hk)
   | false=>
    show Ev lt n (if false=true then _ else _) _
    rw[if_neg Bool.false_ne_true]
    refine oW T hn hp up f _ r (by omega) h2 (by omega) (fun i hi=>?_) b q
    by_cases ei:i=(l+r) / 2
    ·rw[ei];exact c
    ·exact T.tr _ _ _ (up i ((l+r) / 2) (by omega) (by omega)) c
theorem y9 {p:Array Nat} {k l:Nat} (hk:k<p.size) (hl:l<=k) (i:Nat):(bubble p k (k - l)).getD i 0=if i=l then p.getD k 0 else if l<i/\i<=k then p.getD (i - 1) 0 else p.getD i 0:=by
 rw[gd,getElem?_bubble hk _ (by omega),gd,gd,gd]
 have e:k - (k - l)=l:=by omega
 rw[e]
 repeat' split
 all_goals rfl
theorem CP (T:GZ lt n) (hn:0<n) {Q:Array Nat->Prop}: ∀f (p:Array Nat) k,Pm p n->t_ lt p k->k+f<=n->(∀p',Pm p' n->t_ lt p' (k+f)->Q p')->Ev lt n (kas_bin f p k) Q
 | 0,p,k,hp,up,_,q=>q p hp up
 | f+1,p,k,hp,up,hk,q=>by
  refine Ev.bind (oW T hn hp up k 0 k (Nat.zero_le _) (Nat.le_refl _) (by omega) (fun i h=>absurd h (Nat.not_lt_zero _)) (fun i h1 h2=>absurd h1 (by omega)) (fun l hl a b=>?_))
  have hs:=hp.size
  refine CP T hn f _ (k+1) ((bubble_perm p k _).trans hp) (fun i j uZ hj=>?_) (by omega) (fun p' g u=>q p' g (by rwa [show k+(f+1)=k+1+f by omega]))
  rw[y9 (by omega) hl,y9 (by omega) hl]
  by_cases ej:j=l
  ·rw[if_pos ej,if_neg (by omega),if_neg (by omega)]
   exact a i (by omega)
  ·rw[if_neg ej]
   by_cases BP:l<j
   ·rw[if_pos ⟨BP,by omega⟩]
    by_cases ei:i=l
    ·rw[if_pos ei];exact b (j - 1) (by omega) (by omega)
    ·rw[if_neg ei]
     by_cases JA:l<i
     ·rw[if_pos ⟨JA,by omega⟩];exact up _ _ (by omega) (by omega)
     ·rw[if_neg (by omega)];exact up _ _ (by omega) (by omega)
   ·rw[if_neg (by omega),if_neg (by omega),if_neg (by omega)]
    exact up _ _ uZ (by omega)
theorem Fo (T:GZ lt n) (hn:0<n):Ev lt n (kas_sort n) (fun p=>Pm p n/\t_ lt p n):=by
 refine Ev.bind (CO T hn (Array.Perm.refl _) (fun m p h1 h2 hp up=>?_))
 have em:max m 1=m:=by omega
 show Ev lt n (if m<n then kas_bin (n - max m 1) p (max m 1) else .ret p) _
 rw[em]
 by_cases h:m<n
 ·rw[if_pos h]
  refine CP T hn _ p m hp up (by omega) (fun p' g u=>⟨g,?_⟩)
  rwa [show m+(n - m)=n by omega]at u
 ·rw[if_neg h]
  exact ⟨hp,by rwa [show m=n by omega]at up⟩
end
end
theorem AG {a b c:Int×Int} (h1:bX b a=false) (h2:bX c b=false):bX c a=false:=by
 unfold bX at*
 simp only[Bool.or_eq_false_iff,Bool.and_eq_false_iff,decide_eq_false_iff_not]at*
 omega
theorem AH {a b:Int×Int} (h:bX a b=true):bX b a=false:=by
 unfold bX at*
 simp only[Bool.or_eq_false_iff,Bool.and_eq_false_iff,decide_eq_false_iff_not,Bool.or_eq_true,Bool.and_eq_true,decide_eq_true_eq]at*
 omega
theorem AI {a b:Int×Int} (ne:a≠b) (h:bX a b=false):bX b a=true:=by
 have ne2: ¬(a.1=b.1/\a.2=b.2):=fun z=>ne (Prod.ext z.1 z.2)
 unfold bX at*
 simp only[Bool.or_eq_false_iff,Bool.and_eq_false_iff,decide_eq_false_iff_not,Bool.or_eq_true,Bool.and_eq_true,decide_eq_true_eq]at*
 omega
noncomputable def ltN (ns:List (Int×Int)) (i j:Nat):Bool:=bX (ns.getD i (0,0)) (ns.getD j (0,0))
theorem Fp {ns:List (Int×Int)} (nd:ns.Nodup):GZ (ltN ns) ns.length where
 tr _ _ _ h1 h2:=AG h1 h2
 sm _ _ h:=AH h
 tt a b ha hb ne h:=by
  refine AI (fun e=>ne ?_) h
  rw[List.getD_eq_getElem?_getD,List.getD_eq_getElem?_getD,List.getElem?_eq_getElem ha,List.getElem?_eq_getElem hb]at e
  exact (List.getElem_inj nd).mp e
section
variable {prog:Program} {w:World} {A:Around} {E:Value->Shared->Prop} {s:Shared}
theorem bL.len {h:Heap}: ∀{vs:List Value} {ns:List (Int×Int)},bL h vs ns->ns.length=vs.length
 | [],[],_=>rfl
 | _::_,_::_,⟨_,b⟩=>by rw[List.length_cons,List.length_cons,bL.len b]
 | [],_::_,h=>h.elim
 | _::_,[],h=>h.elim
noncomputable def gg (vs:List Value) (idx:List Nat):Array Value:=List.toArray (idx.map fun i=>vs.getD i Value.none)
def rM (ns:List (Int×Int)) (idx:List Nat):Prop:=idx.Perm (List.range ns.length)/\(idx.map fun i=>ns.getD i (0,0)).Pairwise fun x y=>bX y x=false
theorem qH {a:Addr} {vs:List Value} {ns:List (Int×Int)} {n:Nat} {P:PySem.Fin->Shared->Prop} (ho:s.heap.get? a=some (seqObj "list" vs.toArray n)) (hp:bL s.heap vs ns) (hna: ∀v∈vs,v≠ .ref a) (nd:ns.Nodup) (Jz:vs.length<64)
  (q: ∀idx,rM ns idx->P (.done (.ret .none)) { s with heap:=sortedHeap s.heap a vs (gg vs idx) }):wpAny (model prog w) A (Builtin.«list.sort» ⟨[.ref a],[]⟩) P E s:=by
 rw[list_sort_plain]
 have ha:a<s.heap.objs.size:=Heap.lt_size ho
 have jT:(64:Nat)<sizeLine:=by decide
 have hlen:=hp.len
 refine wpAny_bind (listItems_at ho rfl (wpAny_bind (listUpdate_at ho rfl ?_ (by rw[List.size_toArray];omega) (Nat.zero_le _))))
 obtain ⟨e1,Ej⟩: ∃e1,(s.heap.update a (Obj.mapSeq fun _=> #[])).get? a=some (seqObj "list" #[] e1):=⟨_,get?_update_seq ho (fun _=> #[])⟩
 refine wpAny_bind (seqEpoch_at Ej rfl (wpAny_bind (wpAny_newTuple (wpAny_bind (wpAny_newList (wpAny_holding ?_) (Nat.zero_le _))) (by show vs.length<=_;omega))))
 generalize hH:((s.heap.update a (Obj.mapSeq fun _=>(#[]:Array Value))).push (seqObj "tuple" vs.toArray 0)).push (seqObj "list" #[] 0)=H2
 have ho6:H2.get? a=some (seqObj "list" #[] e1):=by
  rw[<-hH]
  exact Heap.get?_push_of_some _ (Heap.get?_push_of_some _ Ej)
 have keep: ∀b o,b≠a->s.heap.get? b=some o->H2.get? b=some o:=fun b o hb e=>by
  rw[<-hH]
  exact Heap.get?_push_of_some _ (Heap.get?_push_of_some _ ((Heap.get?_update_other s.heap _ (Ne.symm hb)).trans e))
 have iY:bL H2 vs ns:=by
  clear q Jz hH ho hlen nd
  revert ns
  induction vs with
  | nil=>intro ns hp;cases ns with
   | nil=>trivial
   | cons _ _=>exact hp.elim
  | cons v vs ih=>
   intro ns hp
   cases ns with
   | nil=>exact hp.elim
   | cons n ns=>
    obtain ⟨⟨x,ox,t1,t2,m,rfl,g2,g3⟩,b⟩:=hp
    exact ⟨⟨x,ox,t1,t2,m,rfl,keep x ox (fun z=>hna _ List.mem_cons_self (by rw[z])) g2,g3⟩,ih (fun u hu=>hna u (List.mem_cons_of_mem _ hu)) b⟩
 have fin: ∀(st:SortSt) (idx:List Nat),rM ns idx->(arrOf st).map (·.2)=gg vs idx->failedOf st=none->wpAny (model prog w) A (do { let touched:=(<-seqEpoch a) != e1;Builtin.List.listUpdate (.ref a) (fun _=>(arrOf st).map (·.2));if let some e:=failedOf st then { rule "list.sort.comparison-raised";throw e };if touched then { rule "list.sort.modified";raiseError "ValueError" "list modified during sort" };ret .none }) P E { s with heap:=H2 }:=fun st idx hi e0 e2=>by
  rw[e0,e2]
  have JA:idx.length=vs.length:=by have:=hi.1.length_eq;rw[List.length_range]at this;omega
  refine wpAny_bind (seqEpoch_at ho6 rfl (wpAny_bind (listUpdate_at ho6 rfl ?_ (Nat.zero_le _) (by unfold gg;rw[List.size_toArray,List.length_map];omega))))
  simp only[bne_self_eq_false,Bool.false_eq_true,if_false]
  refine wpAny_pure ?_
  have e3:sortedHeap s.heap a vs (gg vs idx)=H2.update a (Obj.mapSeq fun _=>gg vs idx):=by unfold sortedHeap;rw[hH]
  have q:=q idx hi
  rw[e3]at q
  exact q
 show wpAny (model prog w) A _ P E { s with heap:=H2 }
 dsimp only
 by_cases h2:vs.toArray.size<2
 ·rw[if_pos h2,if_pos h2]
  refine wpAny_bind (wpAny_pure ?_)
  rw[StateT.run_pure]
  refine wpAny_bind (wpAny_pure ?_)
  rw[List.size_toArray]at h2
  refine fin (SortSt.mk' general' (vs.toArray.zip vs.toArray) #[] 7 none) (List.range ns.length) ⟨List.Perm.refl _,?_⟩ ?_ rfl
  ·rw[hlen]
   have:vs.length=0\/vs.length=1:=by omega
   rcases this with e | e<;>rw[e]<;>simp[List.range_succ]
  ·show (vs.toArray.zip vs.toArray).map (·.2)=_
   apply Array.toList_inj.mp
   have e4:(vs.zip vs).map (fun x=>x.2)=vs:=yQ vs
   unfold gg
   simp
   rw[e4,hlen]
   refine List.ext_getElem (by simp) fun i g1 g2=>?_
   simp
   rw[List.getElem?_eq_getElem g1]
   rfl
 ·have h2':2<=vs.length:=by rw[List.size_toArray]at h2;omega
  rw[if_neg h2,if_neg h2]
  obtain ⟨fs,k1,k2,k3⟩:=iY.lV
  refine wpAny_bind (PySem.W.kat_kind (s:={ s with heap:=H2 }) (T:= .type "int") k1 (by omega) (fun v hv=>by obtain ⟨i,t,rfl⟩:=k3 v hv;exact PySem.W.Looks.of_pure rfl) (by rfl) ?_)
  have T:=Fp nd
  rw[hlen]at T
  refine wpAny_bind (wpAny_mono (PySem.W.kat_run (Q:=fun jO s'=>s'={ s with heap:=H2 }/\ ∃idx,rM ns idx/\(arrOf jO).map (·.2)=gg vs idx/\failedOf jO=none) (G:=fun p s'=>s'={ s with heap:=H2 }/\Pm p vs.length/\t_ (ltN ns) p vs.length) rfl h2' Jz (fun p jO s' a1 a2 a3 a4=>?_) (Ev.wp (fun i j hi hj C c=>?_) (fun p hq=>⟨rfl,hq⟩) (Fo T (by omega)))) ?_ fun _ _ e=>e)
  ·obtain ⟨rfl,pm,up⟩:=a4
   refine ⟨rfl,p.toList,⟨?_,?_⟩,PySem.W.kat_snds rfl a2,a3⟩
   ·rw[hlen]
    simpa using Array.perm_iff_toList_perm.mp pm
   ·rw[List.pairwise_map,List.pairwise_iff_getElem]
    intro i j hi hj uZ
    have:=up i j uZ (by rw[<-pm.size];simpa using hj)
    rw[gd,gd,Array.getElem?_eq_getElem (by simpa using hj),Array.getElem?_eq_getElem (by simpa using hi)]at this
    simpa [ltN]using this
  ·obtain ⟨x,ex,px⟩:=iY.get (i:=i) hi
   obtain ⟨y,ey,py⟩:=iY.get (i:=j) hj
   refine Fb (s:={ s with heap:=H2 }) px py ?_
   have:ltN ns i j=bX x y:=by unfold ltN;rw[List.getD_eq_getElem?_getD,List.getD_eq_getElem?_getD,ex,ey];rfl
   rw[<-this]
   exact c
  ·rintro ⟨⟨⟩,jO⟩ s' ⟨rfl,idx,g0,g1,g2⟩
   exact fin jO idx g0 g1 g2
theorem oX {tp:Addr} {T:String} {o:Obj} {vs:List Value} {ns:List (Int×Int)} {n:Nat} {Q:Value->Shared->Prop} (hT:T="list"\/T="tuple") (ho:s.heap.get? tp=some o) (hc:o.cls= .type T) (hd:o.data= .seq vs.toArray n) (hp:bL s.heap vs ns)
  (nd:ns.Nodup) (Jz:vs.length<64)
  (q: ∀(h1 h':Heap) (a:Addr) (e:Nat) (idx:List Nat),rM ns idx->(∀b o,s.heap.get? b=some o->h1.get? b=some o)->(∀b o,h1.get? b=some o->h'.get? b=some o)->a=h1.objs.size->h'.get? a=some (seqObj "list" (gg vs idx) e)->Q (.ref a) { s with heap:=h' }):
  wpAny (model prog w) A (call (.builtin "sorted") [.ref tp]) Q E s:=by
 have jT:(64:Nat)<sizeLine:=by decide
 refine Calls.call_function_entry kind_sorted plain_sorted entry_sorted (args_sorted1 _) ?_
 unfold Builtin.«sorted»
 refine wpAny_bind (m:=checkCount "sorted" 1 1 _) (wpAny_pure (wpAny_bind (wpAny_collect_seq tp hT ho hc hd (fun h1 k1=>?_) (by rw[List.size_toArray];omega))))
 refine wpAny_bind (wpAny_newList ?_ (by show vs.length<=_;omega))
 have BK:(h1.push (seqObj "list" vs.toArray 0)).get? h1.objs.size=some (seqObj "list" vs.toArray 0):=Heap.get?_push_size _ rfl
 show wpAny _ _ _ _ _ { s with heap:=h1.push (seqObj "list" vs.toArray 0) }
 have fi:=hp.keep (h':=h1) k1
 have iY:=fi.keep (h':=h1.push (seqObj "list" vs.toArray 0)) fun b o e=>Heap.get?_push_of_some _ e
 refine wpAny_bind (wpAny_holding (wpAny_call_entry slot_list_sort ⟨_,BK,rfl⟩ entry_list_sort (qH (s:={ s with heap:=h1.push (seqObj "list" vs.toArray 0) }) BK iY (fi.ne (Nat.le_refl _)) nd Jz fun idx hi=>⟨_,rfl,?_⟩) (args_list_sort _)))
 obtain ⟨e,he⟩:=sortedHeap_at (out:=gg vs idx) BK
 refine wpAny_pure ⟨_,rfl,q h1 _ _ e idx hi k1 (fun b o hb=>?_) rfl he⟩
 have cy:=Heap.lt_size hb
 rw[sortedHeap_old (Nat.ne_of_lt cy) (by rw[size_push'];exact Nat.lt_succ_of_lt cy)]
 exact Heap.get?_push_of_some _ hb
end
section
variable {X:Cx}
theorem tT.len {K:PySem.W.Frag} {H:Hp}: ∀{vs:List V} {ns:List (Int×Int)},tT K H vs ns->ns.length=vs.length
 | [],[],_=>rfl
 | _::_,_::_,⟨_,b⟩=>by rw[List.length_cons,List.length_cons,tT.len b]
 | [],_::_,h=>h.elim
 | _::_,[],h=>h.elim
theorem vD {ys:List V} {us:List Value} (r:Vals ys us): ∀idx:List Nat,(∀i∈idx,i<ys.length)->Vals (idx.map fun i=>ys.getD i .ck) (idx.map fun i=>us.getD i Value.none)
 | [],_=> .nil
 | i::idx,h=>by
  have hi:=h i List.mem_cons_self
  refine .cons ?_ (vD r idx fun j hj=>h j (List.mem_cons_of_mem _ hj))
  obtain ⟨u,e,ru⟩:=r.get (List.getElem?_eq_getElem hi)
  show RelV (ys.getD i .ck) (us.getD i Value.none)
  rw[List.getD_eq_getElem?_getD,List.getD_eq_getElem?_getD,e,List.getElem?_eq_getElem hi]
  exact ru
def J0 (K:PySem.W.Frag):List V->Hp->VK->Prop:=fun xs H Q=> ∃p ys ns,xs=[.ref p]/\(aT K H p ys\/aW K H p ys)/\tT K H ys ns/\ns.Nodup/\ys.length<64/\ ∀q idx,rM ns idx->H q=none->Q (.ref q) (upd H q (.lst (idx.map fun i=>ys.getD i .ck)))
theorem ua (K:PySem.W.Frag) (h:X.K=K):dH X (.builtin "sorted") (J0 K):=by
 subst h
 intro pins s σ H xs us Q I r h
 obtain ⟨p,ys,ns,rfl,hq,hv,nd,hn,q⟩:=h
 obtain ⟨u,rfl,ru⟩:=vals1 r
 cases ru
 have Jz:(64:Nat)<sizeLine:=by decide
 have hnl:=hv.len
 have fin: ∀aI:List Value,Vals ys aI-> ∀(h1 h':Heap) (a:Addr) (e:Nat) (idx:List Nat),rM ns idx->(∀b o,s.heap.get? b=some o->h1.get? b=some o)->(∀b o,h1.get? b=some o->h'.get? b=some o)->a=h1.objs.size->h'.get? a=some (seqObj "list" (gg aI idx) e)->EP X pins σ Q (.ref a) { s with heap:=h' }:=fun aI rv h1 h' a e idx hi k1 k2 ea he=>by
  have I1:Inv X pins σ H { s with heap:=h1 }:=I.kept (t':=s.toks) k1
  have JA:idx.length=ys.length:=by have:=hi.1.length_eq;rw[List.length_range]at this;omega
  have rv2:=vD rv idx fun i wX=>by have:=hi.1.mem_iff.mp wX;rw[List.mem_range]at this;omega
  have I2:Inv X pins σ (upd H a (.lst (idx.map fun i=>ys.getD i .ck))) { s with heap:=h' }:=I1.laid (t':=s.toks) (a:=a) (o:= .lst (idx.map fun i=>ys.getD i .ck)) k2 (by rw[ea];exact Nat.le_refl _) ⟨by rw[List.length_map];omega,_,e,rv2,by simpa [seqObj,gg]using he⟩
  exact ⟨.ref a,_,I2,rfl,q _ idx hi (I1.bu.fresh (by rw[ea];exact Nat.le_refl _))⟩
 rcases hq with hq | hq
 ·obtain ⟨aI,rv,pl,hz⟩:=I.list hq
  obtain ⟨o,ho,hc,m,hd⟩:=pl.isList
  exact oX (.inl rfl) ho hc hd (hv.at I rv) nd (by rw[<-rv.length];exact hn) (fin aI rv)
 ·obtain ⟨aI,rv,pl,hz⟩:=I.tuple hq
  obtain ⟨o,ho,hc,m,hd⟩:=pl
  exact oX (.inr rfl) ho hc hd (hv.at I rv) nd (by rw[<-rv.length];exact hn) (fin aI rv)
end
end L2
namespace L2
open PySem PySem.Spec PyProof.Rows
noncomputable def LR (lo:Int) (n:Nat):It:=⟨fun i _=>i<n,fun i H x H'=>H'=H/\x= .int (lo - i),fun i _=>n<=i⟩
theorem vE {P:Program} {w:World} {K:PySem.W.Frag} {tg:Expr} (it:Addr) (lo:Int) (n:Nat):Turn P w K tg (LR lo n) [it] it (fun i h=>IsRangeIter h it (lo+(i:Nat)*(-1)) ((n:Int) - (i:Nat)) (-1)) where
 mem:=by simp
 obj:=fun i h st b hb=>by
  have e:b=it:=by simpa using hb
  subst e
  exact ⟨_,st,fun v z=>by
   have z':Data.fields _=Data.cell v:=z
   cases z'⟩
 keep:=fun i h h' st k=>k it (by simp) _ st
 item:=by
  intro X hP hw hK hc i pins s σ H E I hf st hg
  subst hP hw hK
  obtain ⟨f0,f1,f2,f3,f4,f5⟩:=hf it (by simp)
  have W:=Walks.range (prog:=X.prog) (w:=X.w) (I.ok.hd hc) it lo (-1) n
  refine W.item i s _ _ hg st fun v h' tk hv jO kk=>?_
  obtain ⟨t,rfl⟩:=hv
  have I1:Inv X pins σ H { s with heap:=h',toks:=tk }:=I.turned (fun b o hb e=>kk b o (by simpa using hb) e) f0 f1 f3 f4 f5
  refine ⟨_,rfl,oa (s:={ s with heap:=h',toks:=tk }) (n:="range_iterator") jO rfl rfl (by decide) ⟨.int (lo - i),H,I1,⟨t,?_⟩,⟨rfl,rfl⟩,jO,fun b hb=>(hf b hb).1⟩⟩
  have e:lo+(i:Int)*(-1)=lo - (i:Int):=by omega
  rw[e]
 done:=by
  intro X hP hw hK hc i pins s σ H E I hf st hg
  subst hP hw hK
  obtain ⟨f0,f1,f2,f3,f4,f5⟩:=hf it (by simp)
  exact wpAny_pyNext_range_end (I.ok.hd hc) st (by have:n<=i:=hg;omega) fun h' eb=>⟨rfl,I.turned (t':=s.toks) (fun b o hb e=>eb b o hb e) f0 f1 f3 f4 f5⟩
 self:=fun _ _ _ _ _ st h=>wpAny_pyIter_rangeiter st h
section
variable {X:Cx} {tg:Expr}
theorem AJ {pins:List (Addr×Obj)} {σ:St} {H:Hp} {s:Shared} {R:It->Hp->Prop} {E:Value->Shared->Prop} {lo hi:Int} {t u v:Tok} {tk:Nat} (I:Inv X pins σ H s) (h1: -(2 ^ 62)<=lo) (h2:lo<2 ^ 62) (h3: -(2 ^ 62)<=hi) (h4:hi<2 ^ 62)
  (q:R (LR lo (lo - hi).toNat) H):wpAny (model X.prog X.w) X.A (pyIter (.ref s.heap.objs.size)) (RW X pins σ tg R) E { s with heap:=s.heap.push { cls:= .type "range",data:= .fields #[.int lo t, .int hi u, .int (-1) v] },toks:=tk }:=by
 refine wpAny_pyIter_range (IsRange.new ..) (PySem.W.small_down h1 h2 h3 h4) ?_
 have I1:Inv X pins σ H { s with heap:=s.heap.push { cls:= .type "range",data:= .fields #[.int lo t, .int hi u, .int (-1) v] },toks:=tk }:=I.kept fun b o e=>Heap.get?_push_of_some _ e
 refine ⟨(s.heap.push { cls:= .type "range",data:= .fields #[.int lo t, .int hi u, .int (-1) v] }).objs.size,[(s.heap.push { cls:= .type "range",data:= .fields #[.int lo t, .int hi u, .int (-1) v] }).objs.size],_,_,H,rfl,
  I1.kept (t':=tk) fun b o e=>Heap.get?_push_of_some _ e,vE _ lo (lo - hi).toNat,?_,fun b hb=>?_,q⟩
 ·have e1:lo+((0:Nat):Int)*(-1)=lo:=by simp
  have e2:(((lo - hi).toNat:Nat):Int) - ((0:Nat):Int)=Builtin.Range.rangeSize lo hi (-1):=by rw[PySem.W.rangeSize_downNat];omega
  show IsRangeIter _ _ (lo+((0:Nat):Int)*(-1)) ((((lo - hi).toNat:Nat):Int) - ((0:Nat):Int)) (-1)
  rw[e1,e2]
  exact Heap.get?_push_size _ rfl
 ·have e:b=(s.heap.push { cls:= .type "range",data:= .fields #[.int lo t, .int hi u, .int (-1) v] }).objs.size:=by simpa using hb
  subst e
  exact I1.kD (Nat.le_refl _) (I1.bu.fresh (Nat.le_refl _))
def Nw (ta:TA):TI:=fun σ H R=>ta σ H fun vs H1=> ∃i j:Int,vs=[.int i, .int j, .int (-1)]/\(-(2 ^ 62)<=i/\i<2 ^ 62/\ -(2 ^ 62)<=j/\j<2 ^ 62)/\R (LR i (i - j).toNat) H1
theorem AK {a b c:Expr} {ta:TA} {p pos:Pos} (hg:Gl X "range") (hm:X.mg "range"=none) (ha:PA X [a,b,c] ta) (hs:starEach [a,b,c] X.env=[(false,eval a X.env),(false,eval b X.env),(false,eval c X.env)]:=by rfl)
  (tf:starEach [b,c] X.env=[(false,eval b X.env),(false,eval c X.env)]:=by rfl):PI X tg (.Call (.Name "range" p) [a,b,c] [] pos) (Nw ta):=by
 intro pins s σ H R I h
 refine Call_ (dE I hg hm boot_range (PyProof.Rows.callWith_type1 (bZ (ha pos pins s σ H _ I h) fun us s1 ⟨vs,H1,I1,r1,q1⟩=>?_) (by rw[hs,tf]) (by rw[tf];rfl)))
 obtain ⟨i,j,e,⟨q1,q2,q3,q4⟩,q⟩:=q1
 subst e
 cases r1 with
 | cons r rr=>
  cases rr with
  | cons r' rr=>
   cases rr with
   | cons r'' rr=>
    cases rr
    obtain ⟨t,rfl⟩:=r
    obtain ⟨t',rfl⟩:=r'
    obtain ⟨t'',rfl⟩:=r''
    exact call_range_3 (by decide) (AJ I1 q1 q2 q3 q4 q) (Or.inl (PyProof.noPylong_of_log2 (by decide+kernel)))
end
theorem xH {lo:Int} {n:Nat} {g:TG} {tb:TS} {D:Ends} {σ:St} {H:Hp} (Pv:Nat->St->Hp->Prop) (h0:Pv 0 σ H)
  (hs: ∀i σ H,i<n->Pv i σ H->g (.int (lo - i)) σ H fun σ2 H2=>tb { D with nx:=Pv (i+1),ct:=Pv (i+1),bk:=D.nx } σ2 H2) (hd: ∀σ H,Pv n σ H->D.nx σ H):
  ∃W:Nat->Nat->St->Hp->Prop,(∃m,W 0 m σ H)/\ ∀i m σ H,W i m σ H->
   ((LR lo n).stop i H/\D.nx σ H)\/((LR lo n).go i H/\ ∃N:St->Hp->Prop,(∀σ' H',N σ' H'-> ∃m',m'<m/\W (i+1) m' σ' H')/\ ∀x H',(LR lo n).yD i H x H'->g x σ H' fun σ2 H2=>tb { D with nx:=N,ct:=N,bk:=D.nx } σ2 H2):=by
 refine ⟨fun i m σ H=>m=n - i/\i<=n/\Pv i σ H,⟨n,by simp,Nat.zero_le _,h0⟩,?_⟩
 rintro i m σ H ⟨rfl,hi,p⟩
 by_cases cy:i<n
 ·refine .inr ⟨cy,Pv (i+1),fun σ' H' p'=>⟨n - (i+1),by omega,rfl,cy,p'⟩,fun x H' y=>?_⟩
  obtain ⟨e,y⟩:=y
  subst e y
  exact hs i σ _ cy p
 ·have e:i=n:=by omega
  subst e
  exact .inl ⟨Nat.le_refl _,hd σ H p⟩
noncomputable def CQ (K:PySem.W.Frag) (a:Addr) (n:Nat):It:=
 ⟨fun i H=> ∃xs x,aT K H a xs/\xs.length=n/\xs.reverse[i]? =some x,fun i H x H'=>H'=H/\ ∀xs,aT K H a xs->xs.reverse[i]? =some x,fun i H=>i=n⟩
theorem AL {P:Program} {w:World} {K:PySem.W.Frag} {tg:Expr} (a it:Addr) (n:Nat) (hz:n<=sizeLine):Turn P w K tg (CQ K a n) [it] it (fun i h=>i<=n/\h.IsRevIter it a ((n:Int) - 1 - (i:Int))) where
 mem:=by simp
 obj:=fun i h st b hb=>by
  have e:b=it:=by simpa using hb
  subst e
  obtain ⟨_,o,e,c,d⟩:=st
  exact ⟨o,e,fun v z=>by rw[d]at z;cases z⟩
 keep:=fun i h h' st k=>let ⟨q,o,e,r⟩:=st;⟨q,o,k it (by simp) o e,r⟩
 item:=by
  intro X hP hw hK hc i pins s σ H E I hf st hg
  subst hP hw hK
  obtain ⟨xs,x,hq,hl,hx⟩:=hg
  obtain ⟨aI,rv,p,J3⟩:=I.list hq
  have lT:=rv.length
  have hi:i<n:=by have:=(List.getElem?_eq_some_iff.mp hx).1;rw[List.length_reverse]at this;omega
  obtain ⟨f0,f1,f2,f3,f4,f5⟩:=hf it (by simp)
  obtain ⟨_,st⟩:=st
  have e:(n:Int) - 1 - (i:Int)=((n - 1 - i:Nat):Int):=by omega
  rw[e]at st
  rw[List.getElem?_reverse (by omega),hl]at hx
  obtain ⟨u,hu,ru⟩:=rv.get hx
  refine wpAny_pyNext_rev_item (items:=aI.toArray) (x:=u) st p.isList (by simpa using hu) fun h' jO sb=>?_
  have I1:Inv X pins σ H { s with heap:=h' }:=I.turned (t':=s.toks) (fun b o hb e=>(sb.2 b hb).trans e) f0 f1 f3 f4 f5
  obtain ⟨o,e1,cc,d⟩:=id jO
  refine ⟨u,rfl,oa (s:={ s with heap:=h' }) e1 cc d (by decide) ⟨x,H,I1,ru,⟨rfl,fun ys hy=>?_⟩,⟨hi,?_⟩,fun b hb=>(hf b hb).1⟩⟩
  ·rw[I.n_ hy hq,List.getElem?_reverse (by omega),hl];exact hx
  ·have e2:(n:Int) - 1 - ((i+1:Nat):Int)=((n - 1 - i:Nat):Int) - 1:=by omega
   rw[e2]
   exact jO
 done:=by
  intro X hP hw hK hc i pins s σ H E I hf st hg
  subst hP hw hK
  obtain ⟨f0,f1,f2,f3,f4,f5⟩:=hf it (by simp)
  obtain ⟨hi,st⟩:=st
  have GS:i=n:=hg
  have e:(n:Int) - 1 - (i:Int)= -1:=by omega
  rw[e]at st
  exact wpAny_pyNext_rev_end (I.ok.hd hc) st fun h' eb=>⟨rfl,I.turned (t':=s.toks) (fun b o hb e=>eb b o hb e) f0 f1 f3 f4 f5⟩
 self:=fun _ _ _ _ _ st h=>wpAny_pyIter_revIter st.2 h
section
variable {X:Cx} {tg:Expr}
def Ny (K:PySem.W.Frag) (ta:TA):TI:=fun σ H R=>ta σ H fun vs H1=> ∃a xs,vs=[.ref a]/\aT K H1 a xs/\R (CQ K a xs.length) H1
theorem Fq (K:PySem.W.Frag) (hK:X.K=K) {a:Expr} {ta:TA} {p pos:Pos} (hg:Gl X "reversed") (hm:X.mg "reversed"=none) (ha:PA X [a] ta) (hs:starEach [a] X.env=[(false,eval a X.env)]:=by rfl):PI X tg (.Call (.Name "reversed" p) [a] [] pos) (Ny K ta):=by
 subst hK
 intro pins s σ H R I h
 refine Call_ (dE I hg hm boot_reversed (PyProof.Rows.callWith_type1 (bZ (ha pos pins s σ H _ I h) fun us s1 ⟨vs,H1,I1,r1,q1⟩=>?_) hs rfl))
 obtain ⟨b,xs,rfl,hq,q⟩:=q1
 obtain ⟨u,rfl,ru⟩:=vals1 r1
 cases (show u=Value.ref b from ru)
 obtain ⟨aI,rv,pl,hz⟩:=I1.list hq
 have hl:=rv.length
 have hsz:aI.toArray.size=xs.length:=by rw[List.size_toArray];omega
 refine call_reversed_list pl.isList ?_
 rw[hsz]
 have hit:(s1.heap.push (revObj b ((xs.length:Int) - 1))).IsRevIter s1.heap.objs.size b ((xs.length:Int) - 1):=⟨_,Heap.get?_push_size _ rfl,rfl,rfl⟩
 refine wpAny_pyIter_revIter hit ?_
 refine ⟨s1.heap.objs.size,[s1.heap.objs.size],_,_,H1,rfl,I1.kept (t':=s1.toks) fun b o e=>Heap.get?_push_of_some _ e,AL b _ xs.length hz,⟨Nat.zero_le _,?_⟩,fun b hb=>?_,q⟩
 ·have e:(xs.length:Int) - 1 - ((0:Nat):Int)=(xs.length:Int) - 1:=by simp
  rw[e]
  exact hit
 ·have e:b=s1.heap.objs.size:=by simpa using hb
  subst e
  exact I1.kD (Nat.le_refl _) (I1.bu.fresh (Nat.le_refl _))
end
theorem CS {K:PySem.W.Frag} {a:Addr} {xs:List V} {g:TG} {tb:TS} {D:Ends} {σ:St} {H:Hp} (Pv:Nat->St->Hp->Prop) (h0:Pv 0 σ H) (hl: ∀i σ H,i<=xs.length->Pv i σ H->aT K H a xs)
  (hs: ∀i x σ H,xs.reverse[i]? =some x->Pv i σ H->g x σ H fun σ2 H2=>tb { D with nx:=Pv (i+1),ct:=Pv (i+1),bk:=D.nx } σ2 H2) (hd: ∀σ H,Pv xs.length σ H->D.nx σ H):
  ∃W:Nat->Nat->St->Hp->Prop,(∃m,W 0 m σ H)/\ ∀i m σ H,W i m σ H->
   ((CQ K a xs.length).stop i H/\D.nx σ H)\/((CQ K a xs.length).go i H/\ ∃N:St->Hp->Prop,(∀σ' H',N σ' H'-> ∃m',m'<m/\W (i+1) m' σ' H')/\ ∀x H',(CQ K a xs.length).yD i H x H'->g x σ H' fun σ2 H2=>tb { D with nx:=N,ct:=N,bk:=D.nx } σ2 H2):=by
 refine ⟨fun i m σ H=>m=xs.length - i/\i<=xs.length/\Pv i σ H,⟨xs.length,by simp,Nat.zero_le _,h0⟩,?_⟩
 rintro i m σ H ⟨rfl,hi,p⟩
 have q:=hl i σ H hi p
 by_cases cy:i<xs.length
 ·refine .inr ⟨⟨xs,xs.reverse[i]'(by rw[List.length_reverse];exact cy),q,rfl,List.getElem?_eq_getElem _⟩,Pv (i+1),fun σ' H' p'=>⟨xs.length - (i+1),by omega,rfl,cy,p'⟩,fun x H' y=>?_⟩
  obtain ⟨e,y⟩:=y
  subst e
  exact hs i x σ _ (y xs q) p
 ·have e:i=xs.length:=by omega
  subst e
  exact .inl ⟨rfl,hd σ H p⟩
end L2
namespace L2
open PySem PySem.Spec PyProof.Rows PySem.MeetsSeq PySem.SeqAt
section
variable {X:Cx}
def Fs (K:PySem.W.Frag):V->List V->Hp->VK->Prop:=fun x vs H Q=> ∃(p:Addr) (xs:List V) (v:V) (ds:List PyData) (d:PyData) (j:Nat),x= .ref p/\vs=[v]/\H p=some (.lst xs)/\gQ K H xs ds/\qE K H v d/\(PyData.canLayAll0 ds=true/\d.canLay0=true)/\d.depth<=60/\
 (∃e,ds[j]? =some e/\PyData.eqv e d=true)/\(∀m e,m<j->ds[m]? =some e->PyData.eqv e d=false)/\Q (.int (j:Nat)) H
theorem AM {k:Nat} (K:PySem.W.Frag) (h:X.K=K) (hr:gF k X.A):wU X "list.index" (Fs K):=by
 subst h
 intro pins s σ H x vs v us Q I rx rv h
 obtain ⟨p,xs,y,ds,d,j,rfl,rfl,hH,rs,rd,⟨l1,l2⟩,dp,⟨ej,hej,yj⟩,no,q⟩:=h
 cases rx
 obtain ⟨u,rfl,ru⟩:=rv.one
 obtain ⟨z,aI,n,r,hl,e⟩:=I.ow hH
 obtain ⟨as,ra⟩:=rd.reads I ru
 obtain ⟨bs,rb⟩:=rs.reads I r
 have hu:=hr.units
 have Qb:sizeLine<2 ^ 62:=by decide
 have hm:min (PyData.depthAll ds) d.depth<=60:=Nat.le_trans (Nat.min_le_right _ _) dp
 have AN:aI.map (readOf s.heap)=ds:=readsAll_map ds aI bs l1 rb
 have hat: ∀m (hm:m<aI.toArray.size) (g:PyData),ds[m]? =some g->PyData.eqv (readOf s.heap aI.toArray[m]) d=PyData.eqv g d:=fun m hm g hg=>by
  rw[<-AN,List.getElem?_map]at hg
  have JU:m<aI.length:=by rw[List.size_toArray]at hm;exact hm
  rw[List.getElem?_eq_getElem JU]at hg
  have:=Option.some.inj hg
  rw[List.getElem_toArray,this]
 have hlen:ds.length=aI.length:=by rw[<-AN,List.length_map]
 have hj:j<aI.toArray.size:=by rw[List.size_toArray, <-hlen];exact (List.getElem?_eq_some_iff.mp hej).1
 have hjz:j<sizeLine:=by rw[List.size_toArray, <-hl]at hj;omega
 refine call_meets F.slot_list_index ⟨_,e,rfl⟩ F.entry_list_index (F.args_list_index_2 _ _) (SeqAt.list_indexAt p aI.toArray n none #[] u (fun w=>PyData.eqv (readOf s.heap w) d) j hj (by omega) (by rw[hat j hj ej hej];exact yj) ?_) ⟨e,?_,?_⟩
 ·intro m hm cy
  have JU:m<ds.length:=by rw[hlen];rw[List.size_toArray]at hm;exact hm
  rw[hat m hm ds[m] (List.getElem?_eq_getElem JU)]
  exact no m _ cy (List.getElem?_eq_getElem JU)
 ·exact items_eqAt (by simpa using rb) ra l1 l2 (by omega)
 ·exact ⟨.int (j:Nat),H,I.tok _,⟨_,rfl⟩,q⟩
end
end L2
namespace L2
open PySem PySem.Spec PyProof.Rows
abbrev gh (h:Heap) (z TI TO:Addr) (f0:Value) (f:Bool):Prop:=
 h.get? z=some { cls:= .type "zip",dict:=none,data:= .fields #[f0, .bool f, .bool false, .ref TI, .ref TO],slots:= #[] }
def Ek (h:Heap) (z TI TO:Addr):Prop:= ∃f0 f,gh h z TI TO f0 f/\(f0= .none\/ ∃a:Nat,f0=rawInt a)
theorem Ek.keep {h h':Heap} {z TI TO:Addr} (x:Ek h z TI TO) (k: ∀o,h.get? z=some o->h'.get? z=some o):Ek h' z TI TO:=by
 obtain ⟨f0,f,e,g⟩:=x
 exact ⟨f0,f,k _ e,g⟩
section
variable {prog:Program} {w:World} {A:Around} {E:Value->Shared->Prop} {s:Shared}
variable {z TI TO i1 i2:Addr} {f1 f2:List Addr} {n1 n2 i:Nat} {P1 P2:Nat->Value->Prop} {S1 S2:Nat->Heap->Prop} {a b:Value}
theorem AO {a:Addr} {Q:Option Obj->Shared->Prop} (h:Q (s.heap.get? a) s):wpAny (model prog w) A (loadIfAlive a) Q E s:=by
 exact fun _ _ _=>h
theorem vF {Q:Bool->Shared->Prop} {f0:Value} {f:Bool} (hz:gh s.heap z TI TO f0 f) (h0:f0= .none\/ ∃a:Nat,f0=rawInt a)
  (h: ∀b h' f',gh h' z TI TO f0 f'->h'.objs.size=s.heap.objs.size->(∀c o,c≠z->s.heap.get? c=some o->h'.get? c=some o)->Q b { s with heap:=h' }):
  wpAny (model prog w) A (Builtin.SmallTypes.ownedTupleIsFree (.ref z)) Q E s:=by
 unfold Builtin.SmallTypes.ownedTupleIsFree
 refine wpAny_bind (m:=field (.ref z) 0) (wpAny_field hz rfl (x:=f0) rfl ?_)
 rcases h0 with rfl | ⟨a,rfl⟩
 ·exact wpAny_pure (h true s.heap f hz rfl fun c o _ e=>e)
 ·show wpAny _ _ (loadIfAlive (a:Int).toNat >>= _) _ _ s
  refine wpAny_bind (AO ?_)
  cases hg:s.heap.get? (a:Int).toNat with
  | none=>exact wpAny_pure (h true s.heap f hz rfl fun c o _ e=>e)
  | some o=>
   show wpAny _ _ (field (.ref z) 1 >>= _) _ _ s
   refine wpAny_bind (wpAny_field hz rfl (x:= .bool f) rfl ?_)
   cases f with
   | true=>exact wpAny_pure (h false s.heap true hz rfl fun c o _ e=>e)
   | false=>
    show wpAny _ _ (setField (.ref z) 1 (.bool true) >>= fun _=>pure false) _ _ s
    refine wpAny_bind (wpAny_setField_rec hz (by simp) fun k1 vo lS=>?_)
    exact wpAny_pure (h false k1 true vo lS.1 fun c o hc e=>lS.extBut _ _ hc e)
theorem AQ {Q:Value->Shared->Prop} (D1:Draws prog w A i1 f1 n1 P1 S1) (D2:Draws prog w A i2 f2 n2 P2 S2) (Z:ZA z TI TO i1 i2 f1 f2)
  (hz:Ek s.heap z TI TO) (wV:IsPair s.heap TI (.ref i1) (.ref i2)) (Eh:IsPair s.heap TO a b) (h1:S1 i s.heap) (h2:S2 i s.heap) (l1:i<n1) (l2:i<n2)
  (hQ: ∀x y h' tk,P1 i x->P2 i y->Ek h' z TI TO->(∃a b,IsPair h' TO a b)->S1 (i+1) h'->S2 (i+1) h'->IsPair h' s.heap.objs.size x y->
   (∀c o,c≠z->c≠TO->c≠i1->c≠i2->s.heap.get? c=some o->h'.get? c=some o)->Q (.ref s.heap.objs.size) { s with heap:=h',toks:=tk }):
  wpAny (model prog w) A (Builtin.«zip.__next__» ⟨[.ref z],[]⟩) (fun fin s'=> ∃v,fin= .done (.ret v)/\Q v s') E s:=by
 obtain ⟨hp,g,d,SQ,os⟩:=s
 obtain ⟨f0,f,hz,h0⟩:=hz
 have i1z:=nm Z.m1 Z.z1
 have i2z:=nm Z.m2 Z.z2
 have Qd:=nm Z.m1 Z.o1
 have Qe:=nm Z.m2 Z.o2
 have i21:=nm Z.m2 Z.c1
 refine wpAny_bind (m:=field (.ref z) 2) (wpAny_field hz rfl (x:= .bool false) rfl ?_)
 refine wpAny_bind (m:=field (.ref z) 3) (wpAny_field hz rfl (x:= .ref TI) rfl ?_)
 refine wpAny_bind (m:=seqItems? (.ref TI)) (wpAny_seqItems wV rfl ?_)
 refine wpAny_bind (m:=Builtin.SmallTypes.ownedTupleIsFree (.ref z)) ?_
 refine vF hz h0 fun b0 k0 f' LS J4 y_=>?_
 replace J4:k0.objs.size=hp.objs.size:=J4
 replace y_: ∀c o,c≠z->hp.get? c=some o->k0.get? c=some o:=y_
 have aba:IsPair k0 TI (.ref i1) (.ref i2):=y_ _ _ Z.tz wV
 have Nz:IsPair k0 TO a b:=y_ _ _ Z.oz Eh
 have NA:S1 i k0:=D1.frame _ _ _ h1 fun c hc o e=>y_ _ _ (nm hc Z.z1) e
 have h20:S2 i k0:=D2.frame _ _ _ h2 fun c hc o e=>y_ _ _ (nm hc Z.z2) e
 cases b0 with
 | true=>
  simp only[if_true]
  refine wpAny_bind (wpAny_rule ?_);refine wpAny_bind (m:=field (.ref z) 4) (wpAny_field LS rfl (x:= .ref TO) rfl ?_)
  refine wpAny_bind (wpAny_setField_rec LS (by simp) fun k1 vo lS=>?_)
  replace vo:gh k1 z TI TO .ellipsis f':=vo
  replace lS:Heap.SameBut z k0 k1:=lS
  refine wpAny_bind ?_;simp only[List.zipIdx_cons,List.zipIdx_nil,List.forIn_cons,List.forIn_nil]
  refine wpAny_bind (wpAny_bind (wpAny_onRaise ?_));refine wpAny_bind (m:=Builtin.SmallTypes.nextOf (.ref i1)) ?_
  refine D1.item i _ _ _ l1 (D1.frame _ _ _ NA fun c hc o e=>lS.extBut _ _ (nm hc Z.z1) e) fun x k2 tk2 px lR kg=>wpAny_pure ?_
  replace kg:Heap.SameBut i1 k1 k2:=kg
  have to2:IsPair k2 TO a b:=kg.extBut _ _ (Ne.symm Qd) (lS.extBut _ _ Z.oz Nz)
  refine wpAny_bind (m:=seqItems? (.ref TO)) (wpAny_seqItems to2 rfl ?_)
  refine wpAny_bind (wpAny_updateSeq_pair to2 fun k3 to3 qG=>?_)
  replace to3:IsPair k3 TO x b:=to3
  replace qG:Heap.SameBut TO k2 k3:=qG
  refine wpAny_bind (wpAny_letGo (wpAny_pure ?_));refine wpAny_bind (wpAny_bind (wpAny_onRaise ?_))
  refine wpAny_bind (m:=Builtin.SmallTypes.nextOf (.ref i2)) ?_
  refine D2.item i _ _ _ l2 (D2.frame _ _ _ h20 fun c hc o e=>qG.extBut _ _ (nm hc Z.o2) (kg.extBut _ _ (nm hc Z.c1) (lS.extBut _ _ (nm hc Z.z2) e))) fun y k4 Nj py Nk oT=>wpAny_pure ?_
  replace oT:Heap.SameBut i2 k3 k4:=oT
  have Nl:IsPair k4 TO x b:=oT.extBut _ _ (Ne.symm Qe) to3
  refine wpAny_bind (m:=seqItems? (.ref TO)) (wpAny_seqItems Nl rfl ?_)
  refine wpAny_bind (wpAny_updateSeq_pair Nl fun k5 Ff xA=>?_)
  replace Ff:IsPair k5 TO x y:=Ff
  replace xA:Heap.SameBut TO k4 k5:=xA
  refine wpAny_bind (wpAny_letGo (wpAny_pure (wpAny_pure ?_)));refine wpAny_bind (m:=seqItems? (.ref TO)) (wpAny_seqItems Ff rfl ?_)
  refine wpAny_bind (wpAny_newTuple ?_)
  have sz:k5.objs.size=hp.objs.size:=by rw[xA.1,oT.1,qG.1,kg.1,lS.1,J4]
  have z5:gh k5 z TI TO .ellipsis f':=xA.extBut _ _ (Ne.symm Z.oz) (oT.extBut _ _ (Ne.symm i2z) (qG.extBut _ _ (Ne.symm Z.oz) (kg.extBut _ _ (Ne.symm i1z) vo)))
  have kp: ∀c o,c≠z->c≠TO->c≠i1->c≠i2->hp.get? c=some o->k5.get? c=some o:=fun c o c1 c2 c3 c4 e=>xA.extBut _ _ c2 (oT.extBut _ _ c4 (qG.extBut _ _ c2 (kg.extBut _ _ c3 (lS.extBut _ _ c1 (y_ _ _ c1 e)))))
  have Fg:S1 (i+1) k5:=D1.frame _ _ _ lR fun c hc o e=>xA.extBut _ _ (nm hc Z.o1) (oT.extBut _ _ (nm hc Z.c2) (qG.extBut _ _ (nm hc Z.o1) e))
  have SR:S2 (i+1) k5:=D2.frame _ _ _ Nk fun c hc o e=>xA.extBut _ _ (nm hc Z.o2) e
  have zl:z<k5.objs.size:=Heap.lt_size z5
  refine wpAny_bind (m:=Builtin.SmallTypes.ownedTupleHandOut (.ref z) (.ref k5.objs.size)) ?_
  have z6:gh (k5.push { cls:= .type "tuple",data:= .seq #[x,y] }) z TI TO .ellipsis f':=Heap.get?_push_of_some _ z5
  (unfold Builtin.SmallTypes.ownedTupleHandOut;refine wpAny_bind (wpAny_setField_rec z6 (by simp) fun k7 z7 s7=>?_))
  replace z7:gh k7 z TI TO (rawInt k5.objs.size) f':=z7
  refine wpAny_setField_rec z7 (by simp) fun k8 z8 s8=>?_
  replace z8:gh k8 z TI TO (rawInt k5.objs.size) false:=z8
  have up: ∀c o,c≠z->k5.get? c=some o->k8.get? c=some o:=fun c o c1 e=>s8.extBut _ _ c1 (s7.extBut _ _ c1 (Heap.get?_push_of_some _ e))
  have t8:IsPair k8 k5.objs.size x y:=s8.extBut _ _ (Nat.ne_of_gt zl) (s7.extBut _ _ (Nat.ne_of_gt zl) (Heap.get?_push_size _ rfl))
  rw[sz]at t8
  refine wpAny_pure ⟨_,rfl,?_⟩
  show Q (.ref k5.objs.size) _
  rw[sz]
  exact hQ x y k8 Nj px py ⟨_,_,z8, .inr ⟨_,rfl⟩⟩ ⟨_,_,up _ _ Z.oz Ff⟩ (D1.frame _ _ _ Fg fun c hc o e=>up c o (nm hc Z.z1) e) (D2.frame _ _ _ SR fun c hc o e=>up c o (nm hc Z.z2) e) t8 fun c o c1 c2 c3 c4 e=>up c o c1 (kp c o c1 c2 c3 c4 e)
 | false=>
  simp only[Bool.false_eq_true,if_false]
  refine wpAny_bind ?_
  rw[<-Array.forIn_toList]
  simp only[List.forIn_cons,List.forIn_nil]
  refine wpAny_bind (wpAny_bind (wpAny_holding ?_));refine wpAny_bind (m:=Builtin.SmallTypes.nextOf (.ref i1)) ?_
  refine D1.item i _ _ _ l1 NA fun x k2 tk2 px lR kg=>wpAny_pure (wpAny_pure ?_)
  replace kg:Heap.SameBut i1 k0 k2:=kg
  refine wpAny_bind (wpAny_bind (wpAny_holding ?_));refine wpAny_bind (m:=Builtin.SmallTypes.nextOf (.ref i2)) ?_
  refine D2.item i _ _ _ l2 (D2.frame _ _ _ h20 fun c hc o e=>kg.extBut _ _ (nm hc Z.c1) e) fun y k4 Nj py Nk oT=>wpAny_pure (wpAny_pure (wpAny_pure ?_))
  replace oT:Heap.SameBut i2 k2 k4:=oT
  show wpAny _ _ (newTuple [x,y] >>= _) _ _ _
  refine wpAny_bind (wpAny_newTuple ?_)
  have sz:k4.objs.size=hp.objs.size:=by rw[oT.1,kg.1,J4]
  refine wpAny_pure ⟨_,rfl,?_⟩
  show Q (.ref k4.objs.size) _
  have up: ∀c o,k4.get? c=some o->(k4.push { cls:= .type "tuple",data:= .seq #[x,y] }).get? c=some o:=fun c o e=>Heap.get?_push_of_some _ e
  have z4:gh k4 z TI TO f0 f':=oT.extBut _ _ (Ne.symm i2z) (kg.extBut _ _ (Ne.symm i1z) LS)
  have o4:IsPair k4 TO a b:=oT.extBut _ _ (Ne.symm Qe) (kg.extBut _ _ (Ne.symm Qd) Nz)
  have t8:IsPair (k4.push { cls:= .type "tuple",data:= .seq #[x,y] }) k4.objs.size x y:=Heap.get?_push_size _ rfl
  rw[sz]at t8
  have e0:Value.ref k4.objs.size=Value.ref hp.objs.size:=by rw[sz]
  rw[e0]
  exact hQ x y _ Nj px py ⟨_,_,up _ _ z4,h0⟩ ⟨_,_,up _ _ o4⟩ (D1.frame _ _ _ lR fun c hc o e=>up c o (oT.extBut _ _ (nm hc Z.c2) e)) (D2.frame _ _ _ Nk fun c hc o e=>up c o e) t8 fun c o c1 c2 c3 c4 e=>up c o (oT.extBut _ _ c4 (kg.extBut _ _ c3 (y_ _ _ c1 e)))
theorem CT {Q:Fin->Shared->Prop} (D1:Draws prog w A i1 f1 n1 P1 S1) (Z:ZA z TI TO i1 i2 f1 f2)
  (hz:Ek s.heap z TI TO) (wV:IsPair s.heap TI (.ref i1) (.ref i2)) (h1:S1 n1 s.heap)
  (hE: ∀h' e,(∀c o,c≠z->c≠TO->c≠i1->c≠i2->s.heap.get? c=some o->h'.get? c=some o)->(∃o,h'.get? e=some o/\o.cls= .type "StopIteration")->E (.ref e) { s with heap:=h' }):
  wpAny (model prog w) A (Builtin.«zip.__next__» ⟨[.ref z],[]⟩) Q E s:=by
 obtain ⟨hp,g,d,SQ,os⟩:=s
 obtain ⟨f0,f,hz,h0⟩:=hz
 have i1z:=nm Z.m1 Z.z1
 refine wpAny_bind (m:=field (.ref z) 2) (wpAny_field hz rfl (x:= .bool false) rfl ?_)
 refine wpAny_bind (m:=field (.ref z) 3) (wpAny_field hz rfl (x:= .ref TI) rfl ?_)
 refine wpAny_bind (m:=seqItems? (.ref TI)) (wpAny_seqItems wV rfl ?_)
 refine wpAny_bind (m:=Builtin.SmallTypes.ownedTupleIsFree (.ref z)) ?_
 refine vF hz h0 fun b0 k0 f' LS J4 y_=>?_
 replace J4:k0.objs.size=hp.objs.size:=J4
 replace y_: ∀c o,c≠z->hp.get? c=some o->k0.get? c=some o:=y_
 have NA:S1 n1 k0:=D1.frame _ _ _ h1 fun c hc o e=>y_ _ _ (nm hc Z.z1) e
 cases b0 with
 | true=>
  simp only[if_true]
  refine wpAny_bind (wpAny_rule ?_);refine wpAny_bind (m:=field (.ref z) 4) (wpAny_field LS rfl (x:= .ref TO) rfl ?_)
  refine wpAny_bind (wpAny_setField_rec LS (by simp) fun k1 vo lS=>?_)
  replace vo:gh k1 z TI TO .ellipsis f':=vo
  replace lS:Heap.SameBut z k0 k1:=lS
  refine wpAny_bind ?_;simp only[List.zipIdx_cons,List.zipIdx_nil,List.forIn_cons,List.forIn_nil]
  refine wpAny_bind (wpAny_bind (wpAny_onRaise ?_));refine wpAny_bind (m:=Builtin.SmallTypes.nextOf (.ref i1)) ?_
  refine D1.done _ _ _ (D1.frame _ _ _ NA fun c hc o e=>lS.extBut _ _ (nm hc Z.z1) e) fun k2 e kg he=>?_
  obtain ⟨oe,Ay,Fh⟩:=he
  have z2:gh k2 z TI TO .ellipsis f':=kg _ _ (Ne.symm i1z) vo
  have ez:e≠z:=fun x=>by subst x;rw[z2]at Ay;cases Ay;simp at Fh
  refine wpAny_setField_rec z2 (by simp) fun k3 _ qG=>hE k3 e (fun c o c1 _ c3 _ x=>qG.extBut _ _ c1 (kg _ _ c3 (lS.extBut _ _ c1 (y_ _ _ c1 x)))) ⟨oe,qG.extBut _ _ ez Ay,Fh⟩
 | false=>
  simp only[Bool.false_eq_true,if_false]
  refine wpAny_bind ?_
  rw[<-Array.forIn_toList]
  simp only[List.forIn_cons,List.forIn_nil]
  refine wpAny_bind (wpAny_bind (wpAny_holding ?_));refine wpAny_bind (m:=Builtin.SmallTypes.nextOf (.ref i1)) ?_
  refine D1.done _ _ _ NA fun k2 e kg he=>hE k2 e (fun c o c1 _ c3 _ x=>kg _ _ c3 (y_ _ _ c1 x)) he
theorem vG {Q:Option Value->Shared->Prop} (D1:Draws prog w A.in1 i1 f1 n1 P1 S1) (D2:Draws prog w A.in1 i2 f2 n2 P2 S2) (Z:ZA z TI TO i1 i2 f1 f2)
  (hz:Ek s.heap z TI TO) (wV:IsPair s.heap TI (.ref i1) (.ref i2)) (Eh:IsPair s.heap TO a b) (h1:S1 i s.heap) (h2:S2 i s.heap) (l1:i<n1) (l2:i<n2)
  (hQ: ∀x y h' tk,P1 i x->P2 i y->Ek h' z TI TO->(∃a b,IsPair h' TO a b)->S1 (i+1) h'->S2 (i+1) h'->IsPair h' s.heap.objs.size x y->
   (∀c o,c≠z->c≠TO->c≠i1->c≠i2->s.heap.get? c=some o->h'.get? c=some o)->Q (some (.ref s.heap.objs.size)) { s with heap:=h',toks:=tk }):
  wpAny (model prog w) A (pyNext (.ref z)) Q E s:=by
 have hT:s.TypeIs (.ref z) "zip":=by
  obtain ⟨f0,f,e,_⟩:=hz
  exact ⟨_,e,rfl⟩
 unfold pyNext
 exact wpAny_bind (wpAny_attempt (wpAny_callSpecial?_slot (name:=Str.ofString "__next__") hT F.slot_zip_next (wpAny_call_entry F.slot_zip_next hT F.entry_zip_next
   (AQ D1 D2 Z hz wV Eh h1 h2 l1 l2 fun x y h' tk p1 p2 a1 a2 a3 a4 a5 a6=>wpAny_pure (hQ x y h' tk p1 p2 a1 a2 a3 a4 a5 a6)) (F.args_zip_next_1 _))))
theorem xI {Q:Option Value->Shared->Prop} (D1:Draws prog w A.in1 i1 f1 n1 P1 S1) (Z:ZA z TI TO i1 i2 f1 f2)
  (hz:Ek s.heap z TI TO) (wV:IsPair s.heap TI (.ref i1) (.ref i2)) (h1:S1 n1 s.heap)
  (hQ: ∀h',(∀c o,c≠z->c≠TO->c≠i1->c≠i2->s.heap.get? c=some o->h'.get? c=some o)->Q none { s with heap:=h' }):wpAny (model prog w) A (pyNext (.ref z)) Q E s:=by
 have hT:s.TypeIs (.ref z) "zip":=by
  obtain ⟨f0,f,e,_⟩:=hz
  exact ⟨_,e,rfl⟩
 unfold pyNext
 refine wpAny_bind (wpAny_attempt (wpAny_callSpecial?_slot (name:=Str.ofString "__next__") hT F.slot_zip_next (wpAny_call_entry F.slot_zip_next hT F.entry_zip_next (CT D1 Z hz wV h1 fun h' e hk he=>?_) (F.args_zip_next_1 _))))
 obtain ⟨o,ho,hc⟩:=he
 refine wpAny_bind (wpAny_isInstance (T:="StopIteration") (b:=true) ⟨o,ho,hc⟩ isSubtype_stop (wpAny_pure (hQ _ hk)))
end
theorem AR {P:Program} {w:World} {K:PySem.W.Frag} {nx:Str} {pos:Pos} {a1 a2 z TI TO i1 i2:Addr} {Sq1 Sq2:Hp->List V->Prop} {I1 I2:Nat->Heap->Prop}
  (W1:ZS P w K a1 i1 Sq1 I1) (W2:ZS P w K a2 i2 Sq2 I2) (Z:ZA z TI TO i1 i2 [i1,a1] [i2,a2]) (n1:a1≠i1) (n2:a2≠i2):
  Turn P w K (.Name nx pos) (GX Sq1 Sq2) [z,TI,TO,i1,i2] z (fun i h=>Ek h z TI TO/\IsPair h TI (.ref i1) (.ref i2)/\(∃a b,IsPair h TO a b)/\I1 i h/\I2 i h) where
 mem:=by simp
 obj:=fun i h st b hb=>by
  obtain ⟨⟨f0,f,q1,_⟩,q2,⟨a,b',q3⟩,q4,q5⟩:=st
  simp only[List.mem_cons,List.not_mem_nil,or_false]at hb
  rcases hb with g | g | g | g | g<;>rw[g]
  ·exact ⟨_,q1,fun v z=>by cases z⟩
  ·exact ⟨_,q2,fun v z=>by cases z⟩
  ·exact ⟨_,q3,fun v z=>by cases z⟩
  ·exact W1.obj i h q4
  ·exact W2.obj i h q5
 keep:=fun i h h' st kp=>by
  obtain ⟨q1,q2,⟨a,b',q3⟩,q4,q5⟩:=st
  exact ⟨q1.keep (kp z (by simp)),kp TI (by simp) _ q2,⟨a,b',kp TO (by simp) _ q3⟩,W1.keep _ _ _ q4 fun o e=>kp i1 (by simp) o e,W2.keep _ _ _ q5 fun o e=>kp i2 (by simp) o e⟩
 item:=by
  intro X hP hw hK hc i pins s σ H E I hf st hg
  obtain ⟨q1,q2,⟨a,b',q3⟩,q4,q5⟩:=st
  obtain ⟨xs,ys,x,y,hx,hy,gx,gy⟩:=hg
  obtain ⟨xi,SX,rx,DX,ux,vx⟩:=W1.draws X hP hw hK hc pins s σ H I xs hx n1
  obtain ⟨yi,SY,ry,DY,uy,vy⟩:=W2.draws X hP hw hK hc pins s σ H I ys hy n2
  obtain ⟨u0,hu,ru⟩:=rx.get gx
  obtain ⟨w0,G0,S0⟩:=ry.get gy
  have SV:=W1.inj X hK pins s σ H I
  have SW:=W2.inj X hK pins s σ H I
  subst hP hw hK
  refine vG DX DY Z q1 q2 q3 (ux i q4) (uy i q5) (List.getElem?_eq_some_iff.mp hu).1 (List.getElem?_eq_some_iff.mp G0).1 fun x2 y2 h' tk p1 p2 e1 e2 e3 e4 e5 e7=>⟨_,rfl,?_⟩
  have ex:x2=u0:=Option.some.inj (p1.symm.trans hu)
  have ey:y2=w0:=Option.some.inj (p2.symm.trans G0)
  subst ex
  subst ey
  have lt: ∀{c o},s.heap.get? c=some o->s.heap.objs.size≠c:=fun e=>Nat.ne_of_gt (Heap.lt_size e)
  obtain ⟨o1,g1⟩:=DX.live _ _ (ux i q4)
  obtain ⟨o2,g2⟩:=DY.live _ _ (uy i q5)
  have BM:s.heap.objs.size∉[z,TI,TO,i1,i2]:=by
   obtain ⟨f0,f,qz,_⟩:=q1
   simp only[List.mem_cons,List.not_mem_nil,or_false,not_or]
   exact ⟨lt qz,lt q2,lt q3,lt g1,lt g2⟩
  have kk: ∀b o,b∉[z,TI,TO,i1,i2]->s.heap.get? b=some o->h'.get? b=some o:=fun b o hb e=>by
   simp only[List.mem_cons,List.not_mem_nil,or_false,not_or]at hb
   exact e7 b o hb.1 hb.2.2.1 hb.2.2.2.1 hb.2.2.2.2 e
  have kR:h'.IsTuple s.heap.objs.size #[x2,y2]:=⟨_,e5,rfl,_,rfl⟩
  refine wpAny_pure ⟨.ref s.heap.objs.size,upd H s.heap.objs.size (.tup [x,y]),?_,rfl,⟨s.heap.objs.size,x,y,fun zs JP=>by rw[SV zs xs JP hx];exact gx,fun zs JP=>by rw[SW zs ys JP hy];exact gy,rfl,I.bu.fresh (Nat.le_refl _),rfl⟩,
   ⟨e1,e7 _ _ Z.tz Z.tt Z.t1 Z.t2 q2,e2,vx _ _ e3,vy _ _ e4⟩,fun b hb=>?_⟩
  ·refine I.je (t':=tk) (h':=h') kk hf (Nat.le_refl _) ?_
   exact ⟨by show 2<=sizeLine;decide,[x2,y2], .cons ru (.cons S0 .nil),kR⟩
  ·rw[aq (fun q:b=s.heap.objs.size=>BM (q▸hb))];exact (hf b hb).1
 done:=by
  intro X hP hw hK hc i pins s σ H E I hf st hg
  obtain ⟨q1,q2,⟨a,b',q3⟩,q4,q5⟩:=st
  obtain ⟨xs,hx,⟨ys,hy⟩,el⟩:=hg
  obtain ⟨xi,SX,rx,DX,ux,vx⟩:=W1.draws X hP hw hK hc pins s σ H I xs hx n1
  have hl:=rx.length
  subst hP hw hK
  have e0:i=xi.length:=by omega
  subst e0
  refine xI DX Z q1 q2 (ux _ q4) fun h' hk=>⟨rfl,I.kQ (t':=s.toks) (ch:=[z,TI,TO,i1,i2]) (fun b o hb e=>?_) hf⟩
  simp only[List.mem_cons,List.not_mem_nil,or_false,not_or]at hb
  exact hk b o hb.1 hb.2.2.1 hb.2.2.2.1 hb.2.2.2.2 e
 self:=fun _ _ s _ _ st h=>by
  obtain ⟨⟨f0,f,q1,_⟩,_⟩:=st
  have hT:s.TypeIs (.ref z) "zip":=⟨_,q1,rfl⟩
  refine wpAny_pyIter_slot hT F.slot_zip_iter (wpAny_call_entry F.slot_zip_iter hT F.entry_zip_iter ?_ (F.args_zip_iter_1 _))
  show wpAny _ _ (ret (.ref z)) _ _ s
  exact wpAny_pure ⟨_,rfl,"zip",_,hT,F.slot_zip_next.lookup,h⟩
section
variable {X:Cx} {nx:Str} {pos':Pos} {a b:Expr} {ta:TA} {p pos:Pos}
theorem CU {Sq1 Sq2:Addr->Hp->List V->Prop} (hg:Gl X "zip") (hm:X.mg "zip"=none) (ha:PA X [a,b] ta) (hs:starEach [a,b] X.env=[(false,eval a X.env),(false,eval b X.env)]) (tf:starEach [b] X.env=[(false,eval b X.env)])
  (hk: ∀(pins:List (Addr×Obj)) (s:Shared) (σ:St) (H:Hp),Inv X pins σ H s-> ∀u v xs ys,Sq1 u H xs->Sq2 v H ys->u<s.heap.objs.size/\v<s.heap.objs.size/\ ∃(c d:String) (P1 P2:Heap->Prop) (I1 I2:Nat->Heap->Prop),ZMk c d P1 P2 u v/\P1 s.heap/\P2 s.heap/\
   ZS X.prog X.w X.K u s.heap.objs.size (Sq1 u) I1/\ZS X.prog X.w X.K v (s.heap.objs.size+1) (Sq2 v) I2/\(∀h':Heap,h'.get? s.heap.objs.size=some { cls:= .type c,data:= .fields #[.ref u, .int 0 0] }->I1 0 h')/\ ∀h':Heap,h'.get? (s.heap.objs.size+1)=some { cls:= .type d,data:= .fields #[.ref v, .int 0 0] }->I2 0 h'):
  PI X (.Name nx pos') (.Call (.Name "zip" p) [a,b] [] pos) (Nn Sq1 Sq2 ta):=by
 intro pins s σ H R I h
 refine Call_ (dE I hg hm boot_zip (PyProof.Rows.callWith_type1 (bZ (ha pos pins s σ H _ I h) fun us s1 ⟨vs,H1,I1,r1,q1⟩=>?_) (by rw[hs,tf]) (by rw[tf];rfl)))
 obtain ⟨u,v,rfl,⟨xs,hx⟩,⟨ys,hy⟩,q⟩:=q1
 obtain ⟨u',v',rfl,ru,rv⟩:=vals2 r1
 cases ru
 cases rv
 obtain ⟨lu,lv,c,d,P1,P2,J1,J2,M,p1,p2,W1,W2,j1,j2⟩:=hk pins s1 σ H1 I1 u v xs ys hx hy
 refine M X.prog X.w X.A X.xe s1 _ p1 p2 fun h' z1 z2 z3 z4 z5 kk=>wpAny_pyIter_zip z1 ?_
 refine ⟨s1.heap.objs.size+4,[s1.heap.objs.size+4,s1.heap.objs.size+2,s1.heap.objs.size+3,s1.heap.objs.size,s1.heap.objs.size+1],_,_,H1,rfl,I1.kept (t':=s1.toks) kk,AR W1 W2 (JL lu lv) (Nat.ne_of_lt lu) (Nat.ne_of_lt (Nat.lt_succ_of_lt lv)),⟨⟨_,_,z1, .inl rfl⟩,z2,⟨_,_,z3⟩,j1 h' z4,j2 h' z5⟩,fun e he=>?_,q⟩
 have Nr:s1.heap.objs.size<=e:=by
  simp only[List.mem_cons,List.not_mem_nil,or_false]at he
  rcases he with g | g | g | g | g<;>rw[g]<;>omega
 exact I1.kD Nr (I1.bu.fresh Nr)
theorem AS (K:PySem.W.Frag) (hK:X.K=K) (hg:Gl X "zip") (hm:X.mg "zip"=none) (ha:PA X [a,b] ta) (hs:starEach [a,b] X.env=[(false,eval a X.env),(false,eval b X.env)]:=by rfl) (tf:starEach [b] X.env=[(false,eval b X.env)]:=by rfl):PI X (.Name nx pos') (.Call (.Name "zip" p) [a,b] [] pos) (Nn (xD K) (xD K) ta):=by
 subst hK
 refine CU hg hm ha hs tf fun pins s σ H I u v xs ys hx hy=>?_
 obtain ⟨xi,_,px,_⟩:=I.tuple hx
 obtain ⟨yi,_,py,_⟩:=I.tuple hy
 obtain ⟨ox,ex,_⟩:=id px
 obtain ⟨oy,ey,_⟩:=id py
 exact ⟨Heap.lt_size ex,Heap.lt_size ey,_,_,(fun h=>h.IsTuple u xi.toArray),(fun h=>h.IsTuple v yi.toArray),_,_,JK (vp u v xi.toArray yi.toArray),px,py,xC u _,xC v _,fun h' e=>⟨_,e,rfl,rfl⟩,fun h' e=>⟨_,e,rfl,rfl⟩⟩
end
end L2
namespace L2
open PySem PySem.Spec PyProof.Rows HT
section
variable {prog:Program} {w:World} {A:Around} {E:Value->Shared->Prop} {s:Shared}
end
section
variable {X:Cx}
end
end L2
set_option maxHeartbeats 4000000
namespace My
open PySem PySem.Spec PyProof.Rows L2
noncomputable def bg:List Nat:=[97,98,99,100,101,102,103,104,105,106,107,108,109,110,111,112,113,114,115,116,117,118,119,120,121,122]
noncomputable def kZ:List Nat:=[65,66,67,68,69,70,71,72,73,74,75,76,77,78,79,80,81,82,83,84,85,86,87,88,89,90]
def Lt (c:Nat):Prop:=c∈bg\/c∈kZ
noncomputable instance (c:Nat):Decidable (Lt c):=by unfold Lt;infer_instance
noncomputable def bb (c:Nat):Nat:=if cN c=true then PyProof.Rows.up1 c else PyProof.Rows.lo1 c
theorem ub: ∀c∈bg++kZ,c<128/\bb c∈bg++kZ/\bb (bb c)=c/\bb c≠c:=by decide+kernel
theorem Lt.mem {c:Nat} (h:Lt c):c∈bg++kZ:=List.mem_append.mpr h
theorem Lt.lt {c:Nat} (h:Lt c):c<128:=(ub c h.mem).1
theorem Lt.bb {c:Nat} (h:Lt c):Lt (bb c):=List.mem_append.mp (ub c h.mem).2.1
theorem bB {c:Nat} (h:Lt c):bb (bb c)=c:=(ub c h.mem).2.2.1
theorem J5 {c:Nat} (h:Lt c):bb c≠c:=(ub c h.mem).2.2.2
theorem Ft {a b:Nat} (ha:Lt a) (hb:Lt b) (e:My.bb a=My.bb b):a=b:=by rw[<-bB ha,e,bB hb]
theorem vH: ∀c∈bg,rl kZ ((bg.idxOf c:Nat):Int)=some (bb c):=by decide+kernel
theorem AU: ∀c∈kZ,rl bg ((kZ.idxOf c:Nat):Int)=some (bb c):=by decide+kernel
noncomputable def vI (l:List Nat):List Nat:=(l.map bb).reverse
def aF (b:Addr) (H H':Hp):Prop:= ∀c o,H c=some o->c≠b->H' c=some o
theorem aF.refl (b:Addr) (H:Hp):aF b H H:=fun _ _ h _=>h
theorem aF.trans {b:Addr} {H H1 H2:Hp} (x:aF b H H1) (y:aF b H1 H2):aF b H H2:=fun c o h n=>y c o (x c o h n) n
theorem aF.of {b:Addr} {H H':Hp} (x:ai H H'):aF b H H':=fun c o h _=>x c o h
theorem aF.upd (b:Addr) (H:Hp) (o:HO):aF b H (upd H b o):=fun c o h n=>by rw[aq n];exact h
theorem ai.upd {H:Hp} {p:Addr} {o:HO} (h:H p=none):ai H (L2.upd H p o):=fun c u e=>by rw[aq (ak e h)];exact e
def cb (H:Hp) (b:Addr):Prop:= ∃x y:Int,H b=some (.lst [.int x, .int y])
theorem cb.same {H H':Hp} {b:Addr} (h:cb H b) (s:ai H H'):cb H' b:=let ⟨x,y,e⟩:=h;⟨x,y,s _ _ e⟩
structure Yd (y:List Nat):Prop where
 nd:y.Nodup
 lt: ∀c∈y,Lt c
 cl: ∀c∈y,bb c∈y
def mU (_:PySem.W.Frag):Sp:=fun vs H Q _=> ∃c,vs=[.str (S [c])]/\c<128/\Q (.str (S [bb c])) H
theorem uc {K:PySem.W.Frag} {vs:List V} {H:Hp} {Q:VK} {E:XK} (h:mU K vs H Q E):vs.length=1:=by obtain ⟨c,rfl,_⟩:=h;rfl
def rN (_:PySem.W.Frag):Sp:=fun vs H Q _=> ∃c,vs=[.str (S [c])]/\Lt c/\Q (.str (S [bb c])) H
theorem xJ {K:PySem.W.Frag} {vs:List V} {H:Hp} {Q:VK} {E:XK} (h:rN K vs H Q E):vs.length=1:=by obtain ⟨c,rfl,_⟩:=h;rfl
def zc (K:PySem.W.Frag):Sp:=fun vs H Q _=> ∃(a:Addr) (ns:List Int) (k:Nat),vs=[.ref a, .int k]/\aT K H a (ns.map V.int)/\k<=1000/\ ∀b H',H b=none->cb H' b->ai H H'->Q (.ref b) H'
theorem CV {K:PySem.W.Frag} {vs:List V} {H:Hp} {Q:VK} {E:XK} (h:zc K vs H Q E):vs.length=2:=by obtain ⟨a,ns,k,rfl,_⟩:=h;rfl
def vJ (_:PySem.W.Frag):Sp:=fun vs H Q _=> ∃(b:Addr) (m:Int),vs=[.ref b, .int m]/\cb H b/\1<=m/\m<1000000/\ ∀(r:Nat) H',(r:Int)<m->cb H' b->aF b H H'->Q (.int r) H'
theorem AV {K:PySem.W.Frag} {vs:List V} {H:Hp} {Q:VK} {E:XK} (h:vJ K vs H Q E):vs.length=2:=by obtain ⟨b,m,rfl,_⟩:=h;rfl
def vK (_:PySem.W.Frag):Sp:=fun vs H Q _=> ∃(b:Addr) (g7 top:Nat),vs=[.ref b, .int g7, .int top]/\cb H b/\1<=g7/\g7<=top/\top<=8/\ ∀(y:List Nat) H',Yd y->2*g7<=y.length->y.length<=2*top->cb H' b->aF b H H'->Q (.str (S y)) H'
theorem AW {K:PySem.W.Frag} {vs:List V} {H:Hp} {Q:VK} {E:XK} (h:vK K vs H Q E):vs.length=3:=by obtain ⟨b,m,t,rfl,_⟩:=h;rfl
def vL (_:PySem.W.Frag):Sp:=fun vs H Q _=> ∃(b:Addr) (y:List Nat) (top:Nat),vs=[.ref b, .str (S y), .int top]/\cb H b/\y≠[]/\y.length<=1000/\top<=1000/\ ∀(l:List Nat) H',(∀c∈l,c∈y)->l.length<=top->cb H' b->aF b H H'->Q (.str (S l)) H'
theorem AX {K:PySem.W.Frag} {vs:List V} {H:Hp} {Q:VK} {E:XK} (h:vL K vs H Q E):vs.length=3:=by obtain ⟨b,m,t,rfl,_⟩:=h;rfl
def md (K:PySem.W.Frag):Sp:=fun vs H Q _=> ∃(a:Addr) (ns:List Int),vs=[.ref a]/\aT K H a (ns.map V.int)/\ns.length<=63/\ ∀H',Q (.bl true) H'
theorem Fu {K:PySem.W.Frag} {vs:List V} {H:Hp} {Q:VK} {E:XK} (h:md K vs H Q E):vs.length=1:=by obtain ⟨b,m,rfl,_⟩:=h;rfl
theorem zd: ∀l:List Nat,(l.map fun c=>[c]).flatten=l
 | []=>rfl
 | c::l=>by rw[List.map_cons,List.flatten_cons,zd l];rfl
theorem Fv: ∀l:List Nat,((l.map fun c=>[c]).map List.length).sum=l.length
 | []=>rfl
 | c::l=>by
  rw[List.map_cons,List.map_cons,List.sum_cons,Fv l]
  show 1+l.length=l.length+1
  omega
theorem g8 (l:List Nat):cq l=(l.map fun c=>[c]).map fun l=>V.str (S l):=by unfold cq;rw[List.map_map];rfl
theorem gi (l:List Nat) (c:Nat):cq l++[V.str (S [c])]=cq (l++[c]):=by unfold cq;rw[List.map_append];rfl
theorem take_snoc {α:Type} {l:List α} {i:Nat} {x:α} (h:l[i]? =some x):l.take i++[x]=l.take (i+1):=by rw[List.take_add_one,h];rfl
theorem ze {ns:List Int} {i:Nat} (h:i<ns.length): ∃z,(ns.map V.int)[i]? =some (V.int z):=⟨ns[i],by rw[List.getElem?_map,List.getElem?_eq_getElem h];rfl⟩
theorem gJ {σ:L2.St} {H:Hp} {A B:Hp->Prop} (h:A H):Jq σ H fun b H3=>if b=true then A H3 else B H3:=by
 show (if true=true then A H else B H)
 rw[if_pos rfl]
 exact h
theorem xK (b:Bool) (z:Int): ∃y,rl [V.int 0,V.int z] (if b=true then 1 else 0)=some (V.int y):=by
 cases b
 ·exact ⟨0,rfl⟩
 ·exact ⟨z,rfl⟩
theorem gj {α:Type}: ∀{l:List α} {i:Nat} {x:α},l[i]? =some x->(x::l.eraseIdx i).Perm l
 | [],i,x,h=>by simp at h
 | a::l,0,x,h=>by
  have:a=x:=by simpa using h
  subst this
  exact List.Perm.refl _
 | a::l,i+1,x,h=>by
  have ih:=gj (l:=l) (i:=i) (x:=x) (by simpa using h)
  rw[List.eraseIdx_cons_succ]
  exact (List.Perm.swap a x _).trans (List.Perm.cons a ih)
theorem rO (l:List Nat) (i:Nat):(cq l).eraseIdx i=cq (l.eraseIdx i):=by
 unfold cq
 induction l generalizing i with
 | nil=>rfl
 | cons a l ih=>
  cases i with
  | zero=>rfl
  | succ i=>rw[List.map_cons,List.eraseIdx_cons_succ,ih,List.eraseIdx_cons_succ,List.map_cons]
theorem CW {l:List Nat} {i:Nat} (h:i<l.length):(cq l)[i]? =some (V.str (S [l[i]])):=by unfold cq;rw[List.getElem?_map,List.getElem?_eq_getElem h];rfl
theorem Fw (a b:List Nat):cq a++cq b=cq (a++b):=by unfold cq;rw[List.map_append]
theorem AY: ∀c∈bg,bb c∉bg:=by decide+kernel
theorem AZ:bg.Nodup:=by decide+kernel
theorem Yd.perm {a b:List Nat} (h:Yd a) (p:a.Perm b):Yd b:=
 ⟨p.nodup_iff.mp h.nd,fun c hc=>h.lt c (p.mem_iff.mpr hc),fun c hc=>p.mem_iff.mp (h.cl c (p.mem_iff.mpr hc))⟩
structure J6 (i:Nat) (L E:List Nat):Prop where
 yd:Yd E
 nd:L.Nodup
 sm: ∀c∈L,c∈bg
 ap: ∀c∈L,c∉E
 ll:L.length=26 - i
 el:E.length=2*i
theorem J6.start:J6 0 bg []:=⟨⟨List.nodup_nil,fun _ h=>absurd h List.not_mem_nil,fun _ h=>absurd h List.not_mem_nil⟩,AZ,fun _ h=>h,fun _ _ h=>absurd h List.not_mem_nil,rfl,rfl⟩
theorem J6.turn {i r:Nat} {L E:List Nat} (w:J6 i L E) (hi:i<26) (hr:r<L.length):J6 (i+1) (L.eraseIdx r) (E++[L[r],bb L[r]]):=by
 have hp:=gj (l:=L) (List.getElem?_eq_getElem hr)
 have hm:L[r]∈L:=List.getElem_mem hr
 have hs:=w.sm _ hm
 have hl:Lt L[r]:= .inl hs
 have nd2:=hp.nodup_iff.mpr w.nd
 have sub: ∀c∈L.eraseIdx r,c∈L:=fun c hc=>hp.mem_iff.mp (List.mem_cons_of_mem _ hc)
 have ap1:=w.ap _ hm
 have ap2:bb L[r]∉E:=fun z=>ap1 (by have:=w.yd.cl _ z;rwa [bB hl]at this)
 refine ⟨⟨?_,fun c hc=>?_,fun c hc=>?_⟩,(List.nodup_cons.mp nd2).2,fun c hc=>w.sm c (sub c hc),fun c hc hE=>?_,?_,?_⟩
 ·rw[List.nodup_append]
  refine ⟨w.yd.nd,?_,fun a ha b hb z=>?_⟩
  ·rw[List.nodup_cons]
   refine ⟨fun z=>(J5 hl) (List.mem_singleton.mp z).symm,List.nodup_cons.mpr ⟨List.not_mem_nil,List.nodup_nil⟩⟩
  ·subst z
   rcases List.mem_cons.mp hb with z | z
   ·exact ap1 (z▸ha)
   ·exact ap2 (List.mem_singleton.mp z▸ha)
 ·rcases List.mem_append.mp hc with z | z
  ·exact w.yd.lt c z
  ·rcases List.mem_cons.mp z with z | z
   ·rw[z];exact hl
   ·rw[List.mem_singleton.mp z];exact hl.bb
 ·rcases List.mem_append.mp hc with z | z
  ·exact List.mem_append_left _ (w.yd.cl c z)
  ·refine List.mem_append_right _ ?_
   rcases List.mem_cons.mp z with z | z
   ·rw[z];exact List.mem_cons_of_mem _ (List.mem_singleton.mpr rfl)
   ·rw[List.mem_singleton.mp z,bB hl];exact List.mem_cons_self
 ·rcases List.mem_append.mp hE with z | z
  ·exact w.ap c (sub c hc) z
  ·rcases List.mem_cons.mp z with z | z
   ·exact (List.nodup_cons.mp nd2).1 (z▸hc)
   ·have e:c=bb L[r]:=List.mem_singleton.mp z
    exact AY _ hs (e▸w.sm c (sub c hc))
 ·have:=hp.length_eq
  rw[List.length_cons,w.ll]at this
  omega
 ·rw[List.length_append,w.el]
  show 2*i+2=_
  omega
theorem aF.eS {b p:Addr} {H H':Hp} {o:HO} (h:aF b H H') (n:H p=none):aF b H (L2.upd H' p o):=fun c u e z=>by rw[aq (ak e n)];exact h c u e z
theorem cb.eS {b p:Addr} {H:Hp} {o:HO} (h:cb H b) (n:p≠b):cb (L2.upd H p o) b:=let ⟨x,y,e⟩:=h;⟨x,y,by rw[aq (Ne.symm n)];exact e⟩
theorem aF.none {b p:Addr} {H H':Hp} (h:aF b H H') (n:H' p=none) (z:p≠b):H p=none:=by
 cases q:H p with
 | none=>rfl
 | some o=>rw[h p o q z]at n;cases n
theorem cb.ne {b p:Addr} {H:Hp} (h:cb H b) (n:H p=none):p≠b:=fun z=>by obtain ⟨x,y,e⟩:=h;rw[<-z,n]at e;cases e
theorem cO {c:Bool} {A B:Prop} (h:c=false) (hB:B):if c=true then A else B:=by rw[h];exact Aj hB
theorem gH {c:Bool} {A B:Prop} (h:c=true) (hA:A):if c=true then A else B:=by rw[h];exact Su hA
theorem zf {l:List Nat} (h: ∀c∈l,Lt c): ∀c∈l,c<128:=fun c hc=>(h c hc).lt
theorem oY (a:List Nat):a.take (cq a).length=a:=by rw[aU];exact List.take_of_length_le (Nat.le_refl _)
theorem aF.same {b:Addr} {H H2 H3:Hp} (n:H b=Option.none) (s:ai H H2) (t:aF b H2 H3):ai H H3:=fun c o e=>t c o (s c o e) (ak e n)
theorem aF.after {p:Addr} {H H1 H2:Hp} (s:aF p H H1) (t:ai H1 H2):aF p H H2:=fun c o e z=>t c o (s c o e z)
noncomputable def bw (ws:List (List Nat)):List V:=ws.map fun l=>V.str (S l)
theorem aN (ws:List (List Nat)):(bw ws).length=ws.length:=by unfold bw;rw[List.length_map]
theorem gk (ws:List (List Nat)) (l:List Nat):bw ws++[V.str (S l)]=bw (ws++[l]):=by unfold bw;rw[List.map_append];rfl
theorem jj {ws:List (List Nat)} {i:Nat} (h:i<ws.length):(bw ws)[i]? =some (V.str (S ws[i])):=by unfold bw;rw[List.getElem?_map,List.getElem?_eq_getElem h];rfl
noncomputable def cD (st:List Nat) (c:Nat):List Nat:=if st.getLast? =some (bb c) then st.dropLast else st++[c]
noncomputable def red (l:List Nat):List Nat:=l.foldl cD []
def ki:List Nat->Prop
 | []=>True
 | [_]=>True
 | a::b::r=>a≠bb b/\ki (b::r)
theorem ki.tail: ∀{a:Nat} {r:List Nat},ki (a::r)->ki r
 | _,[],_=>trivial
 | _,_::_,h=>h.2
theorem ki.snoc: ∀{l:List Nat} {c:Nat},ki l->l.getLast?≠ some (bb c)->ki (l++[c])
 | [],_,_,_=>trivial
 | [a],c,_,h=>⟨fun z=>h (by rw[z];rfl),trivial⟩
 | a::b::r,c,h,k=>⟨h.1,ki.snoc (l:=b::r) h.2 (by simpa using k)⟩
theorem ki.init: ∀{l:List Nat} {c:Nat},ki (l++[c])->ki l/\l.getLast?≠ some (bb c)
 | [],_,_=>⟨trivial,by simp⟩
 | [a],c,h=>⟨trivial,fun z=>h.1 (by simpa using z)⟩
 | a::b::r,c,h=>by
  have ih:=ki.init (l:=b::r) (c:=c) h.2
  exact ⟨⟨h.1,ih.1⟩,by simpa using ih.2⟩
theorem snoc_cases (l:List Nat):l=[]\/ ∃m a,l=m++[a]:=by
 by_cases h:l=[]
 ·exact .inl h
 ·exact .inr ⟨l.dropLast,l.getLast h,(List.dropLast_concat_getLast h).symm⟩
theorem ki.left: ∀{m l:List Nat},ki (m++l)->ki m
 | [],_,_=>trivial
 | [_],_,_=>trivial
 | a::b::r,l,h=>⟨h.1,ki.left (m:=b::r) (l:=l) h.2⟩
theorem mw {l:List Nat} {c:Nat} (h:l.getLast? =some c): ∃m,l=m++[c]:=by
 rcases snoc_cases l with rfl | ⟨m,a,rfl⟩
 ·simp at h
 ·refine ⟨m,?_⟩
  have:a=c:=by simpa using h
  rw[this]
theorem A0 {st:List Nat} {c:Nat} (h:ki st):ki (cD st c):=by
 unfold cD
 by_cases e:st.getLast? =some (bb c)
 ·rw[if_pos e]
  obtain ⟨m,rfl⟩:=mw e
  rw[List.dropLast_concat]
  exact h.init.1
 ·rw[if_neg e]
  exact h.snoc e
theorem rP {st:List Nat} {c d:Nat} (h:d∈cD st c):d∈st\/d=c:=by
 unfold cD at h
 by_cases e:st.getLast? =some (bb c)
 ·rw[if_pos e]at h
  exact .inl (List.dropLast_subset _ h)
 ·rw[if_neg e]at h
  rcases List.mem_append.mp h with z | z
  ·exact .inl z
  ·exact .inr (List.mem_singleton.mp z)
theorem xM {st:List Nat} {x y:Nat} (h:ki st) (hy:Lt y) (e:x=bb y):cD (cD st x) y=st:=by
 subst e
 unfold cD
 by_cases z:st.getLast? =some (bb (bb y))
 ·rw[if_pos z]
  obtain ⟨m,rfl⟩:=mw z
  rw[List.dropLast_concat,bB hy]
  have:=h.init.2
  rw[bB hy]at this
  rw[if_neg this]
 ·rw[if_neg z,if_pos (by simp),List.dropLast_concat]
theorem oZ: ∀(l st:List Nat),ki st->ki (l.foldl cD st)
 | [],_,h=>h
 | _::l,_,h=>oZ l _ (A0 h)
theorem Fx (l:List Nat):ki (red l):=oZ l [] trivial
theorem gm {a b:List Nat} {x y:Nat} (hy:Lt y) (e:x=bb y):red (a++x::y::b)=red (a++b):=by
 unfold red
 rw[List.foldl_append,List.foldl_cons,List.foldl_cons,xM (oZ a [] trivial) hy e, <-List.foldl_append]
theorem fold_same: ∀(l st:List Nat),ki (st++l)->l.foldl cD st=st++l
 | [],st,_=>by simp
 | c::l,st,h=>by
  have h':ki ((st++[c])++l):=by rw[List.append_assoc];exact h
  have h2:=(ki.left h').init.2
  rw[List.foldl_cons]
  have:cD st c=st++[c]:=by unfold cD;rw[if_neg h2]
  rw[this,fold_same l (st++[c]) h',List.append_assoc]
  rfl
theorem gn {l:List Nat} (h:ki l):red l=l:=by
 exact fold_same l [] h
theorem fold_lt: ∀(l st:List Nat),(∀c∈l,Lt c)->(∀c∈st,Lt c)-> ∀c∈l.foldl cD st,Lt c
 | [],_,_,h=>h
 | a::l,st,h1,h2=>fold_lt l _ (fun c hc=>h1 c (List.mem_cons_of_mem _ hc)) fun c hc=>(rP hc).elim (h2 c) fun z=>z▸h1 a List.mem_cons_self
theorem ud {l:List Nat} (h: ∀c∈l,Lt c): ∀c∈red l,Lt c:=fold_lt l [] h fun _ h=>absurd h List.not_mem_nil
theorem A1 (st:List Nat) (c:Nat):(cD st c).length<=st.length+1:=by
 unfold cD
 by_cases e:st.getLast? =some (bb c)
 ·rw[if_pos e,List.length_dropLast];omega
 ·rw[if_neg e,List.length_append];exact Nat.le_refl _
theorem vM: ∀(l st:List Nat),(l.foldl cD st).length<=st.length+l.length
 | [],_=>Nat.le_refl _
 | c::l,st=>by
  have:=vM l (cD st c)
  have h2:=A1 st c
  rw[List.foldl_cons,List.length_cons]
  omega
theorem iu (l:List Nat):(red l).length<=l.length:=by
 have:=vM l []
 rw[List.length_nil,Nat.zero_add]at this
 exact this
theorem CY {l:List Nat} {i c:Nat} (h:l[i]? =some c):red (l.take (i+1))=cD (red (l.take i)) c:=by
 unfold red
 rw[<-take_snoc h,List.foldl_append]
 rfl
theorem CZ: ∀{l:List Nat},(∀k a b,l[k]? =some a->l[k+1]? =some b->a≠bb b)->ki l
 | [],_=>trivial
 | [_],_=>trivial
 | a::b::r,h=>⟨h 0 a b rfl rfl,CZ (l:=b::r) fun k x y h1 h2=>h (k+1) x y (by simpa using h1) (by simpa using h2)⟩
noncomputable def BQ (l:List Nat) (s e:Nat):List Nat:=(l.drop s).take (e - s)
noncomputable def strip:Nat->List Nat->List Nat
 | 0,l=>l
 | n+1,l=>match l with
  | []=>[]
  | [a]=>[a]
  | a::b::r=>if a=bb ((b::r).getLast (by simp)) then strip n (b::r).dropLast else a::b::r
theorem fq: ∀(n:Nat) {l:List Nat},l.length<2->strip n l=l
 | 0,_,_=>rfl
 | _+1,[],_=>rfl
 | _+1,[_],_=>rfl
 | _+1,_::_::_,h=>by simp at h;omega
theorem k_ (l:List Nat) (y:Nat):(l++[y]).getLast (by simp)=y:=by simp
theorem strip_go (n:Nat) {a y:Nat} {m:List Nat} (h:a=bb y):strip (n+1) (a::(m++[y]))=strip n m:=by
 cases m with
 | nil=>
  show (if a=bb (([y]:List Nat).getLast (by simp)) then strip n ([y]:List Nat).dropLast else _)=strip n []
  rw[if_pos (by simpa using h)]
  rfl
 | cons b r=>
  show (if a=bb ((b::(r++[y])).getLast (by simp)) then strip n (b::(r++[y])).dropLast else _)=strip n (b::r)
  have e1:(b::(r++[y])).getLast (by simp)=y:=k_ (b::r) y
  have e2:(b::(r++[y])).dropLast=b::r:=by
   have:b::(r++[y])=(b::r)++[y]:=rfl
   rw[this,List.dropLast_concat]
  rw[if_pos (by rw[e1];exact h),e2]
theorem strip_stop (n:Nat) {a y:Nat} {m:List Nat} (h:a≠bb y):strip n (a::(m++[y]))=a::(m++[y]):=by
 cases n with
 | zero=>rfl
 | succ n=>
  cases m with
  | nil=>
   show (if a=bb (([y]:List Nat).getLast (by simp)) then _ else _)=_
   rw[if_neg (by simpa using h)]
   rfl
  | cons b r=>
   show (if a=bb ((b::(r++[y])).getLast (by simp)) then _ else _)=_
   have e1:(b::(r++[y])).getLast (by simp)=y:=k_ (b::r) y
   rw[if_neg (by rw[e1];exact h)]
   rfl
theorem vN {l:List Nat} (h:2<=l.length): ∃a m y,l=a::(m++[y]):=by
 cases l with
 | nil=>simp at h
 | cons a r=>
  rcases snoc_cases r with rfl | ⟨m,y,rfl⟩
  ·simp at h
  ·exact ⟨a,m,y,rfl⟩
theorem o5: ∀(n:Nat) (l:List Nat) (k:Nat),l.length<=n->strip (n+k) l=strip n l
 | 0,l,k,h=>by rw[fq _ (by omega),fq _ (by omega)]
 | n+1,l,k,h=>by
  by_cases h2:l.length<2
  ·rw[fq _ h2,fq _ h2]
  ·obtain ⟨a,m,y,rfl⟩:=vN (l:=l) (by omega)
   have hm:m.length<=n:=by simp at h;omega
   by_cases e:a=bb y
   ·have:n+1+k=(n+k)+1:=by omega
    rw[this,strip_go _ e,strip_go _ e,o5 n m k hm]
   ·rw[strip_stop _ e,strip_stop _ e]
noncomputable def core (l:List Nat):List Nat:=strip l.length l
theorem jz {a y:Nat} {m:List Nat} (h:a=bb y):core (a::(m++[y]))=core m:=by
 unfold core
 have:(a::(m++[y])).length=(m.length+1)+1:=by simp
 rw[this,strip_go _ h,o5 _ _ _ (Nat.le_refl _)]
theorem eT {a y:Nat} {m:List Nat} (h:a≠bb y):core (a::(m++[y]))=a::(m++[y]):=strip_stop _ h
theorem eU {l:List Nat} (h:l.length<2):core l=l:=fq _ h
theorem la {P:List Nat->List Nat->Prop} (h1: ∀l,l.length<2->P l l) (h2: ∀a m y,a≠bb y->P (a::(m++[y])) (a::(m++[y]))) (h3: ∀a m y r,a=bb y->P m r->P (a::(m++[y])) r): ∀(n:Nat) (l:List Nat),l.length<=n->P l (core l)
 | 0,l,h=>by rw[eU (by omega)];exact h1 l (by omega)
 | n+1,l,h=>by
  by_cases hl:l.length<2
  ·rw[eU hl];exact h1 l hl
  ·obtain ⟨a,m,y,rfl⟩:=vN (l:=l) (by omega)
   by_cases e:a=bb y
   ·rw[jz e]
    exact h3 a m y _ e (la h1 h2 h3 n m (by simp at h;omega))
   ·rw[eT e];exact h2 a m y e
theorem C0 {l:List Nat} {c:Nat}:c∈core l->c∈l:=
 la (P:=fun l r=>c∈r->c∈l) (fun _ _ h=>h) (fun _ _ _ _ h=>h) (fun a m y r _ k h=>List.mem_cons_of_mem _ (List.mem_append_left _ (k h))) l.length l (Nat.le_refl _)
theorem jk (l:List Nat):(core l).length<=l.length:=
 la (P:=fun l r=>r.length<=l.length) (fun _ _=>Nat.le_refl _) (fun _ _ _ _=>Nat.le_refl _) (fun a m y r _ k=>by simp;omega) l.length l (Nat.le_refl _)
theorem J9 {l:List Nat} {s e:Nat} (h1:s+2<=e) (h2:e<=l.length):BQ l s e=l[s]::(BQ l (s+1) (e - 1)++[l[e - 1]]):=by
 unfold BQ
 rw[List.drop_eq_getElem_cons (by omega)]
 have e1:e - s=(e - 1 - (s+1))+1+1:=by omega
 rw[e1,List.take_succ_cons,List.take_add_one,List.getElem?_drop]
 have e2:s+1+(e - 1 - (s+1))=e - 1:=by omega
 rw[e2,List.getElem?_eq_getElem (by omega)]
 rfl
theorem Fy {l:List Nat} {s e:Nat} (h2:e<=l.length):(BQ l s e).length=e - s:=by unfold BQ;rw[List.length_take,List.length_drop];omega
theorem Fz (l:List Nat):BQ l 0 l.length=l:=by unfold BQ;simp
def lb (_:PySem.W.Frag):Sp:=fun vs H Q _=> ∃l:List Nat,vs=[.str (S l)]/\(∀c∈l,Lt c)/\l.length<=1000/\ ∀H',ai H H'->Q (.str (S (red l))) H'
theorem qI {K:PySem.W.Frag} {vs:List V} {H:Hp} {Q:VK} {E:XK} (h:lb K vs H Q E):vs.length=1:=by obtain ⟨c,rfl,_⟩:=h;rfl
def mV (_:PySem.W.Frag):Sp:=fun vs H Q _=> ∃l:List Nat,vs=[.str (S l)]/\(∀c∈l,Lt c)/\l.length<=1000/\ ∀H',ai H H'->Q (.str (S (core (red l)))) H'
theorem ue {K:PySem.W.Frag} {vs:List V} {H:Hp} {Q:VK} {E:XK} (h:mV K vs H Q E):vs.length=1:=by obtain ⟨c,rfl,_⟩:=h;rfl
theorem kj {α:Type} (l:List α) (k:Nat):cut l none (some (k:Int))=l.take k:=by
 unfold cut
 rw[HT.u6,HT.nM,List.drop_zero,Nat.sub_zero]
 by_cases h:k<=l.length
 ·rw[Nat.min_eq_left h]
 ·rw[Nat.min_eq_right (by omega),List.take_of_length_le (Nat.le_refl _),List.take_of_length_le (by omega)]
theorem cE {α:Type} (l:List α) (k:Nat):cut l (some (k:Int)) none=l.drop k:=by
 unfold cut
 rw[HT.u6,HT.nM]
 by_cases h:k<=l.length
 ·rw[Nat.min_eq_left h,List.take_of_length_le (by rw[List.length_drop];exact Nat.le_refl _)]
 ·rw[Nat.min_eq_right (by omega),List.drop_of_length_le (Nat.le_refl _),List.drop_of_length_le (by omega)]
  simp
def Spot (w:List Nat) (k:Nat):Prop:= ∃a b,w[k]? =some a/\w[k+1]? =some b/\a=bb b
theorem xN {w:List Nat} {k:Nat} (h:Spot w k): ∃a b,w=w.take k++a::b::w.drop (k+2)/\a=bb b/\b∈w:=by
 obtain ⟨a,b,h1,h2,e⟩:=h
 obtain ⟨k1,e1⟩:=List.getElem?_eq_some_iff.mp h1
 obtain ⟨k2,e2⟩:=List.getElem?_eq_some_iff.mp h2
 refine ⟨a,b,?_,e,List.mem_of_getElem? h2⟩
 have d1:w.drop k=a::w.drop (k+1):=by rw[List.drop_eq_getElem_cons k1,e1]
 have d2:w.drop (k+1)=b::w.drop (k+2):=by rw[List.drop_eq_getElem_cons k2,e2]
 rw[<-d2, <-d1,List.take_append_drop]
theorem C1 {w:List Nat} {k:Nat} (h:Spot w k) (hw: ∀c∈w,Lt c):red (w.take k++w.drop (k+2))=red w/\(w.take k++w.drop (k+2)).length+2=w.length:=by
 obtain ⟨a,b,e,ea,hb⟩:=xN h
 constructor
 ·have:=gm (a:=w.take k) (b:=w.drop (k+2)) (hw b hb) ea
  rw[<-this, <-e]
 ·have:=congrArg List.length e
  rw[List.length_append,List.length_cons,List.length_cons]at this
  rw[List.length_append]
  omega
theorem FA {w:List Nat} (h: ∀k, ¬Spot w k):red w=w:=gn (CZ fun k a b h1 h2 e=>h k ⟨a,b,h1,h2,e⟩)
noncomputable def C2 (ks:List Nat):List V:=ks.map fun (k:Nat)=>V.int k
noncomputable def ids (ks:List Nat):List PyData:=ks.map fun (k:Nat)=>PyData.int k
theorem rQ {K:PySem.W.Frag} {H:Hp}: ∀ks:List Nat,gQ K H (C2 ks) (ids ks)
 | []=> .nil
 | k::ks=> .cons (.int _) (rQ ks)
theorem lay_ints: ∀ks:List Nat,PyData.canLayAll0 (ids ks)=true
 | []=>rfl
 | k::ks=>by show (PyData.canLay0 (.int _)&&PyData.canLayAll0 (ids ks))=true;rw[lay_ints ks];rfl
theorem o6: ∀ks:List Nat,PyData.depthAll (ids ks)=0
 | []=>rfl
 | k::ks=>by show max (PyData.depth (.int _)) (PyData.depthAll (ids ks))=0;rw[o6 ks];rfl
noncomputable def kl (ws:List (List Nat)):List PyData:=ws.map fun l=>PyData.str (S l)
theorem ft {K:PySem.W.Frag} {H:Hp}: ∀ws:List (List Nat),gQ K H (bw ws) (kl ws)
 | []=> .nil
 | w::ws=> .cons (.str _) (ft ws)
theorem J_ {l:List Nat} (h: ∀c∈l,c<128):PyData.strOk (S l)=true:=by
 unfold PyData.strOk
 rw[Array.all_eq_true_iff_forall_mem]
 intro c hc
 have:c∈l:=by simpa [S]using hc
 have:=h c this
 simp;omega
theorem jA: ∀{ws:List (List Nat)},(∀l∈ws, ∀c∈l,c<128)->PyData.canLayAll0 (kl ws)=true
 | [],_=>rfl
 | w::ws,h=>by
  show (PyData.strOk (S w)&&PyData.canLayAll0 (kl ws))=true
  rw[J_ (h w List.mem_cons_self),jA fun l hl=>h l (List.mem_cons_of_mem _ hl)]
  rfl
theorem jB: ∀ws:List (List Nat),PyData.depthAll (kl ws)=0
 | []=>rfl
 | k::ks=>by show max (PyData.depth (.str _)) (PyData.depthAll (kl ks))=0;rw[jB ks];rfl
mutual
theorem eqv_refl: ∀d:PyData,d.hasDict=false->PyData.eqv d d=true
 | .none,_=>rfl
 | .bool b,_=>by simp[PyData.eqv]
 | .int i,_=>by simp[PyData.eqv]
 | .str x,_=>by simp[PyData.eqv]
 | .list xs,h=>by show PyData.eqvAll xs xs=true;exact eqvAll_refl xs (by simpa [PyData.hasDict]using h)
 | .tuple xs,h=>by show PyData.eqvAll xs xs=true;exact eqvAll_refl xs (by simpa [PyData.hasDict]using h)
 | .dict kvs,h=>by simp[PyData.hasDict]at h
theorem eqvAll_refl: ∀ds:List PyData,PyData.hasDictAll ds=false->PyData.eqvAll ds ds=true
 | [],_=>rfl
 | d::ds,h=>by
  simp[PyData.hasDictAll]at h
  show (PyData.eqv d d&&PyData.eqvAll ds ds)=true
  rw[eqv_refl d h.1,eqvAll_refl ds h.2]
  rfl
end
noncomputable def fu (c:List Nat) (k:Nat):List Nat:=c.drop k++c.take k
noncomputable def jQ (c:List Nat) (n:Nat):List (List Nat):=(List.range n).map fun k=>fu c (k+1)
noncomputable def g9 (c:List Nat):List Nat:=cj c (jQ c (c.length - 1))
@[irreducible] noncomputable def aL (w:List Nat):List Nat:=g9 (core (red w))
theorem fv (w:List Nat):aL w=g9 (core (red w)):=by unfold aL;rfl
theorem rR (c:List Nat) (n:Nat):jQ c (n+1)=jQ c n++[fu c (n+1)]:=by unfold jQ;rw[List.range_succ,List.map_append];rfl
theorem iw: ∀(r:List (List Nat)) (a b:List Nat),cj a (r++[b])=cU (cj a r) b
 | [],_,_=>rfl
 | _::r,_,_=>iw r _ _
theorem lg (c:List Nat) (k:Nat):(fu c k).length=c.length:=by unfold fu;rw[List.length_append,List.length_drop,List.length_take];omega
theorem FC {c:List Nat} {k x:Nat} (h:x∈fu c k):x∈c:=(List.mem_append.mp h).elim List.mem_of_mem_drop List.mem_of_mem_take
theorem km: ∀(r:List (List Nat)) (a:List Nat),cj a r=a\/cj a r∈r
 | [],a=> .inl rfl
 | b::r,a=>by
  rcases km r (cU a b) with h | h
  ·have hl:cU a b=a\/cU a b=b:=by unfold cU;split<;>simp
   rcases hl with e | e
   ·left;show cj (cU a b) r=a;rw[h,e]
   ·right;show cj (cU a b) r∈b::r;rw[h,e];exact List.mem_cons_self
  ·right;exact List.mem_cons_of_mem _ h
theorem A2 (c:List Nat): ∃k,g9 c=fu c k:=by
 rcases km (jQ c (c.length - 1)) c with h | h
 ·exact ⟨0,by show cj _ _=_;rw[h];unfold fu;simp⟩
 ·unfold jQ at h
  obtain ⟨k,_,e⟩:=List.mem_map.mp h
  exact ⟨k+1,e.symm⟩
theorem FD {w:List Nat} (h: ∀c∈w,Lt c): ∀c∈core (red w),Lt c:=fun c hc=>ud h c (C0 hc)
theorem C3 {w:List Nat} (h: ∀c∈w,Lt c): ∀c∈aL w,Lt c:=fun c hc=>by
 obtain ⟨k,e⟩:=A2 (core (red w))
 unfold aL at hc
 rw[e]at hc
 exact FD h c (FC hc)
def zg (_:PySem.W.Frag):Sp:=fun vs H Q _=> ∃l:List Nat,vs=[.str (S l)]/\(∀c∈l,Lt c)/\l.length<=1000/\ ∀H',ai H H'->Q (.str (S (aL l))) H'
theorem C5 {K:PySem.W.Frag} {vs:List V} {H:Hp} {Q:VK} {E:XK} (h:zg K vs H Q E):vs.length=1:=by obtain ⟨c,rfl,_⟩:=h;rfl
def o7 (_:PySem.W.Frag):Sp:=fun vs H Q _=> ∃a b:List Nat,vs=[.str (S a), .str (S b)]/\(∀c∈a,Lt c)/\a.length<=1000/\(∀c∈b,Lt c)/\b.length<=1000/\ ∀H',ai H H'->Q (.bl (decide (aL a=aL b))) H'
theorem vO {K:PySem.W.Frag} {vs:List V} {H:Hp} {Q:VK} {E:XK} (h:o7 K vs H Q E):vs.length=2:=by obtain ⟨c,d,rfl,_⟩:=h;rfl
def AllLt (l:List Nat):Prop:= ∀c∈l,Lt c
theorem AllLt.app {a b:List Nat} (h:AllLt a) (g:AllLt b):AllLt (a++b):=fun c hc=>(List.mem_append.mp hc).elim (h c) (g c)
theorem AllLt.left {a b:List Nat} (h:AllLt (a++b)):AllLt a:=fun c hc=>h c (List.mem_append_left _ hc)
theorem AllLt.right {a b:List Nat} (h:AllLt (a++b)):AllLt b:=fun c hc=>h c (List.mem_append_right _ hc)
theorem o8: ∀(t st x y:List Nat),AllLt t->red (x++(st++t)++y)=red (x++t.foldl cD st++y)
 | [],st,x,y,_=>by rw[List.append_nil];rfl
 | c::t,st,x,y,h=>by
  have hc:Lt c:=h c List.mem_cons_self
  have ht:AllLt t:=fun d hd=>h d (List.mem_cons_of_mem _ hd)
  rw[List.foldl_cons, <-o8 t (cD st c) x y ht]
  unfold cD
  by_cases e:st.getLast? =some (bb c)
  ·rw[if_pos e]
   obtain ⟨m,rfl⟩:=mw e
   rw[List.dropLast_concat]
   have:=gm (a:=x++m) (b:=t++y) hc rfl
   simpa [List.append_assoc]using this
  ·rw[if_neg e]
   simp[List.append_assoc]
theorem zh {t:List Nat} (x y:List Nat) (h:AllLt t):red (x++t++y)=red (x++red t++y):=by
 have:red (x++([]++t)++y)=red (x++red t++y):=o8 t [] x y h
 simpa using this
theorem C6 {t:List Nat} (y:List Nat) (h:AllLt t):red (t++y)=red (red t++y):=by simpa using zh [] y h
theorem A3 {t:List Nat} (x:List Nat) (h:AllLt t):red (x++t)=red (x++red t):=by simpa using zh x [] h
theorem vP (c:Nat) (l:List Nat):vI (c::l)=vI l++[bb c]:=by unfold vI;rw[List.map_cons,List.reverse_cons]
theorem o9 (a b:List Nat): ¬a<cU a b:=by
 unfold cU
 split
 ·rename_i h;exact fun g=>List.lt_irrefl a (List.lt_trans g h)
 ·exact List.lt_irrefl a
theorem nz (a b:List Nat): ¬b<cU a b:=by
 unfold cU
 split
 ·exact List.lt_irrefl b
 ·rename_i h;exact h
theorem G1 {a b c:List Nat} (h: ¬b<a) (g: ¬c<b): ¬c<a:=List.le_trans (show a<=b from h) (show b<=c from g)
theorem FE {a b:List Nat} (h: ¬b<a) (g: ¬a<b):a=b:=List.le_antisymm (show a<=b from h) (show b<=a from g)
theorem kn: ∀(r:List (List Nat)) (a:List Nat), ∀x∈a::r, ¬x<cj a r
 | [],a,x,hx=>by rw[List.mem_singleton.mp hx];exact List.lt_irrefl a
 | b::r,a,x,hx=>by
  show ¬x<cj (cU a b) r
  have h0:=kn r (cU a b) (cU a b) List.mem_cons_self
  rcases List.mem_cons.mp hx with e | hx
  ·rw[e];exact G1 h0 (o9 a b)
  ·rcases List.mem_cons.mp hx with e | hx
   ·rw[e];exact G1 h0 (nz a b)
   ·exact kn r (cU a b) x (List.mem_cons_of_mem _ hx)
theorem o_ (c:List Nat):fu c 0=c:=by unfold fu;simp
theorem FF (c:List Nat):fu c c.length=c:=by unfold fu;simp
theorem vQ (c:List Nat) (k:Nat) (hk:k<=c.length): ¬fu c k<g9 c:=by
 have h:=kn (jQ c (c.length - 1)) c
 by_cases z:k=0
 ·rw[z,o_];exact h c List.mem_cons_self
 ·by_cases z2:k=c.length
  ·rw[z2,FF];exact h c List.mem_cons_self
  ·refine h _ (List.mem_cons_of_mem _ ?_)
   unfold jQ
   exact List.mem_map.mpr ⟨k - 1,List.mem_range.mpr (by omega),by rw[show k - 1+1=k by omega]⟩
theorem iy (c:List Nat): ∃k,k<=c.length/\g9 c=fu c k:=by
 rcases km (jQ c (c.length - 1)) c with h | h
 ·exact ⟨0,Nat.zero_le _,by show cj _ _=_;rw[h,o_]⟩
 ·unfold jQ at h
  obtain ⟨k,hk,e⟩:=List.mem_map.mp h
  have:=List.mem_range.mp hk
  exact ⟨k+1,by omega,e.symm⟩
theorem C7 {c m:List Nat} (h1: ∃k,k<=c.length/\m=fu c k) (h2: ∀k,k<=c.length-> ¬fu c k<m):g9 c=m:=by
 obtain ⟨k,hk,e⟩:=h1
 obtain ⟨j,hj,e2⟩:=iy c
 refine FE ?_ ?_
 ·rw[e];exact vQ c k hk
 ·rw[e2];exact h2 j hj
theorem uf (a b:List Nat):fu (a++b) a.length=b++a:=by unfold fu;rw[List.drop_left,List.take_left]
theorem ug {c:List Nat} {k j:Nat} (hk:k<=c.length) (hj:j<=c.length): ∃i,i<=c.length/\fu (fu c k) j=fu c i:=by
 by_cases z:j<=c.length - k
 ·refine ⟨k+j,by omega,?_⟩
  unfold fu
  rw[List.drop_append_of_le_length (by rw[List.length_drop];omega),List.take_append_of_le_length (by rw[List.length_drop];omega),List.drop_drop,List.append_assoc, <-List.take_add]
 ·refine ⟨j - (c.length - k),by omega,?_⟩
  unfold fu
  have e1:(c.drop k).length=c.length - k:=List.length_drop
  rw[List.drop_append,List.take_append,e1,List.drop_of_length_le (by rw[e1];omega),List.take_of_length_le (l:=c.drop k) (by rw[e1];omega),List.nil_append,List.drop_take,List.take_take]
  have e2:min (j - (c.length - k)) k=j - (c.length - k):=by omega
  rw[e2]
  have e3:c.drop (j - (c.length - k))=(c.drop (j - (c.length - k))).take (k - (j - (c.length - k)))++c.drop k:=by
   have:=List.take_append_drop (k - (j - (c.length - k))) (c.drop (j - (c.length - k)))
   rw[List.drop_drop]at this
   have e:j - (c.length - k)+(k - (j - (c.length - k)))=k:=by omega
   rw[e]at this
   exact this.symm
  rw[e3,List.append_assoc]
  congr 2
  exact e3.symm
theorem xO {c:List Nat} {k:Nat} (hk:k<=c.length):g9 (fu c k)=g9 c:=by
 refine (C7 (c:=c) ?_ fun j hj=>?_).symm
 ·obtain ⟨j,hj,e⟩:=iy (fu c k)
  rw[lg]at hj
  rw[e]
  exact ug hk hj
 ·have hb:c=fu (fu c k) (c.length - k):=by
   have e:fu c k=c.drop k++c.take k:=rfl
   have:=uf (c.drop k) (c.take k)
   rw[List.length_drop, <-e]at this
   rw[this,List.take_append_drop]
  obtain ⟨i,hi,e⟩:=ug (c:=fu c k) (k:=c.length - k) (j:=j) (by rw[lg];omega) (by rw[lg];exact hj)
  rw[<-hb]at e
  rw[e]
  exact vQ _ i hi
theorem pd (a b:List Nat):g9 (a++b)=g9 (b++a):=by
 rw[<-uf a b]
 exact (xO (by rw[List.length_append];omega)).symm
theorem xP {a b:Nat} (ha:Lt a) (hb:Lt b) (h:a≠bb b):b≠bb a:=fun z=>h (by rw[z,bB ha])
theorem rS {l:List Nat} (h: ∀a m y,l=a::(m++[y])->a≠bb y):core l=l:=by
 by_cases z:l.length<2
 ·exact eU z
 ·obtain ⟨a,m,y,rfl⟩:=vN (l:=l) (by omega)
  exact eT (h a m y rfl)
theorem C8 {c d:Nat} {r:List Nat} (h:ki (d::r)) (hc:c≠bb d):ki (c::d::r):=⟨hc,h⟩
theorem Ka {c:Nat} {t:List Nat} (hc:Lt c) (ht:AllLt t):g9 (core (red (c::t)))=g9 (core (red (t++[c]))):=by
 have e1:red (c::t)=red (c::red t):=A3 [c] ht
 have e2:red (t++[c])=red (red t++[c]):=C6 [c] ht
 rw[e1,e2]
 have hr:ki (red t):=Fx t
 have lT:AllLt (red t):=ud ht
 generalize red t=r at hr lT
 cases r with
 | nil=>rfl
 | cons d s=>
  have hd:Lt d:=lT d List.mem_cons_self
  have LU:AllLt s:=fun x hx=>lT x (List.mem_cons_of_mem _ hx)
  obtain ⟨m,e,El⟩: ∃m e,d::s=m++[e]:=by
   rcases snoc_cases (d::s) with z | ⟨m,e,z⟩
   ·cases z
   ·exact ⟨m,e,z⟩
  have A4:Lt e:=lT e (by rw[El];simp)
  have last:(d::s).getLast? =some e:=by rw[El];simp
  by_cases uW:c=bb d
  ·have f1:red (c::d::s)=s:=by
    have:=gm (a:=[]) (b:=s) hd uW
    rw[List.nil_append,List.nil_append]at this
    rw[this,gn hr.tail]
   rw[f1]
   by_cases G2:e=bb c
   ·have f2:red (d::s++[c])=m:=by
     rw[El,List.append_assoc]
     have:=gm (a:=m) (b:=[]) hc G2
     rw[List.append_nil]at this
     show red (m++e::c::[])=m
     rw[this,gn]
     rw[El]at hr
     exact hr.init.1
    rw[f2]
    have hed:e=d:=by rw[G2,uW,bB hd]
    subst hed
    cases m with
    | nil=>
     have:s=[]:=by cases El;rfl
     rw[this]
    | cons x m'=>
     have hx:x=e/\s=m'++[e]:=by
      have:=El
      rw[List.cons_append]at this
      injection this with h1 h2
      exact ⟨h1.symm,h2⟩
     obtain ⟨rfl,rfl⟩:=hx
     have k1:core (m'++[x])=m'++[x]:=rS fun a mm y z=>by
      cases m' with
      | nil=>simp at z
      | cons a' m''=>
       rw[List.cons_append]at z
       injection z with z1 z2
       have z3:y=x:=by
        have:=congrArg List.getLast? z2
        simpa using this.symm
       rw[<-z1,z3]
       exact xP hd (LU a' (by simp)) hr.1
     have k2:core (x::m')=x::m':=rS fun a mm y z=>by
      injection z with z1 z2
      rw[<-z1]
      subst z2
      have:=hr.tail
      rw[List.append_assoc]at this
      have h4:ki ((mm++[y])++[x]):=by rw[List.append_assoc];exact this
      have h5:=h4.init.2
      intro z
      exact h5 (by rw[z,List.getLast?_concat,bB (LU y (by simp))])
     rw[k1,k2]
     exact pd m' [x]
   ·have f2:red (d::s++[c])=d::s++[c]:=gn (hr.snoc (by rw[last];intro z;exact G2 (by injection z)))
    rw[f2]
    have:core (d::(s++[c]))=core s:=jz (by rw[uW,bB hd])
    rw[List.cons_append,this]
  ·have f1:red (c::d::s)=c::d::s:=gn (C8 hr uW)
   rw[f1]
   by_cases G2:e=bb c
   ·have f2:red (d::s++[c])=m:=by
     rw[El,List.append_assoc]
     have:=gm (a:=m) (b:=[]) hc G2
     rw[List.append_nil]at this
     show red (m++e::c::[])=m
     rw[this,gn]
     rw[El]at hr
     exact hr.init.1
    rw[f2,El,jz (by rw[G2,bB hc])]
   ·have f2:red (d::s++[c])=d::s++[c]:=gn (hr.snoc (by rw[last];intro z;exact G2 (by injection z)))
    rw[f2]
    have k1:core (c::d::s)=c::d::s:=by
     rw[El]
     exact eT (xP A4 hc G2)
    have k2:core (d::s++[c])=d::s++[c]:=by
     rw[List.cons_append]
     exact eT (xP hc hd uW)
    rw[k1,k2]
    exact pd [c] (d::s)
theorem rT: ∀{u v:List Nat},AllLt u->AllLt v->aL (u++v)=aL (v++u)
 | [],v,_,_=>by rw[List.append_nil];rfl
 | c::u,v,hu,hv=>by
  have hc:Lt c:=hu c List.mem_cons_self
  have hu':AllLt u:=fun x hx=>hu x (List.mem_cons_of_mem _ hx)
  have e1:aL (c::u++v)=aL (u++v++[c]):=by
   rw[fv,fv]
   exact Ka hc (hu'.app hv)
  have e2:=rT (u:=u) (v:=v++[c]) hu' (hv.app fun x hx=>by rw[List.mem_singleton.mp hx];exact hc)
  rw[e1,List.append_assoc,e2,List.append_assoc]
  rfl
theorem xQ {r:List Nat}:AllLt r-> ∃p,AllLt p/\r=p++core r++vI p:=
 la (P:=fun l c=>AllLt l-> ∃p,AllLt p/\l=p++c++vI p) (fun l _ _=>⟨[],fun _ h=>absurd h List.not_mem_nil,by simp[vI]⟩) (fun a m y _ _=>⟨[],fun _ h=>absurd h List.not_mem_nil,by simp[vI]⟩)
  (fun a m y c e ih h=>by
   have ha:Lt a:=h a List.mem_cons_self
   have hy:Lt y:=h y (by simp)
   obtain ⟨p,hp,e2⟩:=ih fun x hx=>h x (by simp[hx])
   refine ⟨a::p,fun x hx=>?_,?_⟩
   ·rcases List.mem_cons.mp hx with z | z
    ·rw[z];exact ha
    ·exact hp x z
   ·have e3:bb a=y:=by rw[e,bB hy]
    rw[vP,e3]
    have:m++[y]=p++c++vI p++[y]:=by rw[<-e2]
    rw[this]
    simp[List.append_assoc]) r.length r (Nat.le_refl _)
theorem C9 {w:List Nat} {k:Nat} (h:AllLt w):aL (fu w k)=aL w:=by
 unfold fu
 have h1:AllLt (w.take k++w.drop k):=by rw[List.take_append_drop];exact h
 rw[rT h1.right h1.left,List.take_append_drop]
theorem br: ∀c∈bg,cN c=true/\PyProof.Rows.lo1 c=c/\bb c∈kZ:=by decide+kernel
theorem bQ: ∀c∈kZ,cN c=false/\PyProof.Rows.lo1 c=bb c/\c∉bg/\bb c∈bg:=by decide+kernel
theorem rV: ∀c∈kZ,c∉bg:=by decide+kernel
theorem jC {c:Nat} (h:Lt c):cN c=decide (c∈bg):=by
 rcases h with h | h
 ·rw[(br c h).1,decide_eq_true h]
 ·rw[(bQ c h).1,decide_eq_false (bQ c h).2.2.1]
noncomputable def kept (sm:List Nat) (c:Nat):Bool:=decide (PyProof.Rows.lo1 c∈sm)
def cyc (i j k:Nat):Prop:=(i<j/\j<k)\/(j<k/\k<i)\/(k<i/\i<j)
noncomputable instance (i j k:Nat):Decidable (cyc i j k):=by unfold cyc;infer_instance
theorem A5 {a b:List Nat} (h:a.Perm b) (ha:a.Pairwise (· <= ·)) (hb:b.Pairwise (· <= ·)):a=b:=
 List.Perm.eq_of_pairwise (le:=fun x y=>x<=y) (fun _ _ _ _ h1 h2=>Nat.le_antisymm h1 h2) ha hb h
def vR (_:PySem.W.Frag):Sp:=fun vs H Q _=> ∃l:List Nat,vs=[.str (S l)]/\(∀c∈l,c<128)/\l.length<64/\ ∀l' H',l'.Perm (l.filter cN)->l'.Pairwise (· <= ·)->ai H H'->Q (.str (S l')) H'
theorem A6 {K:PySem.W.Frag} {vs:List V} {H:Hp} {Q:VK} {E:XK} (h:vR K vs H Q E):vs.length=1:=by obtain ⟨c,rfl,_⟩:=h;rfl
def rW (_:PySem.W.Frag):Sp:=fun vs H Q _=> ∃y:List Nat,vs=[.str (S y)]/\y.length<64/\ ∀q l' H',H q=none->H' q=some (.lst (cq l'))->l'.Perm (y.filter fun c=>decide (c∈bg))->l'.Pairwise (· <= ·)->ai H H'->Q (.ref q) H'
theorem xR {K:PySem.W.Frag} {vs:List V} {H:Hp} {Q:VK} {E:XK} (h:rW K vs H Q E):vs.length=1:=by obtain ⟨c,rfl,_⟩:=h;rfl
theorem mW {p:Nat->Bool} {l:List Nat} {i c:Nat} (h:l[i]? =some c):(l.take (i+1)).filter p=(l.take i).filter p++if p c=true then [c] else []:=by
 rw[<-take_snoc h,List.filter_append]
 congr 1
 by_cases z:p c=true
 ·rw[if_pos z,List.filter_cons_of_pos z];rfl
 ·rw[if_neg z,List.filter_cons_of_neg z];rfl
theorem pf: ∀ws:List (List Nat),PyData.hasDictAll (kl ws)=false
 | []=>rfl
 | w::ws=>by show (PyData.hasDict (.str (S w))||PyData.hasDictAll (kl ws))=false;rw[pf ws];rfl
theorem C_ {y:List Nat} (h:Yd y):2*(y.filter cN).length=y.length:=by
 have key: ∀p q:Nat->Bool,(∀c∈y,p c=true->q (bb c)=true)->(y.filter p).length<=(y.filter q).length:=fun p q hpq=>by
  have hn:((y.filter p).map bb).Nodup:=by
   show ((y.filter p).map bb).Pairwise (· ≠ ·)
   rw[List.pairwise_map]
   refine (h.nd.filter p).imp_of_mem fun {a b} ha hb z e=>z ?_
   exact Ft (h.lt a (List.mem_filter.mp ha).1) (h.lt b (List.mem_filter.mp hb).1) e
  have:=hn.length_le_of_subset (l₂:=y.filter q) fun c hc=>by
   obtain ⟨d,hd,rfl⟩:=List.mem_map.mp hc
   obtain ⟨d1,d2⟩:=List.mem_filter.mp hd
   exact List.mem_filter.mpr ⟨h.cl d d1,hpq d d1 d2⟩
  rwa [List.length_map]at this
 have k1:=key cN (fun c=>!cN c) fun c hc z=>by
  rw[jC (h.lt c hc)]at z
  have hs:=of_decide_eq_true z
  rw[(bQ _ (br c hs).2.2).1];rfl
 have k2:=key (fun c=>!cN c) cN fun c hc z=>by
  rcases h.lt c hc with q | q
  ·rw[(br c q).1]at z;cases z
  ·exact (br _ (bQ c q).2.2.2).1
 have k3:(y.filter cN).length+(y.filter fun c=>!cN c).length=y.length:=by
  clear k1 k2 key h
  induction y with
  | nil=>rfl
  | cons a r ih=>
   cases hq:cN a
   ·rw[List.filter_cons_of_neg (by simp[hq]),List.filter_cons_of_pos (by simp[hq]),List.length_cons,List.length_cons];omega
   ·rw[List.filter_cons_of_pos hq,List.filter_cons_of_neg (by simp[hq]),List.length_cons,List.length_cons];omega
 omega
noncomputable def aC (y:List Nat):List Nat:=(y.filter cN).mergeSort fun a b=>decide (a<=b)
theorem dU (y:List Nat):(aC y).Perm (y.filter cN):=List.mergeSort_perm _ _
theorem vS (y:List Nat):(aC y).Pairwise (· <= ·):=
 (List.pairwise_mergeSort (le:=fun a b=>decide (a<=b)) (fun a b c h1 h2=>decide_eq_true (Nat.le_trans (of_decide_eq_true h1) (of_decide_eq_true h2))) (fun a b=>by
  rcases Nat.le_total a b with z | z
  ·rw[decide_eq_true z];rfl
  ·rw[decide_eq_true z,Bool.or_true]) (y.filter cN)).imp fun z=>of_decide_eq_true z
theorem fM {y l:List Nat} (h:l.Perm (y.filter cN)) (p:l.Pairwise (· <= ·)):l=aC y:=A5 (h.trans (dU y).symm) p (vS y)
theorem ph {y:List Nat} (h: ∀c∈y,Lt c):(y.filter fun c=>decide (c∈bg))=y.filter cN:=List.filter_congr fun c hc=>(jC (h c hc)).symm
theorem rX {y:List Nat} (h:Yd y) {e:Nat} (he:e∈y):PyProof.Rows.lo1 e∈aC y:=by
 refine (dU y).mem_iff.mpr (List.mem_filter.mpr ?_)
 rcases h.lt e he with z | z
 ·rw[(br e z).2.1];exact ⟨he,(br e z).1⟩
 ·rw[(bQ e z).2.1];exact ⟨h.cl e he,(br _ (bQ e z).2.2.2).1⟩
theorem cZ {y:List Nat} (h:Yd y):2*(aC y).length=y.length:=by rw[(dU y).length_eq];exact C_ h
structure Pr where
 t:Addr
 c:Nat
 i:Nat
noncomputable def bS (ps:List Pr):List V:=ps.map fun p=>V.ref p.t
theorem aZ (ps:List Pr):(bS ps).length=ps.length:=by unfold bS;rw[List.length_map]
theorem zi (a b:List Pr):bS a++bS b=bS (a++b):=by unfold bS;rw[List.map_append]
theorem g_ (a:List Pr) (p:Pr):bS a++[V.ref p.t]=bS (a++[p]):=by unfold bS;rw[List.map_append];rfl
theorem FG (a:List Pr):(bS a).reverse=bS a.reverse:=by unfold bS;rw[List.map_reverse]
theorem pj {ps:List Pr} {i:Nat} {x:V} (h:(bS ps)[i]? =some x): ∃p,ps[i]? =some p/\x=V.ref p.t:=by
 unfold bS at h
 rw[List.getElem?_map]at h
 cases e:ps[i]? with
 | none=>rw[e]at h;cases h
 | some p=>rw[e]at h;cases h;exact ⟨p,rfl,rfl⟩
structure dF (H:Hp) (p:Pr):Prop where
 tp:H p.t=some (.tup [.int p.c, .int p.i])
 cz:p.c<1000
 iz:p.i<1000
theorem dF.same {H H':Hp} {p:Pr} (h:dF H p) (s:ai H H'):dF H' p:=⟨s _ _ h.tp,h.cz,h.iz⟩
structure Od where
 o:Addr
 ps:List Pr
structure gp (H:Hp) (o:Od):Prop where
 tp:H o.o=some (.tup (bS o.ps))
 pr: ∀p∈o.ps,dF H p
 fw:o.ps.length<=100
theorem gp.same {H H':Hp} {o:Od} (h:gp H o) (s:ai H H'):gp H' o:=⟨s _ _ h.tp,fun p hp=>(h.pr p hp).same s,h.fw⟩
noncomputable def mX (os:List Od):List V:=os.map fun o=>V.ref o.o
theorem jD (os:List Od):(mX os).length=os.length:=by unfold mX;rw[List.length_map]
theorem pq (a:List Od) (p:Od):mX a++[V.ref p.o]=mX (a++[p]):=by unfold mX;rw[List.map_append];rfl
theorem ko {os:List Od} {i:Nat} {o:Od} (h:os[i]? =some o):(mX os)[i]? =some (V.ref o.o):=by unfold mX;rw[List.getElem?_map,h];rfl
structure eK (H:Hp) (dr:Addr) (ws:List (List Nat)) (os:List Od):Prop where
 ex: ∃wt ot,H dr=some (.tup [.ref wt, .ref ot])/\H wt=some (.tup (bw ws))/\H ot=some (.tup (mX os))
 od: ∀o∈os,gp H o
theorem eK.same {H H':Hp} {dr:Addr} {ws:List (List Nat)} {os:List Od} (h:eK H dr ws os) (s:ai H H'):eK H' dr ws os:=by
 obtain ⟨⟨wt,ot,h1,h2,h3⟩,g⟩:=h
 exact ⟨⟨wt,ot,s _ _ h1,s _ _ h2,s _ _ h3⟩,fun o ho=>(g o ho).same s⟩
noncomputable def A7 (y:List Nat) (os:List Od) (e:Nat):List Pr:=((os[(aC y).idxOf (PyProof.Rows.lo1 e)]?).map Od.ps).getD []
noncomputable def rY (y:List Nat) (os:List Od) (e:Nat):List Pr:=if isUp e=true then (A7 y os e).reverse else A7 y os e
theorem lh {y:List Nat} {os:List Od} {e:Nat} (h:Yd y) (he:e∈y) (ho:2*os.length=y.length): ∃o∈os,os[(aC y).idxOf (PyProof.Rows.lo1 e)]? =some o/\A7 y os e=o.ps:=by
 have hi:=List.idxOf_lt_length_of_mem (rX h he)
 have hl:=cZ h
 have wX:(aC y).idxOf (PyProof.Rows.lo1 e)<os.length:=by omega
 exact ⟨os[(aC y).idxOf (PyProof.Rows.lo1 e)],List.getElem_mem wX,List.getElem?_eq_getElem wX,by unfold A7;rw[List.getElem?_eq_getElem wX];rfl⟩
structure Pt where
 t:Addr
 c:Nat
 i:Nat
 e:Nat
noncomputable def Em (ps:List Pt):List V:=ps.map fun p=>V.ref p.t
theorem zj (ps:List Pt):(Em ps).length=ps.length:=by unfold Em;rw[List.length_map]
theorem Dc (a:List Pt) (p:Pt):Em a++[V.ref p.t]=Em (a++[p]):=by unfold Em;rw[List.map_append];rfl
noncomputable def Pt.is (p:Pt):Nat×Nat×Nat:=(p.c,p.i,p.e)
structure qJ (H:Hp) (p:Pt):Prop where
 tp:H p.t=some (.tup [.int p.c, .int p.i, .str (S [p.e])])
 cz:p.c<1000
 iz:p.i<1000
 ez:p.e<128
theorem qJ.same {H H':Hp} {p:Pt} (h:qJ H p) (s:ai H H'):qJ H' p:=⟨s _ _ h.tp,h.cz,h.iz,h.ez⟩
theorem qJ.upd {H:Hp} {p:Pt} {q:Addr} {o:HO} (h:qJ H p) (n:p.t≠q):qJ (L2.upd H q o) p:=⟨by rw[aq n];exact h.tp,h.cz,h.iz,h.ez⟩
noncomputable def pA (y:List Nat) (os:List Od) (e:Nat):List (Nat×Nat×Nat):=(rY y os e).map fun p=>(p.c,p.i,e)
noncomputable def qK (y:List Nat) (os:List Od):List (Nat×Nat×Nat):=y.flatMap (pA y os)
def De (K:PySem.W.Frag) (H:Hp) (x:V) (ys:List V):Prop:=(∃p,x= .ref p/\(aT K H p ys\/aW K H p ys))\/ ∃l:List Nat,x= .str (S l)/\ys=cq l
def rZ (K:PySem.W.Frag):Sp:=fun vs H Q _=> ∃(b:Addr) (x:V) (ys:List V),vs=[.ref b,x]/\cb H b/\De K H x ys/\ys.length<=1000/\ ∀q ys' H',H q=none->q≠b->H' q=some (.lst ys')->ys'.Perm ys->cb H' b->aF b H H'->Q (.ref q) H'
theorem xS {K:PySem.W.Frag} {vs:List V} {H:Hp} {Q:VK} {E:XK} (h:rZ K vs H Q E):vs.length=2:=by obtain ⟨c,_,_,rfl,_⟩:=h;rfl
theorem xT {α β:Type} {f:α->β} {ys zs:List β} (h:ys.Perm zs): ∀l:List α,zs=l.map f-> ∃l':List α,ys=l'.map f/\l'.Perm l:=by
 induction h with
 | nil=>intro l e;cases l with
  | nil=>exact ⟨[],rfl,List.Perm.refl _⟩
  | cons a l=>cases e
 | cons x h ih=>
  intro l e
  cases l with
  | nil=>cases e
  | cons a l=>
   injection e with e1 e2
   obtain ⟨l',g1,g2⟩:=ih l e2
   exact ⟨a::l',by rw[g1,e1];rfl,g2.cons a⟩
 | swap x y t=>
  intro l e
  cases l with
  | nil=>cases e
  | cons a l=>
   cases l with
   | nil=>cases e
   | cons b l=>
    injection e with e1 e2
    injection e2 with e2 e3
    exact ⟨b::a::l,by rw[e1,e2,e3];rfl,List.Perm.swap a b l⟩
 | trans h1 h2 i1 i2=>
  intro l e
  obtain ⟨l1,g1,g2⟩:=i2 l e
  obtain ⟨l2,g3,g4⟩:=i1 l1 g1
  exact ⟨l2,g3,g4.trans g2⟩
noncomputable def Pr.pair (p:Pr):Nat×Nat:=(p.c,p.i)
noncomputable def uO (band l:Nat):Bool:=decide (l=band)||decide (l=bb band)
noncomputable def dX (band c:Nat) (w:List Nat) (n:Nat):List (Nat×Nat):=((List.range n).filter fun i=>uO band (w.getD i 0)).map fun i=>(c,i)
noncomputable def bt (band:Nat) (ws:List (List Nat)) (n:Nat):List (Nat×Nat):=(List.range n).flatMap fun c=>dX band c (ws.getD c []) (ws.getD c []).length
theorem pB {band c i l:Nat} {w:List Nat} (h:w[i]? =some l):dX band c w (i+1)=dX band c w i++if uO band l=true then [(c,i)] else []:=by
 have e:w.getD i 0=l:=by rw[List.getD_eq_getElem?_getD,h];rfl
 unfold dX
 rw[List.range_succ,List.filter_append,List.map_append]
 congr 1
 by_cases z:uO band l=true
 ·rw[if_pos z,List.filter_cons_of_pos (by rw[e];exact z)];rfl
 ·rw[if_neg z,List.filter_cons_of_neg (by rw[e];exact z)];rfl
theorem gK {band i:Nat} {ws:List (List Nat)} {w:List Nat} (h:ws[i]? =some w):bt band ws (i+1)=bt band ws i++dX band i w w.length:=by
 have e:ws.getD i []=w:=by rw[List.getD_eq_getElem?_getD,h];rfl
 unfold bt
 rw[List.range_succ,List.flatMap_append]
 congr 1
 rw[List.flatMap_cons,List.flatMap_nil,List.append_nil,e]
theorem A8 (band c:Nat) (w:List Nat) (n:Nat):(dX band c w n).length<=n:=by
 unfold dX
 rw[List.length_map]
 exact Nat.le_trans (List.length_filter_le _ _) (by rw[List.length_range];exact Nat.le_refl _)
structure iA (y:List Nat) (ws:List (List Nat)):Prop where
 g7:ws.length<=4
 all: ∀w∈ws,(∀c∈w,c∈y)/\w.length<=12
def lj (y:List Nat) (ws:List (List Nat)) (os:List Od):Prop:=os.length=(aC y).length/\ ∀(j:Nat) (o:Od) (b:Nat),os[j]? =some o->(aC y)[j]? =some b->(o.ps.map Pr.pair).Perm (bt b ws ws.length)
def mY (_:PySem.W.Frag):Sp:=fun vs H Q _=> ∃(b:Addr) (y:List Nat) (wt:Addr) (ws:List (List Nat)),vs=[.ref b, .str (S y), .ref wt]/\cb H b/\Yd y/\y.length<=8/\wt≠b/\H wt=some (.tup (bw ws))/\iA y ws/\ ∀(dr:Addr) (os:List Od) (H':Hp),eK H' dr ws os->lj y ws os->cb H' b->aF b H H'->Q (.ref dr) H'
theorem uh {K:PySem.W.Frag} {vs:List V} {H:Hp} {Q:VK} {E:XK} (h:mY K vs H Q E):vs.length=3:=by obtain ⟨c,_,_,_,rfl,_⟩:=h;rfl
def jY (_:PySem.W.Frag):Sp:=fun vs H Q _=> ∃(y:List Nat) (dr:Addr) (ws:List (List Nat)) (os:List Od) (e:Nat),vs=[.str (S y), .ref dr, .str (S [e])]/\Yd y/\y.length<=8/\e∈y/\2*os.length=y.length/\eK H dr ws os/\ ∀(q:Addr) (H':Hp),H q=none->H' q=some (.lst (bS (rY y os e)))->ai H H'->Q (.ref q) H'
theorem pE {K:PySem.W.Frag} {vs:List V} {H:Hp} {Q:VK} {E:XK} (h:jY K vs H Q E):vs.length=3:=by obtain ⟨c,_,_,_,_,rfl,_⟩:=h;rfl
def r0 (_:PySem.W.Frag):Sp:=fun vs H Q _=> ∃(y:List Nat) (dr:Addr) (ws:List (List Nat)) (os:List Od),vs=[.str (S y), .ref dr]/\Yd y/\y.length<=8/\2*os.length=y.length/\eK H dr ws os/\ ∀(q:Addr) (ps:List Pt) (H':Hp),H q=none->H' q=some (.lst (Em ps))->(∀p∈ps,qJ H' p/\p.t≠q)->ps.map Pt.is=qK y os->ps.length<=800->ai H H'->Q (.ref q) H'
theorem xU {K:PySem.W.Frag} {vs:List V} {H:Hp} {Q:VK} {E:XK} (h:r0 K vs H Q E):vs.length=2:=by obtain ⟨c,_,_,_,rfl,_⟩:=h;rfl
theorem FH {y:List Nat} {os:List Od} {e:Nat} {p:Pr} (h:Yd y) (he:e∈y) (ho:2*os.length=y.length) (hp:p∈rY y os e): ∃o∈os,p∈o.ps:=by
 obtain ⟨o,h1,h2,h3⟩:=lh h he ho
 refine ⟨o,h1,?_⟩
 unfold rY at hp
 rw[h3]at hp
 split at hp
 ·exact List.mem_reverse.mp hp
 ·exact hp
theorem FI {H:Hp} {y:List Nat} {os:List Od} {e:Nat} (h:Yd y) (he:e∈y) (ho:2*os.length=y.length) (hd: ∀o∈os,gp H o):(rY y os e).length<=100:=by
 obtain ⟨o,h1,h2,h3⟩:=lh h he ho
 have:=(hd o h1).fw
 unfold rY
 rw[h3]
 split
 ·rw[List.length_reverse];exact this
 ·exact this
theorem aJ.box {H H':Hp} {b:Addr} (h:cb H b) (s:aF b H H'):aJ H H':=fun c xs e=>s c _ e fun z=>by
 obtain ⟨x,y,g⟩:=h
 rw[z,g]at e;cases e
theorem dF.ts {H H':Hp} {p:Pr} (h:dF H p) (s:aJ H H'):dF H' p:=⟨s _ _ h.tp,h.cz,h.iz⟩
theorem gp.ts {H H':Hp} {o:Od} (h:gp H o) (s:aJ H H'):gp H' o:=⟨s _ _ h.tp,fun p hp=>(h.pr p hp).ts s,h.fw⟩
theorem ui {band l:Nat} (hb:band∈bg) (hl:Lt l):decide (PyProof.Rows.lo1 l=band)=uO band l:=by
 unfold uO
 rcases hl with h | h
 ·have e:=(br l h).2.1
  have n:l≠bb band:=fun z=>rV _ (br band hb).2.2 (z▸h)
  rw[e,decide_eq_false n,Bool.or_false]
 ·have e:=(bQ l h).2.1
  have n:l≠band:=fun z=>rV l h (z▸hb)
  rw[e,decide_eq_false n,Bool.false_or]
  refine decide_eq_decide.mpr ⟨fun z=>by rw[<-z,bB (.inr h)],fun z=>by rw[z,bB (.inl hb)]⟩
theorem xV {band:Nat} {ws:List (List Nat)}: ∀{n:Nat}, ∀p∈bt band ws n,p.1<n:=fun {n} p hp=>by
 unfold bt at hp
 obtain ⟨c,hc,h⟩:=List.mem_flatMap.mp hp
 unfold dX at h
 obtain ⟨i,_,rfl⟩:=List.mem_map.mp h
 exact List.mem_range.mp hc
noncomputable def pz (p:Nat×Nat):Int×Int:=(p.1,p.2)
theorem xW (band c:Nat) (w:List Nat): ∀n,(dX band c w n).Pairwise fun x y=>bX (pz y) (pz x)=false:=fun n=>by
 unfold dX
 rw[List.pairwise_map]
 refine (List.Pairwise.filter _ List.pairwise_lt_range).imp fun {i j} h=>?_
 unfold bX pz
 simp
 omega
theorem mZ (band:Nat) (ws:List (List Nat)): ∀n,n<=ws.length->(bt band ws n).Pairwise fun x y=>bX (pz y) (pz x)=false
 | 0,_=>List.Pairwise.nil
 | n+1,h=>by
  rw[gK (List.getElem?_eq_getElem (by omega:n<ws.length)),List.pairwise_append]
  refine ⟨mZ band ws n (by omega),xW _ _ _ _,fun x hx y hy=>?_⟩
  have h1:=xV x hx
  unfold dX at hy
  obtain ⟨i,_,rfl⟩:=List.mem_map.mp hy
  unfold bX pz
  simp
  omega
theorem gq (band:Nat) {ws:List (List Nat)} (hw: ∀w∈ws,w.length<=12): ∀n,n<=ws.length->(bt band ws n).length<=12*n
 | 0,_=>Nat.le_refl _
 | n+1,h=>by
  have hn:n<ws.length:=by omega
  rw[gK (List.getElem?_eq_getElem hn),List.length_append]
  have h1:=gq band hw n (by omega)
  have h2:=A8 band n ws[n] ws[n].length
  have h3:=hw _ (List.getElem_mem hn)
  omega
theorem Df {K:PySem.W.Frag} {H:Hp}: ∀{ps:List Pr},(∀p∈ps,dF H p)->tT K H (bS ps) ((ps.map Pr.pair).map pz)
 | [],_=>trivial
 | p::ps,h=>⟨⟨p.t,rfl,aW.of (h p List.mem_cons_self).tp⟩,Df fun q hq=>h q (List.mem_cons_of_mem _ hq)⟩
noncomputable def pF (p:Nat×Nat):PyData:= .tuple [.int p.1, .int p.2]
theorem hJ {K:PySem.W.Frag} {H:Hp}: ∀{ps:List Pr},(∀p∈ps,dF H p)->gQ K H (bS ps) ((ps.map Pr.pair).map pF)
 | [],_=> .nil
 | p::ps,h=> .cons (.tup (aW.of (h p List.mem_cons_self).tp) (.cons (.int _) (.cons (.int _) .nil))) (hJ fun q hq=>h q (List.mem_cons_of_mem _ hq))
theorem jE {H:Hp} {ps:List Pr} (h: ∀p∈ps,dF H p) {k:Nat}:oR (k+1) (90*ps.length) ((ps.map Pr.pair).map pF):=by
 refine .all (a:=89) (fun x hx=>?_) (by rw[List.length_map,List.length_map];omega)
 obtain ⟨q,hq,rfl⟩:=List.mem_map.mp hx
 obtain ⟨p,hp,rfl⟩:=List.mem_map.mp hq
 have ok:=h p hp
 have b1:(p.c:Int).natAbs<10 ^ 12:=by have:=ok.cz;omega
 have b2:(p.i:Int).natAbs<10 ^ 12:=by have:=ok.iz;omega
 exact .tup (.cons (a:=40) (b:=41) (.int b1 (by decide)) (.cons (a:=40) (b:=0) (.int b2 (by decide)) .nil (by decide)) (by decide))
theorem pG: ∀ns:List (Nat×Nat),PyData.hasDictAll (ns.map pF)=false
 | []=>rfl
 | n::ns=>by show (PyData.hasDict (pF n)||PyData.hasDictAll (ns.map pF))=false;rw[pG ns];rfl
noncomputable def Qm (o:Od):PyData:= .tuple ((o.ps.map Pr.pair).map pF)
theorem vT {K:PySem.W.Frag} {H:Hp}: ∀{os:List Od},(∀o∈os,gp H o)->gQ K H (mX os) (os.map Qm)
 | [],_=> .nil
 | o::os,h=> .cons (.tup (aW.of (h o List.mem_cons_self).tp) (hJ (h o List.mem_cons_self).pr)) (vT fun q hq=>h q (List.mem_cons_of_mem _ hq))
def Tb (y:List Nat) (ws:List (List Nat)) (os:List Od):Prop:=os.map (fun o=>o.ps.map Pr.pair)=(aC y).map fun b=>bt b ws ws.length
theorem NB {H:Hp} {ws:List (List Nat)} {os:List Od} (hw: ∀w∈ws,(∀c∈w,c<128)/\w.length<=12) (hf:ws.length<=4) (ho: ∀o∈os,gp H o) (hz:os.length<=4):oQ 40 100000 (.tuple [.tuple (kl ws), .tuple (os.map Qm)]):=by
 have s1:oQ 39 60 (.tuple (kl ws)):= .tup (.all (a:=12) (fun x hx=>by
  obtain ⟨w,Dg,rfl⟩:=List.mem_map.mp hx
  exact .str (hw w Dg).1 (hw w Dg).2) (by unfold kl;rw[List.length_map];omega))
 have s2:oQ 39 40000 (.tuple (os.map Qm)):= .tup (.all (a:=9000) (fun x hx=>by
  obtain ⟨o,jN,rfl⟩:=List.mem_map.mp hx
  have k:=ho o jN
  have m:=jE (k:=36) k.pr
  exact .tup ⟨m.lv,m.sh,m.ly,m.dp,Nat.le_trans m.wt (by have:=k.fw;omega)⟩) (by rw[List.length_map];omega))
 exact .tup (.cons (a:=60) (b:=40001) s1 (.cons (a:=40000) (b:=0) s2 .nil (by decide)) (by decide))
def iO (_:PySem.W.Frag):Sp:=fun vs H Q _=> ∃(y w:List Nat),vs=[.str (S y), .str (S w)]/\(∀c∈w,c∈y)/\ ∀H',ai H H'->Q .ck H'
theorem mx {K:PySem.W.Frag} {vs:List V} {H:Hp} {Q:VK} {E:XK} (h:iO K vs H Q E):vs.length=2:=by obtain ⟨c,_,rfl,_⟩:=h;rfl
def jZ (_:PySem.W.Frag):Sp:=fun vs H Q _=> ∃(wt:Addr) (ws:List (List Nat)) (band:Nat),vs=[.ref wt, .str (S [band])]/\H wt=some (.tup (bw ws))/\ws.length<=4/\(∀w∈ws,(∀c∈w,Lt c)/\w.length<=12)/\band∈bg/\ ∀(q:Addr) (ps:List Pr) (H':Hp),H q=none->H' q=some (.lst (bS ps))->(∀p∈ps,dF H' p)->ps.map Pr.pair=bt band ws ws.length->ai H H'->Q (.ref q) H'
theorem pH {K:PySem.W.Frag} {vs:List V} {H:Hp} {Q:VK} {E:XK} (h:jZ K vs H Q E):vs.length=2:=by obtain ⟨c,_,_,rfl,_⟩:=h;rfl
def j0 (_:PySem.W.Frag):Sp:=fun vs H Q _=> ∃(y:List Nat) (wt:Addr) (ws:List (List Nat)),vs=[.str (S y), .ref wt]/\H wt=some (.tup (bw ws))/\(∀w∈ws, ∀c∈w,c∈y)/\ ∀H',ai H H'->Q .ck H'
theorem pI {K:PySem.W.Frag} {vs:List V} {H:Hp} {Q:VK} {E:XK} (h:j0 K vs H Q E):vs.length=2:=by obtain ⟨c,_,_,rfl,_⟩:=h;rfl
theorem lq {y:List Nat} (h:Yd y) {b:Nat} (hb:b∈aC y):b∈bg:=by
 obtain ⟨h1,h2⟩:=List.mem_filter.mp ((dU y).mem_iff.mp hb)
 rw[jC (h.lt b h1)]at h2
 exact of_decide_eq_true h2
structure Ask where
 t:Addr
 u:List Nat
 wt:Addr
 ws:List (List Nat)
 ot:Addr
 os:List Od
structure aaZ (H:Hp) (k:Ask):Prop where
 tp:H k.t=some (.tup [.str (S k.u), .ref k.wt, .ref k.ot])
 yd:Yd k.u
 yz:k.u.length<=8
 wo:iA k.u k.ws
 hw:H k.wt=some (.tup (bw k.ws))
 ho:H k.ot=some (.tup (mX k.os))
 od: ∀o∈k.os,gp H o
 ex:Tb k.u k.ws k.os
noncomputable def kS (l:List Nat):Key:=Sum.inr (S l)
theorem uj {a b:List Nat} (h:kS a=kS b):a=b:=by rw[<-dR a,Sum.inr.inj h,dR]
structure kq (H:Hp) (o:Od):Prop where
 tp:H o.o=some (.lst (bS o.ps))
 pr: ∀p∈o.ps,dF H p
 fw:o.ps.length<=100
noncomputable def eA (bs:List Nat) (os:List Od):List (Key×V):=(bs.zip os).map fun x=>(kS [x.1],V.ref x.2.o)
structure cf (H:Hp) (d:Addr) (bs:List Nat) (os:List Od):Prop where
 dk:H d=some (.dK (eA bs os))
 ln:os.length=bs.length
 nd:(os.map Od.o).Nodup
 ok: ∀o∈os,kq H o
theorem pJ {bs:List Nat} {os:List Od} (h:os.length=bs.length):(eA bs os).length=bs.length:=by unfold eA;rw[List.length_map,List.length_zip];omega
theorem r6: ∀{bs:List Nat} {os:List Od},os.length=bs.length->(eA bs os).map (fun kv=>kV kv.1)=cq bs
 | [],[],_=>rfl
 | b::bs,o::os,h=>by
  show kV (kS [b])::(eA bs os).map (fun kv=>kV kv.1)=V.str (S [b])::cq bs
  rw[r6 (by simpa using h)]
  rfl
theorem fz: ∀{bs:List Nat} {os:List Od} {j:Nat} {b:Nat} {o:Od},bs.Nodup->bs[j]? =some b->os[j]? =some o->cV (eA bs os) (kS [b])=some (.ref o.o)
 | b'::bs,o'::os,0,b,o,_,hb,ho=>by
  cases hb;cases ho
  exact cC rfl
 | b'::bs,o'::os,j+1,b,o,nd,hb,ho=>by
  obtain ⟨n1,n2⟩:=List.nodup_cons.mp nd
  have lU:kS [b']≠kS [b]:=fun z=>n1 (by
   have:=List.mem_of_getElem? (show bs[j]? =some b by simpa using hb)
   rw[(List.cons.inj (uj z)).1];exact this)
  show cV ((kS [b'],V.ref o'.o)::eA bs os) (kS [b])=_
  rw[b_ lU]
  exact fz n2 (by simpa using hb) (by simpa using ho)
theorem r9: ∀{bs:List Nat} {os:List Od} {b:Nat},b∉bs->cV (eA bs os) (kS [b])=none
 | [],_,_,_=>rfl
 | _::_,[],_,_=>rfl
 | b'::bs,o'::os,b,h=>by
  show cV ((kS [b'],V.ref o'.o)::eA bs os) (kS [b])=none
  rw[b_ fun z=>h (by rw[<-(List.cons.inj (uj z)).1];exact List.mem_cons_self)]
  exact r9 fun z=>h (List.mem_cons_of_mem _ z)
theorem Dh: ∀{bs:List Nat} {os:List Od} {j:Nat} {b:Nat} {o':Od},bs.Nodup->os.length=bs.length->bs[j]? =some b->putK (eA bs os) (kS [b]) (.ref o'.o)=eA bs (os.set j o'):=by
 intro bs os j b o' nd hl hb
 have hj:j<os.length:=by rw[hl];exact (List.getElem?_eq_some_iff.mp hb).1
 have hs:(cV (eA bs os) (kS [b])).isSome=true:=by rw[fz nd hb (List.getElem?_eq_getElem hj)];rfl
 unfold putK
 rw[g6,if_pos hs]
 clear hs
 induction bs generalizing os j with
 | nil=>simp at hb
 | cons b0 bs ih=>
  cases os with
  | nil=>simp at hj
  | cons o0 os=>
   obtain ⟨n1,n2⟩:=List.nodup_cons.mp nd
   cases j with
   | zero=>
    have Sl:b0=b:=by simpa using hb
    subst Sl
    show (if kS [b0]=kS [b0] then (kS [b0],V.ref o'.o) else _)::(eA bs os).map _=(kS [b0],V.ref o'.o)::eA bs os
    rw[if_pos rfl]
    congr 1
    have: ∀kv∈eA bs os,(if kv.1=kS [b0] then (kv.1,V.ref o'.o) else kv)=kv:=fun kv Qn=>by
     unfold eA at Qn
     obtain ⟨x,hx,rfl⟩:=List.mem_map.mp Qn
     rw[if_neg]
     intro z
     have:=(List.of_mem_zip (show (x.1,x.2)∈bs.zip os from hx)).1
     rw[(List.cons.inj (uj z)).1]at this
     exact n1 this
    rw[List.map_congr_left this,List.map_id']
   | succ j=>
    have G3:bs[j]? =some b:=by simpa using hb
    have lU:kS [b0]≠kS [b]:=fun z=>n1 (by rw[(List.cons.inj (uj z)).1];exact List.mem_of_getElem? G3)
    show (if kS [b0]=kS [b] then _ else (kS [b0],V.ref o0.o))::(eA bs os).map _=(kS [b0],V.ref o0.o)::eA bs (os.set j o')
    rw[if_neg lU]
    congr 1
    exact ih n2 (by simpa using hl) G3 (by simpa using hj)
noncomputable def jR (c:Nat) (f:Nat->Option Nat) (p:Nat×Nat):Option (Nat×Nat):=if p.1=c then (f p.2).map fun j=>(c,j) else some p
noncomputable def dG (c:Nat) (f:Nat->Option Nat) (ps:List (Nat×Nat)):List (Nat×Nat):=ps.filterMap (jR c f)
noncomputable def bj (o:Od):List (Nat×Nat):=o.ps.map Pr.pair
def m4 (_:PySem.W.Frag):Sp:=fun vs H Q _=> ∃(d:Addr) (c:Nat) (pp:Addr) (bs:List Nat) (os:List Od) (xs:List V) (f:Nat->Option Nat),vs=[.ref d, .int c, .ref pp]/\cf H d bs os/\bs.Nodup/\bs.length<=100/\c<1000/\H pp=some (.lst xs)/\
 (∀o∈os, ∀p∈o.ps,p.c=c->xs[p.i]? =some (match f p.i with | none=>V.ck | some j=>V.int (j:Nat)))/\(∀o∈os, ∀p∈o.ps,p.c=c-> ∀j,f p.i=some j->j<1000)/\
 ∀(os':List Od) (H':Hp),cf H' d bs os'->os'.map bj=os.map (fun o=>dG c f (bj o))->(∀o∈os',H o.o=none)->aF d H H'->Q .ck H'
theorem uk {K:PySem.W.Frag} {vs:List V} {H:Hp} {Q:VK} {E:XK} (h:m4 K vs H Q E):vs.length=3:=by obtain ⟨_,_,_,_,_,_,_,rfl,_⟩:=h;rfl
theorem kq.NC {H H':Hp} {d:Addr} {o:Od} (h:kq H o) (s:aF d H H') (hd:o.o≠d) (t:aJ H H'):kq H' o:=⟨s _ _ h.tp hd,fun p hp=>(h.pr p hp).ts t,h.fw⟩
theorem kq.same {H H':Hp} {o:Od} (h:kq H o) (s:ai H H'):kq H' o:=⟨s _ _ h.tp,fun p hp=>(h.pr p hp).same s,h.fw⟩
theorem cf.same {H H':Hp} {d:Addr} {bs:List Nat} {os:List Od} (h:cf H d bs os) (s:ai H H'):cf H' d bs os:=⟨s _ _ h.dk,h.ln,h.nd,fun o ho=>(h.ok o ho).same s⟩
theorem cf.ne {H:Hp} {d:Addr} {bs:List Nat} {os:List Od} (h:cf H d bs os) {o:Od} (ho:o∈os):o.o≠d:=fun z=>by
 have:=(h.ok o ho).tp
 rw[z,h.dk]at this
 cases this
theorem A9 {l:List Addr} (h:l.Nodup): ∀{j:Nat} {a:Addr},a∉l->(l.set j a).Nodup:=by
 induction l with
 | nil=>intro j a _;exact h
 | cons x l ih=>
  obtain ⟨n1,n2⟩:=List.nodup_cons.mp h
  intro j a ha
  cases j with
  | zero=>exact List.nodup_cons.mpr ⟨fun z=>ha (List.mem_cons_of_mem _ z),n2⟩
  | succ j=>
   refine List.nodup_cons.mpr ⟨fun z=>?_,ih n2 fun z=>ha (List.mem_cons_of_mem _ z)⟩
   rcases List.mem_or_eq_of_mem_set z with g | g
   ·exact n1 g
   ·exact ha (by rw[<-g];exact List.mem_cons_self)
theorem cf.put {H:Hp} {d:Addr} {bs:List Nat} {os:List Od} {j:Nat} {b:Nat} {o':Od} (h:cf H d bs os) (nd:bs.Nodup) (hb:bs[j]? =some b) (ho:kq H o') (hd:o'.o≠d) (hn: ∀o∈os,o.o≠o'.o):
  cf (upd H d (.dK (putK (eA bs os) (kS [b]) (.ref o'.o)))) d bs (os.set j o'):=by
 have hdk:=h.dk
 have up: ∀{x:Od},kq H x->x.o≠d->kq (upd H d (.dK (putK (eA bs os) (kS [b]) (.ref o'.o)))) x:=fun {x} hx lU=>
  ⟨by rw[aq lU];exact hx.tp,fun p hp=>⟨by rw[aq (fun z=>by have:=(hx.pr p hp).tp;rw[z,hdk]at this;cases this)];exact (hx.pr p hp).tp,(hx.pr p hp).cz,(hx.pr p hp).iz⟩,hx.fw⟩
 refine ⟨by rw[ae,Dh nd h.ln hb],by rw[List.length_set];exact h.ln,?_,fun x hx=>?_⟩
 ·rw[List.map_set]
  exact A9 h.nd fun z=>by
   obtain ⟨o,Ej,I_⟩:=List.mem_map.mp z
   exact hn o Ej I_
 ·rcases List.mem_or_eq_of_mem_set hx with g | g
  ·exact up (h.ok x g) (h.ne g)
  ·rw[g];exact up ho hd
theorem set_drop {α:Type} (l:List α) (i:Nat) (a:α):(l.set i a).drop (i+1)=l.drop (i+1):=by
 induction l generalizing i with
 | nil=>rfl
 | cons x l ih=>cases i with
  | zero=>rfl
  | succ i=>exact ih i
theorem vU {α:Type} (l:List α) (i:Nat) (a:α) (h:i<l.length):(l.set i a).take (i+1)=l.take i++[a]:=by
 induction l generalizing i with
 | nil=>simp at h
 | cons x l ih=>cases i with
  | zero=>rfl
  | succ i=>show x::(l.set i a).take (i+1)=x::(l.take i++[a]);rw[ih i (by simpa using h)]
theorem A_ (c:Nat) (f:Nat->Option Nat) (l:List (Nat×Nat)) (p:Nat×Nat):dG c f (l++[p])=dG c f l++(jR c f p).toList:=by
 unfold dG
 rw[List.filterMap_append]
 cases h:jR c f p<;>simp[List.filterMap_cons,h]
def Di (a b:Addr) (H H':Hp):Prop:= ∀x u,H x=some u->x≠a->x≠b->H' x=some u
noncomputable def swapAt (n:Nat) (l:List Pr):List Pr:=match l[n]?, l[n+1]? with | some p,some q=>(l.set n q).set (n+1) p | _,_=>l
noncomputable def outF (k i:Nat):Option Nat:=if i<k then some i else if i<k+2 then none else some (i - 2)
noncomputable def nA (k i:Nat):Option Nat:=if i<k then some i else some (i+2)
noncomputable def iP (n i:Nat):Option Nat:=if i=0 then some (n - 1) else some (i - 1)
noncomputable def fV (o:Option Nat):V:=match o with | none=>V.ck | some j=>V.int (j:Nat)
structure lr (H:Hp) (d wl:Addr) (bs:List Nat) (os:List Od) (ws:List (List Nat)):Prop where
 od:cf H d bs os
 wd:H wl=some (.lst (bw ws))
 nd:bs.Nodup
 bl:bs.length<=100
 ne: ∀o∈os,o.o≠wl
 pz: ∀o∈os, ∀p∈o.ps, ∃w,ws[p.c]? =some w/\p.i<w.length
 wz:ws.length<=4
 wo: ∀w∈ws,(∀c∈w,Lt c)/\w.length<=12
def pK (_:PySem.W.Frag):Sp:=fun vs H Q _=> ∃(d:Addr) (bs:List Nat) (os:List Od) (b j n:Nat) (o:Od),vs=[.ref d, .str (S [b]), .int n]/\cf H d bs os/\bs.Nodup/\bs.length<=100/\bs[j]? =some b/\os[j]? =some o/\n+1<o.ps.length/\
 ∀H',cf H' d bs (os.set j ⟨o.o,swapAt n o.ps⟩)->aF o.o H H'->Q (.bl true) H'
theorem vV {K:PySem.W.Frag} {vs:List V} {H:Hp} {Q:VK} {E:XK} (h:pK K vs H Q E):vs.length=3:=by obtain ⟨_,_,_,_,_,_,_,rfl,_⟩:=h;rfl
def Left (H:Hp) (Q:VK) (d wl:Addr) (bs:List Nat) (os:List Od) (ws:List (List Nat)) (c:Nat) (w':List Nat) (f:Nat->Option Nat):Prop:=
 ∀(os':List Od) (H':Hp),cf H' d bs os'->os'.map bj=os.map (fun o=>dG c f (bj o))->H' wl=some (.lst (bw (ws.set c w')))->(∀o∈os',H o.o=none)->Di d wl H H'->Q (.bl true) H'
def r_ (_:PySem.W.Frag):Sp:=fun vs H Q _=> ∃(d wl:Addr) (bs:List Nat) (os:List Od) (ws:List (List Nat)) (c k:Nat) (w:List Nat) (x:Nat),vs=[.ref wl, .ref d, .int c, .int k]/\lr H d wl bs os ws/\ws[c]? =some w/\w[k]? =some x/\w[k+1]? =some (bb x)/\
 Left H Q d wl bs os ws c (w.take k++w.drop (k+2)) (outF k)
theorem xX {K:PySem.W.Frag} {vs:List V} {H:Hp} {Q:VK} {E:XK} (h:r_ K vs H Q E):vs.length=4:=by obtain ⟨_,_,_,_,_,_,_,_,_,rfl,_⟩:=h;rfl
def pL (_:PySem.W.Frag):Sp:=fun vs H Q _=> ∃(d wl:Addr) (bs:List Nat) (os:List Od) (ws:List (List Nat)) (c:Nat) (w:List Nat),vs=[.ref wl, .ref d, .int c]/\lr H d wl bs os ws/\ws[c]? =some w/\
 Left H Q d wl bs os ws c (w.drop 1++w.take 1) (iP w.length)
theorem vW {K:PySem.W.Frag} {vs:List V} {H:Hp} {Q:VK} {E:XK} (h:pL K vs H Q E):vs.length=3:=by obtain ⟨_,_,_,_,_,_,_,rfl,_⟩:=h;rfl
theorem zk (ps:List Pr) (n:Nat) (p:Pr):(bS ps).set n (V.ref p.t)=bS (ps.set n p):=by unfold bS;rw[List.map_set]
theorem lr.pl {H:Hp} {d wl:Addr} {bs:List Nat} {os:List Od} {ws:List (List Nat)} (h:lr H d wl bs os ws) {c:Nat} {w:List Nat} (hw:ws[c]? =some w) {xs:List V} {f:Nat->Option Nat} (hx: ∀i,i<w.length->xs[i]? =some (fV (f i))):
  ∀o∈os, ∀p∈o.ps,p.c=c->xs[p.i]? =some (match f p.i with | none=>V.ck | some j=>V.int (j:Nat)):=fun o ho p hp e=>by
 obtain ⟨w',h1,h2⟩:=h.pz o ho p hp
 rw[e,hw]at h1
 cases h1
 exact hx _ h2
theorem lx {n k:Nat} (h:k<n):Ca n (k:Int)=some k:=by
 unfold Ca
 rw[if_pos (by omega)]
 simp[h]
theorem vX (bs:List Nat) (os:List Od):eA bs os=(bs.zip (os.map Od.o)).map fun x=>(kS [x.1],V.ref x.2):=by
 unfold eA
 rw[List.zip_map_right,List.map_map]
 rfl
theorem set_same {α:Type}: ∀{l:List α} {j:Nat} {a:α},l[j]? =some a->l.set j a=l
 | [],_,_,_=>rfl
 | x::l,0,a,h=>by cases h;rfl
 | x::l,j+1,a,h=>by show x::l.set j a=x::l;rw[set_same (by simpa using h)]
theorem cf.mut {H:Hp} {d:Addr} {bs:List Nat} {os:List Od} {j:Nat} {o:Od} {xY:List Pr} (h:cf H d bs os) (ho:os[j]? =some o) (hp: ∀p∈xY,dF H p) (hl:xY.length<=100):
  cf (upd H o.o (.lst (bS xY))) d bs (os.set j ⟨o.o,xY⟩):=by
 have kr:=List.mem_of_getElem? ho
 have xZ:=h.ok o kr
 have em:(os.set j ⟨o.o,xY⟩).map Od.o=os.map Od.o:=by
  rw[List.map_set]
  exact set_same (by rw[List.getElem?_map,ho];rfl)
 have tU:aJ H (upd H o.o (.lst (bS xY))):=aJ.fL xZ.tp
 refine ⟨?_,by rw[List.length_set];exact h.ln,by rw[em];exact h.nd,fun x hx=>?_⟩
 ·rw[aq (Ne.symm (h.ne kr)),h.dk,vX,vX,em]
 ·obtain ⟨i,hi,e⟩:=List.mem_iff_getElem.mp hx
  by_cases z:j=i
  ·subst z
   rw[List.getElem_set_self]at e
   rw[<-e]
   exact ⟨ae,fun p uP=>(hp p uP).ts tU,hl⟩
  ·rw[List.getElem_set_ne z]at e
   rw[List.length_set]at hi
   have JB:x∈os:=by rw[<-e];exact List.getElem_mem hi
   have lU:x.o≠o.o:=fun y=>z (by
    have hj:=(List.getElem?_eq_some_iff.mp ho)
    have h1:(os.map Od.o)[i]'(by rw[List.length_map];exact hi)=(os.map Od.o)[j]'(by rw[List.length_map];exact hj.1):=by
     rw[List.getElem_map,List.getElem_map,e,hj.2];exact y
    have En:=List.pairwise_iff_getElem.mp h.nd
    rcases Nat.lt_trichotomy i j with g | g | g
    ·exact absurd h1 (En i j _ _ g)
    ·exact g.symm
    ·exact absurd h1.symm (En j i _ _ g))
   have Tc:=h.ok x JB
   exact ⟨by rw[aq lU];exact Tc.tp,fun p uP=>(Tc.pr p uP).ts tU,Tc.fw⟩
theorem swap_perm (n:Nat) (l:List Pr):(swapAt n l).Perm l:=by
 unfold swapAt
 cases h0:l[n]? with
 | none=>exact List.Perm.refl _
 | some p=>cases h1:l[n+1]? with
  | none=>exact List.Perm.refl _
  | some q=>
   show ((l.set n q).set (n+1) p).Perm l
   induction l generalizing n with
   | nil=>simp at h0
   | cons x l ih=>
    cases n with
    | zero=>
     cases l with
     | nil=>simp at h1
     | cons y l=>
      cases h0
      have e:y=q:=by simpa using h1
      subst e
      exact List.Perm.swap _ _ l
    | succ n=>exact (ih n (by simpa using h0) (by simpa using h1)).cons x
theorem cf.Kb {H:Hp} {d wl:Addr} {bs:List Nat} {os:List Od} {ys zs:List V} (h:cf H d bs os) (lU: ∀o∈os,o.o≠wl) (hw:H wl=some (.lst ys)):cf (upd H wl (.lst zs)) d bs os:=by
 have tU:aJ H (upd H wl (.lst zs)):=aJ.fL hw
 exact ⟨by rw[aq (fun z=>by rw[<-z,h.dk]at hw;cases hw)];exact h.dk,h.ln,h.nd,fun o ho=>⟨by rw[aq (lU o ho)];exact (h.ok o ho).tp,fun p hp=>((h.ok o ho).pr p hp).ts tU,(h.ok o ho).fw⟩⟩
theorem um (ws:List (List Nat)) (c:Nat) (w:List Nat):(bw ws).set c (.str (S w))=bw (ws.set c w):=by unfold bw;rw[List.map_set]
theorem zm (w:List Nat):cut w (some 1) none=w.drop 1:=by have:=cE w 1;rwa [show ((1:Nat):Int)=1 from rfl]at this
theorem vY (w:List Nat):cut w none (some 1)=w.take 1:=by have:=kj w 1;rwa [show ((1:Nat):Int)=1 from rfl]at this
theorem lz {n i:Nat} {a:Int} (h:i<n):((List.range n).map fun (k:Nat)=>V.int (a+(k:Int)))[i]? =some (V.int (a+(i:Int))):=by
 rw[List.getElem?_map,List.getElem?_range h]
 rfl
theorem FJ {n i:Nat} (h:i<n):([V.int ((n:Int) - 1)]++(List.range ((n:Int) - 1).toNat).map fun (k:Nat)=>V.int (0+(k:Int)))[i]? =some (fV (iP n i)):=by
 unfold iP fV
 by_cases z:i=0
 ·subst z
  rw[if_pos rfl]
  show some (V.int ((n:Int) - 1))=some (V.int ((n - 1:Nat):Int))
  congr 2
  omega
 ·rw[if_neg z,List.getElem?_append_right (by simp;omega),List.length_singleton,lz (by omega)]
  congr 2
  omega
theorem vZ {H H3:Hp} {Q:VK} {d wl:Addr} {bs:List Nat} {os:List Od} {ws:List (List Nat)} {c:Nat} {w':List Nat} {f:Nat->Option Nat} (hH:lr H d wl bs os ws) (q:Left H Q d wl bs os ws c w' f) (s:ai (upd H wl (.lst (bw (ws.set c w')))) H3):
  ∀(os':List Od) (H':Hp),cf H' d bs os'->os'.map bj=os.map (fun o=>dG c f (bj o))->(∀o∈os',H3 o.o=none)->aF d H3 H'->Q (.bl true) H':=fun os' H' h1 h2 h3 h4=>by
 have Td:wl≠d:=fun z=>by have:=hH.wd;rw[z,hH.od.dk]at this;cases this
 refine q os' H' h1 h2 (h4 _ _ (s _ _ ae) Td) (fun o ho=>?_) fun a u ea za zb=>?_
 ·cases e:H o.o with
  | none=>rfl
  | some u=>
   exfalso
   have hn:=h3 o ho
   by_cases z:o.o=wl
   ·rw[z,s _ _ ae]at hn;cases hn
   ·rw[s _ _ (show upd H wl (.lst (bw (ws.set c w'))) o.o=some u by rw[aq z];exact e)]at hn;cases hn
 ·exact h4 _ _ (s _ _ (by rw[aq zb];exact ea)) za
theorem lr.pb {H:Hp} {d wl:Addr} {bs:List Nat} {os:List Od} {ws:List (List Nat)} (h:lr H d wl bs os ws) {c:Nat} {w:List Nat} (hw:ws[c]? =some w) {f:Nat->Option Nat} (hf: ∀i j,i<w.length->f i=some j->j<1000):
  ∀o∈os, ∀p∈o.ps,p.c=c-> ∀j,f p.i=some j->j<1000:=fun o ho p hp e j hj=>by
 obtain ⟨w',h1,h2⟩:=h.pz o ho p hp
 rw[e,hw]at h1
 cases h1
 exact hf _ _ h2 hj
theorem lA (w:List Nat) (k:Nat):cut w none (some (k:Int))=w.take k:=kj w k
theorem Kc {n k i:Nat} (hk:k+1<n) (h:i<n):(((List.range ((k:Int)).toNat).map fun (j:Nat)=>V.int (0+(j:Int)))++[V.ck,V.ck]++(List.range ((n:Int) - 2 - (k:Int)).toNat).map fun (j:Nat)=>V.int ((k:Int)+(j:Int)))[i]? =some (fV (outF k i)):=by
 have e1:((k:Int)).toNat=k:=by omega
 have e2:((n:Int) - 2 - (k:Int)).toNat=n - 2 - k:=by omega
 rw[e1,e2]
 unfold outF fV
 by_cases z:i<k
 ·rw[if_pos z,List.getElem?_append_left (by simp;omega),List.getElem?_append_left (by simpa using z),lz z]
  congr 2
  omega
 ·rw[if_neg z]
  by_cases y:i<k+2
  ·rw[if_pos y,List.getElem?_append_left (by simp;omega),List.getElem?_append_right (by simp;omega),List.length_map,List.length_range]
   rcases (by omega:i - k=0\/i - k=1) with g | g<;>rw[g]<;>rfl
  ·have el:(((List.range k).map fun (j:Nat)=>V.int (0+(j:Int)))++[V.ck,V.ck]).length=k+2:=by simp
   rw[if_neg y,List.getElem?_append_right (by omega),el,lz (by omega)]
   congr 2
   omega
theorem ND {n k i:Nat} (hk:k<=n) (h:i<n):(((List.range ((k:Int)).toNat).map fun (j:Nat)=>V.int (0+(j:Int)))++(List.range ((n:Int)+2 - ((k:Int)+2)).toNat).map fun (j:Nat)=>V.int ((k:Int)+2+(j:Int)))[i]? =some (fV (nA k i)):=by
 have e1:((k:Int)).toNat=k:=by omega
 have e2:((n:Int)+2 - ((k:Int)+2)).toNat=n - k:=by omega
 rw[e1,e2]
 unfold nA fV
 by_cases z:i<k
 ·rw[if_pos z,List.getElem?_append_left (by simpa using z),lz z]
  congr 2
  omega
 ·rw[if_neg z,List.getElem?_append_right (by simp;omega),List.length_map,List.length_range,lz (by omega)]
  congr 2
  omega
theorem x3 {H H3 H':Hp} {d wl:Addr} {bs:List Nat} {os os':List Od} {ws:List (List Nat)} {c:Nat} {w':List Nat} (hH:lr H d wl bs os ws) (s:ai (upd H wl (.lst (bw (ws.set c w')))) H3) (h3: ∀o∈os',H3 o.o=none) (h4:aF d H3 H'):
  H' wl=some (.lst (bw (ws.set c w')))/\(∀o∈os',H o.o=none)/\Di d wl H H':=by
 have Td:wl≠d:=fun z=>by have:=hH.wd;rw[z,hH.od.dk]at this;cases this
 refine ⟨h4 _ _ (s _ _ ae) Td,fun o ho=>?_,fun a u ea za zb=>h4 _ _ (s _ _ (by rw[aq zb];exact ea)) za⟩
 cases e:H o.o with
 | none=>rfl
 | some u=>
  exfalso
  have hn:=h3 o ho
  by_cases z:o.o=wl
  ·rw[z,s _ _ ae]at hn;cases hn
  ·rw[s _ _ (show upd H wl (.lst (bw (ws.set c w'))) o.o=some u by rw[aq z];exact e)]at hn;cases hn
noncomputable def put2 (n:Nat) (p q:Nat×Nat) (l:List (Nat×Nat)):List (Nat×Nat):=l.take n++p::q::l.drop n
def v3 (_:PySem.W.Frag):Sp:=fun vs H Q _=> ∃(d wl:Addr) (bs:List Nat) (os:List Od) (ws:List (List Nat)) (c k n j:Nat) (w:List Nat) (x:Nat) (o:Od),vs=[.ref wl, .ref d, .int c, .int k, .str (S [x]), .int n]/\lr H d wl bs os ws/\ws[c]? =some w/\k<=w.length/\Lt x/\bs[j]? =some (PyProof.Rows.lo1 x)/\os[j]? =some o/\n<=o.ps.length/\o.ps.length<=90/\
 ∀(os':List Od) (H':Hp),cf H' d bs os'->os'.map bj=(os.map (fun o=>dG c (nA k) (bj o))).set j (put2 n (c,k) (c,k+1) (dG c (nA k) (bj o)))->H' wl=some (.lst (bw (ws.set c (w.take k++[x]++[bb x]++w.drop k))))->(∀o∈os',H o.o=none)->Di d wl H H'->Q (.bl true) H'
theorem Ba {K:PySem.W.Frag} {vs:List V} {H:Hp} {Q:VK} {E:XK} (h:v3 K vs H Q E):vs.length=6:=by obtain ⟨_,_,_,_,_,_,_,_,_,_,_,_,rfl,_⟩:=h;rfl
theorem m5 (c k:Nat): ∀l:List (Nat×Nat),(dG c (nA k) l).length=l.length
 | []=>rfl
 | p::l=>by
  have ih:=m5 c k l
  unfold dG at ih ⊢
  have e: ∃q,jR c (nA k) p=some q:=by
   unfold jR nA
   by_cases z:p.1=c
   ·rw[if_pos z];split<;>exact ⟨_,rfl⟩
   ·rw[if_neg z];exact ⟨_,rfl⟩
  obtain ⟨q,hq⟩:=e
  rw[List.filterMap_cons,hq]
  simp[ih]
theorem zo (ps:List Pr) (n:Nat) (p:Pr):(bS ps).take n++V.ref p.t::(bS ps).drop n=bS (ps.take n++p::ps.drop n):=by unfold bS;rw[List.map_append,List.map_cons,List.map_take,List.map_drop]
inductive eE where
 | swap (b n:Nat) | out (c k:Nat) | turn (c:Nat) | ins (c k x n:Nat)
noncomputable def G4:List Nat:=[115,119,97,112]
noncomputable def NF:List Nat:=[111,117,116]
noncomputable def G5:List Nat:=[116,117,114,110]
noncomputable def wIn:List Nat:=[105,110]
def eV (H:Hp) (a:Addr):eE->Prop
 | .swap b n=>H a=some (.tup [.str (S G4), .str (S [b]), .int n])
 | .out c k=>H a=some (.tup [.str (S NF), .int c, .int k])
 | .turn c=>H a=some (.tup [.str (S G5), .int c])
 | .ins c k x n=>H a=some (.tup [.str (S wIn), .int c, .int k, .str (S [x]), .int n])
theorem eV.ts {H H':Hp} {a:Addr} {e:eE} (h:eV H a e) (s:aJ H H'):eV H' a e:=by cases e<;>exact s _ _ h
noncomputable def iQ (n:Nat) (l:List (Nat×Nat)):List (Nat×Nat):=match l[n]?, l[n+1]? with | some p,some q=>(l.set n q).set (n+1) p | _,_=>l
theorem Dj (n:Nat) (l:List Pr):(swapAt n l).map Pr.pair=iQ n (l.map Pr.pair):=by
 unfold swapAt iQ
 rw[List.getElem?_map,List.getElem?_map]
 cases l[n]?<;> cases l[n+1]?<;> simp[List.map_set]
abbrev fN:=List (List (Nat×Nat))
noncomputable def dW (ws:List (List Nat)):eE->List (List Nat)
 | .swap _ _=>ws
 | .out c k=>ws.set c ((ws.getD c []).take k++(ws.getD c []).drop (k+2))
 | .turn c=>ws.set c ((ws.getD c []).drop 1++(ws.getD c []).take 1)
 | .ins c k x _=>ws.set c ((ws.getD c []).take k++[x]++[bb x]++(ws.getD c []).drop k)
noncomputable def dO (bs:List Nat) (ws:List (List Nat)) (L:fN):eE->fN
 | .swap b n=>L.set (bs.idxOf b) (iQ n (L.getD (bs.idxOf b) []))
 | .out c k=>L.map (dG c (outF k))
 | .turn c=>L.map (dG c (iP (ws.getD c []).length))
 | .ins c k x n=>(L.map (dG c (nA k))).set (bs.idxOf (PyProof.Rows.lo1 x)) (put2 n (c,k) (c,k+1) (dG c (nA k) (L.getD (bs.idxOf (PyProof.Rows.lo1 x)) [])))
def Eo (y bs:List Nat) (ws:List (List Nat)) (L:fN):eE->Prop
 | .swap b n=>b∈bs/\n+1<(L.getD (bs.idxOf b) []).length
 | .out c k=>c<ws.length/\ ∃x,(ws.getD c [])[k]? =some x/\(ws.getD c [])[k+1]? =some (bb x)
 | .turn c=>c<ws.length
 | .ins c k x n=>c<ws.length/\k<=(ws.getD c []).length/\(ws.getD c []).length<=10/\x∈y/\n<=(L.getD (bs.idxOf (PyProof.Rows.lo1 x)) []).length
def pM (_:PySem.W.Frag):Sp:=fun vs H Q _=> ∃(y:List Nat) (d wl a:Addr) (os:List Od) (ws:List (List Nat)) (e:eE),vs=[.str (S y), .ref wl, .ref d, .ref a]/\Yd y/\y.length<=8/\lr H d wl (aC y) os ws/\(∀o∈os,o.ps.length<=90)/\eV H a e/\Eo y (aC y) ws (os.map bj) e/\
 ∀(os':List Od) (H':Hp),cf H' d (aC y) os'->os'.map bj=dO (aC y) ws (os.map bj) e->H' wl=some (.lst (bw (dW ws e)))->(∀o∈os',H o.o=none\/o.o∈os.map Od.o)->(∀x u,H x=some u->x≠d->x≠wl->x∉os.map Od.o->H' x=some u)->Q (.bl true) H'
theorem v5 {K:PySem.W.Frag} {vs:List V} {H:Hp} {Q:VK} {E:XK} (h:pM K vs H Q E):vs.length=4:=by obtain ⟨_,_,_,_,_,_,_,rfl,_⟩:=h;rfl
theorem bM {α:Type} {l:List α} {i:Nat} {a x:α} (h:l[i]? =some a):l.getD i x=a:=by rw[List.getD_eq_getElem?_getD,h];rfl
theorem lr.same {H H':Hp} {d wl:Addr} {bs:List Nat} {os:List Od} {ws:List (List Nat)} (h:lr H d wl bs os ws) (s:ai H H'):lr H' d wl bs os ws:=⟨h.od.same s,s _ _ h.wd,h.nd,h.bl,h.ne,h.pz,h.wz,h.wo⟩
theorem se {α:Type} {f:Nat->List α} (g:α->Nat): ∀{l:List Nat},l.Nodup->(∀e∈l,(f e).Nodup)->(∀e∈l, ∀p∈f e,g p=e)->(l.flatMap f).Nodup
 | [],_,_,_=>List.nodup_nil
 | a::l,hn,h1,h2=>by
  obtain ⟨n1,n2⟩:=List.nodup_cons.mp hn
  rw[List.flatMap_cons,List.nodup_append]
  refine ⟨h1 a List.mem_cons_self,se g n2 (fun e he=>h1 e (List.mem_cons_of_mem _ he)) (fun e he=>h2 e (List.mem_cons_of_mem _ he)),fun x hx y hy z=>?_⟩
  subst z
  obtain ⟨e,he,Te⟩:=List.mem_flatMap.mp hy
  have g1:=h2 a List.mem_cons_self x hx
  have g2:=h2 e (List.mem_cons_of_mem _ he) x Te
  exact n1 (by rw[<-g1,g2];exact he)
theorem iB (band:Nat) (ws:List (List Nat)) (n:Nat):(bt band ws n).Nodup:=
 se Prod.fst List.nodup_range (fun c _=>by
  unfold dX
  show (List.map _ _).Pairwise (· ≠ ·)
  rw[List.pairwise_map]
  exact (List.nodup_range.filter _).imp fun {i j} h z=>h (by cases z;rfl)) fun c _ p hp=>by
  unfold dX at hp
  obtain ⟨i,_,rfl⟩:=List.mem_map.mp hp
  rfl
theorem iC {band c i n:Nat} {ws:List (List Nat)}:(c,i)∈bt band ws n↔c<n/\i<(ws.getD c []).length/\uO band ((ws.getD c []).getD i 0)=true:=by
 constructor
 ·intro h
  obtain ⟨c',hc,h2⟩:=List.mem_flatMap.mp h
  unfold dX at h2
  obtain ⟨i',hi,e⟩:=List.mem_map.mp h2
  obtain ⟨hi1,wX⟩:=List.mem_filter.mp hi
  cases e
  exact ⟨List.mem_range.mp hc,List.mem_range.mp hi1,wX⟩
 ·rintro ⟨h1,h2,h3⟩
  exact List.mem_flatMap.mpr ⟨c,List.mem_range.mpr h1,List.mem_map.mpr ⟨i,List.mem_filter.mpr ⟨List.mem_range.mpr h2,h3⟩,rfl⟩⟩
theorem Dk {ws:List (List Nat)} {c d:Nat} {w':List Nat} (h:c<ws.length):(ws.set c w').getD d []=if d=c then w' else ws.getD d []:=by
 rw[List.getD_eq_getElem?_getD,List.getElem?_set]
 by_cases z:c=d
 ·subst z;rw[if_pos rfl,if_pos rfl,if_pos h];rfl
 ·rw[if_neg z,if_neg fun y=>z y.symm,List.getD_eq_getElem?_getD]
theorem pN {ws:List (List Nat)} {b c:Nat} {w' X:List Nat} {f:Nat->Option Nat} (hc:c<ws.length) (hX:X.Nodup)
  (inj: ∀i i' j,i<(ws.getD c []).length->i'<(ws.getD c []).length->f i=some j->f i'=some j->i=i')
  (hj: ∀j,(j<w'.length/\uO b (w'.getD j 0)=true)↔((∃i,i<(ws.getD c []).length/\uO b ((ws.getD c []).getD i 0)=true/\f i=some j)\/j∈X))
  (hx: ∀i j,i<(ws.getD c []).length->f i=some j->j∉X):
  (bt b (ws.set c w') (ws.set c w').length).Perm (X.map (fun j=>(c,j))++dG c f (bt b ws ws.length)):=by
 have ndR:(dG c f (bt b ws ws.length)).Nodup:=by
  unfold dG
  show List.Pairwise (· ≠ ·) _
  rw[List.pairwise_filterMap]
  refine List.Pairwise.imp_of_mem ?_ (iB b ws ws.length)
  rintro ⟨a1,a2⟩ ⟨b1,b2⟩ ma mb lU q hq q' x4 e
  subst e
  obtain ⟨ma1,ma2,_⟩:=iC.mp ma
  obtain ⟨mb1,mb2,_⟩:=iC.mp mb
  unfold jR at hq x4
  by_cases za:a1=c<;>by_cases zb:b1=c
  ·subst za
   subst zb
   rw[if_pos rfl]at hq x4
   cases e1:f a2 with
   | none=>rw[e1]at hq;cases hq
   | some j=>
    cases e2:f b2 with
    | none=>rw[e2]at x4;cases x4
    | some j'=>
     rw[e1]at hq
     rw[e2]at x4
     cases hq
     have:j'=j:=by injection x4 with z;exact congrArg Prod.snd z
     subst this
     exact lU (by rw[inj a2 b2 j' ma2 mb2 e1 e2])
  ·rw[if_pos za]at hq
   rw[if_neg zb]at x4
   cases x4
   cases e1:f a2 with
   | none=>rw[e1]at hq;cases hq
   | some j=>rw[e1]at hq;injection hq with z;exact zb (congrArg Prod.fst z).symm
  ·rw[if_neg za]at hq
   rw[if_pos zb]at x4
   cases hq
   cases e1:f b2 with
   | none=>rw[e1]at x4;cases x4
   | some j=>rw[e1]at x4;injection x4 with z;exact za (congrArg Prod.fst z).symm
  ·rw[if_neg za]at hq
   rw[if_neg zb]at x4
   cases hq
   cases x4
   exact lU rfl
 have NG: ∀d j,(d,j)∈dG c f (bt b ws ws.length)↔(if d=c then ∃i,i<(ws.getD c []).length/\uO b ((ws.getD c []).getD i 0)=true/\f i=some j else (d,j)∈bt b ws ws.length):=fun d j=>by
  unfold dG
  rw[List.mem_filterMap]
  by_cases z:d=c
  ·subst z
   rw[if_pos rfl]
   constructor
   ·rintro ⟨⟨d',i⟩,hm,he⟩
    unfold jR at he
    by_cases y:d'=d
    ·subst y
     rw[if_pos rfl]at he
     cases e1:f i with
     | none=>rw[e1]at he;cases he
     | some j'=>
      rw[e1]at he
      have:j'=j:=by injection he with z;exact congrArg Prod.snd z
      subst this
      obtain ⟨_,m2,m3⟩:=iC.mp hm
      exact ⟨i,m2,m3,e1⟩
    ·rw[if_neg y]at he
     exact absurd (congrArg Prod.fst (Option.some.inj he)) y
   ·rintro ⟨i,h1,h2,h3⟩
    exact ⟨(d,i),iC.mpr ⟨hc,h1,h2⟩,by unfold jR;rw[if_pos rfl,h3];rfl⟩
  ·rw[if_neg z]
   constructor
   ·rintro ⟨⟨d',i⟩,hm,he⟩
    unfold jR at he
    by_cases y:d'=c
    ·rw[if_pos y]at he
     cases e1:f i with
     | none=>rw[e1]at he;cases he
     | some j'=>rw[e1]at he;injection he with y';exact absurd (congrArg Prod.fst y').symm z
    ·rw[if_neg y]at he
     cases he
     exact hm
   ·intro hm
    exact ⟨(d,j),hm,if_neg z⟩
 refine (List.perm_ext_iff_of_nodup (iB _ _ _) (List.nodup_append.mpr ⟨?_,ndR,?_⟩)).mpr fun p=>?_
 ·show (List.map _ _).Pairwise (· ≠ ·)
  rw[List.pairwise_map]
  exact hX.imp fun {i j} h z=>h (by cases z;rfl)
 ·rintro p hp q hq rfl
  obtain ⟨j,hj1,rfl⟩:=List.mem_map.mp hp
  rw[NG,if_pos rfl]at hq
  obtain ⟨i,h1,_,h3⟩:=hq
  exact hx i j h1 h3 hj1
 ·obtain ⟨d,j⟩:=p
  rw[iC,List.length_set,Dk hc,List.mem_append,NG]
  by_cases z:d=c
  ·subst z
   rw[if_pos rfl,if_pos rfl]
   constructor
   ·rintro ⟨_,h1,h2⟩
    rcases (hj j).mp ⟨h1,h2⟩ with g | g
    ·exact .inr g
    ·exact .inl (List.mem_map.mpr ⟨j,g,rfl⟩)
   ·rintro (g | g)
    ·obtain ⟨j',g1,g2⟩:=List.mem_map.mp g
     have:j'=j:=congrArg Prod.snd g2
     subst this
     exact ⟨hc,(hj j').mpr (.inr g1)⟩
    ·exact ⟨hc,(hj j).mpr (.inl g)⟩
  ·rw[if_neg z,if_neg z,iC]
   constructor
   ·exact fun h=> .inr h
   ·rintro (g | g)
    ·obtain ⟨j',_,g2⟩:=List.mem_map.mp g
     exact absurd (congrArg Prod.fst g2).symm z
    ·exact g
def Qo (y:List Nat) (ws:List (List Nat)) (L:fN):Prop:=L.length=(aC y).length/\ ∀(j:Nat) (l:List (Nat×Nat)) (b:Nat),L[j]? =some l->(aC y)[j]? =some b->l.Perm (bt b ws ws.length)
structure Good (y:List Nat) (ws:List (List Nat)) (L:fN):Prop where
 wk:iA y ws
 lk:Qo y ws L
theorem Dl (w:List Nat) (k j:Nat) (hk:k+1<w.length):(w.take k++w.drop (k+2)).getD j 0=if j<k then w.getD j 0 else w.getD (j+2) 0:=by
 rw[List.getD_eq_getElem?_getD]
 by_cases z:j<k
 ·rw[if_pos z,List.getElem?_append_left (by rw[List.length_take];omega),List.getElem?_take,if_pos z,List.getD_eq_getElem?_getD]
 ·rw[if_neg z,List.getElem?_append_right (by rw[List.length_take];omega),List.length_take,List.getElem?_drop,List.getD_eq_getElem?_getD,show k+2+(j - min k w.length)=j+2 by omega]
theorem my (w:List Nat) (j:Nat) (hj:j<w.length):(w.drop 1++w.take 1).getD j 0=if j+1<w.length then w.getD (j+1) 0 else w.getD 0 0:=by
 rw[List.getD_eq_getElem?_getD]
 by_cases z:j+1<w.length
 ·rw[if_pos z,List.getElem?_append_left (by rw[List.length_drop];omega),List.getElem?_drop,List.getD_eq_getElem?_getD,show 1+j=j+1 by omega]
 ·rw[if_neg z,List.getElem?_append_right (by rw[List.length_drop];omega),List.length_drop,List.getElem?_take,if_pos (by omega),List.getD_eq_getElem?_getD,show j - (w.length - 1)=0 by omega]
theorem Dm (w:List Nat) (k x j:Nat) (hk:k<=w.length):(w.take k++[x]++[bb x]++w.drop k).getD j 0=if j<k then w.getD j 0 else if j=k then x else if j=k+1 then bb x else w.getD (j - 2) 0:=by
 have el:(w.take k).length=k:=by rw[List.length_take];omega
 rw[List.getD_eq_getElem?_getD]
 by_cases z:j<k
 ·rw[if_pos z,List.getElem?_append_left (by simp;omega),List.getElem?_append_left (by simp;omega),List.getElem?_append_left (by omega),List.getElem?_take,if_pos z,List.getD_eq_getElem?_getD]
 ·rw[if_neg z]
  by_cases z1:j=k
  ·rw[if_pos z1,List.getElem?_append_left (by simp;omega),List.getElem?_append_left (by simp;omega),List.getElem?_append_right (by omega),el,z1,Nat.sub_self];rfl
  ·rw[if_neg z1]
   by_cases z2:j=k+1
   ·have e2:(w.take k++[x]).length=k+1:=by rw[List.length_append,el];rfl
    rw[if_pos z2,List.getElem?_append_left (by simp;omega),List.getElem?_append_right (by omega),e2,z2,Nat.sub_self];rfl
   ·have e3:(w.take k++[x]++[bb x]).length=k+2:=by rw[List.length_append,List.length_append,el];rfl
    rw[if_neg z2,List.getElem?_append_right (by omega),e3,List.getElem?_drop,List.getD_eq_getElem?_getD,show k+(j - (k+2))=j - 2 by omega]
theorem zp {b x:Nat} (hb:Lt b) (hx:Lt x):uO b (bb x)=uO b x:=by
 unfold uO
 have e1:decide (bb x=b)=decide (x=bb b):=decide_eq_decide.mpr ⟨fun z=>by rw[<-z,bB hx],fun z=>by rw[z,bB hb]⟩
 have e2:decide (bb x=bb b)=decide (x=b):=decide_eq_decide.mpr ⟨fun z=>by rw[<-bB hx,z,bB hb],fun z=>by rw[z]⟩
 rw[e1,e2,Bool.or_comm]
theorem pO (n:Nat) (l:List (Nat×Nat)):(iQ n l).Perm l:=by
 unfold iQ
 cases h0:l[n]? with
 | none=>exact List.Perm.refl _
 | some p=>cases h1:l[n+1]? with
  | none=>exact List.Perm.refl _
  | some q=>
   show ((l.set n q).set (n+1) p).Perm l
   induction l generalizing n with
   | nil=>simp at h0
   | cons x l ih=>
    cases n with
    | zero=>
     cases l with
     | nil=>simp at h1
     | cons y l=>
      cases h0
      have e:y=q:=by simpa using h1
      subst e
      exact List.Perm.swap _ _ l
    | succ n=>exact (ih n (by simpa using h0) (by simpa using h1)).cons x
theorem Bb (n:Nat) (p q:Nat×Nat) (l:List (Nat×Nat)):(put2 n p q l).Perm (p::q::l):=by
 unfold put2
 have h1:=List.perm_middle (l₁:=l.take n) (a:=p) (l₂:=q::l.drop n)
 have h2:=List.perm_middle (l₁:=l.take n) (a:=q) (l₂:=l.drop n)
 rw[List.take_append_drop]at h2
 exact h1.trans (h2.cons p)
theorem zq {α:Type} {l:List α} {j:Nat} {a x:α} {i:Nat} (h:(l.set j a)[i]? =some x):(i=j/\x=a)\/(i≠j/\l[i]? =some x):=by
 rw[List.getElem?_set]at h
 by_cases z:j=i
 ·rw[if_pos z]at h
  split at h
  ·exact .inl ⟨z.symm,(Option.some.inj h).symm⟩
  ·cases h
 ·rw[if_neg z]at h
  exact .inr ⟨fun y=>z y.symm,h⟩
theorem pP {y:List Nat} {ws:List (List Nat)} {c:Nat} {w':List Nat} (h:iA y ws) (hw:(∀x∈w',x∈y)/\w'.length<=12):iA y (ws.set c w'):=⟨by rw[List.length_set];exact h.g7,fun w hm=>(List.mem_or_eq_of_mem_set hm).elim (h.all w) fun e=>by rw[e];exact hw⟩
theorem getD_mem {ws:List (List Nat)} {c:Nat} (h:c<ws.length):ws.getD c []∈ws:=by rw[List.getD_eq_getElem?_getD,List.getElem?_eq_getElem h];exact List.getElem_mem h
theorem lB {l:List Nat} (h:l.Nodup) {n p:Nat} (e:l[n]? =some p):l.idxOf p=n:=by
 obtain ⟨hn,e2⟩:=List.getElem?_eq_some_iff.mp e
 have hi:=List.idxOf_lt_length_of_mem (List.mem_of_getElem? e)
 have hp:=List.pairwise_iff_getElem.mp h
 have e3:l[l.idxOf p]=l[n]:=(List.getElem_idxOf hi).trans e2.symm
 rcases Nat.lt_trichotomy (l.idxOf p) n with z | z | z
 ·exact absurd e3 (hp _ _ hi hn z)
 ·exact z
 ·exact absurd e3.symm (hp _ _ hn hi z)
theorem Good.step {y:List Nat} {ws:List (List Nat)} {L:fN} {e:eE} (hy:Yd y) (g:Good y ws L) (bu:Eo y (aC y) ws L e):Good y (dW ws e) (dO (aC y) ws L e):=by
 obtain ⟨gw,gl,go⟩:=g
 have bl: ∀b∈aC y,b∈bg:=fun b hb=>by
  have:=List.mem_filter.mp ((dU y).mem_iff.mp hb)
  have h2:=this.2
  rw[jC (hy.lt b this.1)]at h2
  exact of_decide_eq_true h2
 cases e with
 | swap b n=>
  refine ⟨gw,by show (L.set _ _).length=_;rw[List.length_set];exact gl,fun j l b' hl G3=>?_⟩
  rcases zq (show (L.set _ (iQ n (L.getD ((aC y).idxOf b) [])))[j]? =some l from hl) with ⟨e1,e2⟩ | ⟨_,e2⟩
  ·subst e1
   have hj:(aC y).idxOf b<L.length:=by rw[gl];exact (List.getElem?_eq_some_iff.mp G3).1
   have hg:L[(aC y).idxOf b]? =some L[(aC y).idxOf b]:=List.getElem?_eq_getElem hj
   rw[e2,bM hg]
   exact (pO n _).trans (go _ _ _ hg G3)
  ·exact go j l b' e2 G3
 | out c k=>
  obtain ⟨hc,x,h0,h1⟩:=bu
  have hk:k+1<(ws.getD c []).length:=(List.getElem?_eq_some_iff.mp h1).1
  obtain ⟨wy,wz⟩:=gw.all _ (getD_mem hc)
  refine ⟨pP gw ⟨fun z hz=>?_,by rw[List.length_append,List.length_take,List.length_drop];omega⟩,by show (L.map _).length=_;rw[List.length_map];exact gl,fun j l b hl hb=>?_⟩
  ·rcases List.mem_append.mp hz with q | q
   ·exact wy z (List.mem_of_mem_take q)
   ·exact wy z (List.mem_of_mem_drop q)
  ·obtain ⟨l0,sf,rfl⟩:=Option.map_eq_some_iff.mp (by rw[<-List.getElem?_map];exact hl)
   have hp:=go j l0 b sf hb
   refine (hp.filterMap (jR c (outF k))).trans ((pN (X:=[]) hc List.nodup_nil ?_ ?_ ?_).symm)
   ·intro i i' j' _ _ e1 e2
    unfold outF at e1 e2
    split at e1
    ·have a1:=Option.some.inj e1
     split at e2
     ·have a2:=Option.some.inj e2;omega
     ·split at e2
      ·cases e2
      ·have a2:=Option.some.inj e2;omega
    ·split at e1
     ·cases e1
     ·have a1:=Option.some.inj e1
      split at e2
      ·have a2:=Option.some.inj e2;omega
      ·split at e2
       ·cases e2
       ·have a2:=Option.some.inj e2;omega
   ·intro j'
    rw[Dl _ _ _ hk]
    have hlen:((ws.getD c []).take k++(ws.getD c []).drop (k+2)).length=(ws.getD c []).length - 2:=by rw[List.length_append,List.length_take,List.length_drop];omega
    rw[hlen]
    constructor
    ·rintro ⟨q1,q2⟩
     refine .inl ?_
     by_cases z:j'<k
     ·rw[if_pos z]at q2;exact ⟨j',by omega,q2,by unfold outF;rw[if_pos z]⟩
     ·rw[if_neg z]at q2;exact ⟨j'+2,by omega,q2,by unfold outF;rw[if_neg (by omega),if_neg (by omega)];rfl⟩
    ·rintro (⟨i,q1,q2,q3⟩ | q)
     ·unfold outF at q3
      split at q3
      ·rename_i z;cases q3;rw[if_pos z];exact ⟨by omega,q2⟩
      ·split at q3
       ·cases q3
       ·cases q3
        rw[if_neg (by omega),show i - 2+2=i by omega]
        exact ⟨by omega,q2⟩
     ·cases q
   ·intro i j' _ _ q;cases q
 | turn c=>
  have hc:c<ws.length:=bu
  obtain ⟨wy,wz⟩:=gw.all _ (getD_mem hc)
  refine ⟨pP gw ⟨fun z hz=>?_,by rw[List.length_append,List.length_take,List.length_drop];omega⟩,by show (L.map _).length=_;rw[List.length_map];exact gl,fun j l b hl hb=>?_⟩
  ·rcases List.mem_append.mp hz with q | q
   ·exact wy z (List.mem_of_mem_drop q)
   ·exact wy z (List.mem_of_mem_take q)
  ·obtain ⟨l0,sf,rfl⟩:=Option.map_eq_some_iff.mp (by rw[<-List.getElem?_map];exact hl)
   have hp:=go j l0 b sf hb
   refine (hp.filterMap (jR c (iP (ws.getD c []).length))).trans ((pN (X:=[]) hc List.nodup_nil ?_ ?_ ?_).symm)
   ·intro i i' j' h1 h2 e1 e2
    unfold iP at e1 e2
    split at e1<;>split at e2<;>(have a1:=Option.some.inj e1;have a2:=Option.some.inj e2;omega)
   ·intro j'
    have hlen:((ws.getD c []).drop 1++(ws.getD c []).take 1).length=(ws.getD c []).length:=by rw[List.length_append,List.length_take,List.length_drop];omega
    rw[hlen]
    constructor
    ·rintro ⟨q1,q2⟩
     rw[my _ _ q1]at q2
     refine .inl ?_
     by_cases z:j'+1<(ws.getD c []).length
     ·rw[if_pos z]at q2;exact ⟨j'+1,z,q2,by unfold iP;rw[if_neg (by omega)];rfl⟩
     ·rw[if_neg z]at q2;exact ⟨0,by omega,q2,by unfold iP;rw[if_pos rfl];congr 1;omega⟩
    ·rintro (⟨i,q1,q2,q3⟩ | q)
     ·unfold iP at q3
      split at q3
      ·rename_i z
       cases q3
       refine ⟨by omega,?_⟩
       rw[my _ _ (by omega),if_neg (by omega)]
       rw[z]at q2
       exact q2
      ·cases q3
       refine ⟨by omega,?_⟩
       rw[my _ _ (by omega),if_pos (by omega),show i - 1+1=i by omega]
       exact q2
     ·cases q
   ·intro i j' _ _ q;cases q
 | ins c k x n=>
  obtain ⟨hc,hk,NH,Bc,hn⟩:=bu
  obtain ⟨wy,wz⟩:=gw.all _ (getD_mem hc)
  have Kd:=hy.lt x Bc
  refine ⟨pP gw ⟨fun z hz=>?_,by rw[List.length_append,List.length_append,List.length_append,List.length_take,List.length_drop,List.length_singleton,List.length_singleton];omega⟩,by show ((L.map _).set _ _).length=_;rw[List.length_set,List.length_map];exact gl,fun j l b hl hb=>?_⟩
  ·rcases List.mem_append.mp hz with q | q
   ·rcases List.mem_append.mp q with q | q
    ·rcases List.mem_append.mp q with q | q
     ·exact wy z (List.mem_of_mem_take q)
     ·rw[List.mem_singleton.mp q];exact Bc
    ·rw[List.mem_singleton.mp q];exact hy.cl x Bc
   ·exact wy z (List.mem_of_mem_drop q)
  ·have Tf:=List.mem_of_getElem? hb
   have Ke:=bl b Tf
   have BP:j<L.length:=by rw[gl];exact (List.getElem?_eq_some_iff.mp hb).1
   have Tg:L[j]? =some L[j]:=List.getElem?_eq_getElem BP
   have hp:=go j _ b Tg hb
   have base:(bt b (ws.set c ((ws.getD c []).take k++[x]++[bb x]++(ws.getD c []).drop k)) (ws.set c ((ws.getD c []).take k++[x]++[bb x]++(ws.getD c []).drop k)).length).Perm ((if uO b x=true then [k,k+1] else []).map (fun j=>(c,j))++dG c (nA k) (bt b ws ws.length)):=by
    refine pN hc ?_ ?_ ?_ ?_
    ·split
     ·simp
     ·exact List.nodup_nil
    ·intro i i' j' _ _ e1 e2
     unfold nA at e1 e2
     split at e1<;>split at e2<;>(have a1:=Option.some.inj e1;have a2:=Option.some.inj e2;omega)
    ·intro j'
     have hlen:((ws.getD c []).take k++[x]++[bb x]++(ws.getD c []).drop k).length=(ws.getD c []).length+2:=by rw[List.length_append,List.length_append,List.length_append,List.length_take,List.length_drop,List.length_singleton,List.length_singleton];omega
     rw[hlen,Dm _ _ _ _ hk]
     constructor
     ·rintro ⟨q1,q2⟩
      by_cases z:j'<k
      ·rw[if_pos z]at q2;exact .inl ⟨j',by omega,q2,by unfold nA;rw[if_pos z]⟩
      ·rw[if_neg z]at q2
       by_cases z1:j'=k
       ·rw[if_pos z1]at q2;exact .inr (by rw[if_pos q2,z1];exact List.mem_cons_self)
       ·rw[if_neg z1]at q2
        by_cases z2:j'=k+1
        ·rw[if_pos z2,zp (.inl Ke) Kd]at q2;exact .inr (by rw[if_pos q2,z2];exact List.mem_cons_of_mem _ List.mem_cons_self)
        ·rw[if_neg z2]at q2;exact .inl ⟨j' - 2,by omega,q2,by unfold nA;rw[if_neg (by omega)];congr 1;omega⟩
     ·rintro (⟨i,q1,q2,q3⟩ | q)
      ·unfold nA at q3
       split at q3
       ·rename_i z;cases q3;rw[if_pos z];exact ⟨by omega,q2⟩
       ·cases q3
        rw[if_neg (by omega),if_neg (by omega),if_neg (by omega),show i+2 - 2=i by omega]
        exact ⟨by omega,q2⟩
      ·split at q
       ·rename_i z
        rcases List.mem_cons.mp q with e | q
        ·rw[e,if_neg (by omega),if_pos rfl];exact ⟨by omega,z⟩
        ·rw[List.mem_singleton.mp q,if_neg (by omega),if_neg (by omega),if_pos rfl,zp (.inl Ke) Kd];exact ⟨by omega,z⟩
       ·cases q
    ·intro i j' _ e1 q
     split at q
     ·unfold nA at e1
      have hq:j'=k\/j'=k+1:=by simpa using q
      split at e1<;>(have a1:=Option.some.inj e1;omega)
     ·cases q
   have LV:uO b x=decide (PyProof.Rows.lo1 x=b):=(ui Ke Kd).symm
   rcases zq (show ((L.map (dG c (nA k))).set ((aC y).idxOf (PyProof.Rows.lo1 x)) (put2 n (c,k) (c,k+1) (dG c (nA k) (L.getD ((aC y).idxOf (PyProof.Rows.lo1 x)) []))))[j]? =some l from hl) with ⟨e1,e2⟩ | ⟨e1,e2⟩
   ·subst e1
    have GL:=rX hy Bc
    have BJ:b=PyProof.Rows.lo1 x:=by
     have hj:=List.idxOf_lt_length_of_mem GL
     rw[List.getElem?_eq_getElem hj,List.getElem_idxOf hj]at hb
     exact (Option.some.inj hb).symm
    rw[LV,decide_eq_true BJ.symm,if_pos rfl]at base
    rw[e2,bM Tg]
    exact (Bb _ _ _ _).trans ((((hp.filterMap (jR c (nA k))).cons _).cons _).trans base.symm)
   ·have lU: ¬PyProof.Rows.lo1 x=b:=fun z=>e1 (by
     have hj:=List.getElem?_eq_some_iff.mp hb
     have zr:(aC y).Nodup:=(dU y).nodup_iff.mpr (hy.nd.filter _)
     rw[z]
     exact (lB zr hb).symm)
    rw[LV,decide_eq_false lU,if_neg (by decide)]at base
    obtain ⟨l0,sf,rfl⟩:=Option.map_eq_some_iff.mp (by rw[<-List.getElem?_map];exact e2)
    rw[Tg]at sf
    cases sf
    exact (hp.filterMap (jR c (nA k))).trans base.symm
structure Dd where
 a:Addr
 e:eE
noncomputable def dJ (ds:List Dd):List V:=ds.map fun x=>V.ref x.a
theorem cA (ds:List Dd):(dJ ds).length=ds.length:=by unfold dJ;rw[List.length_map]
theorem Kf {ds:List Dd} {i:Nat} {x:V} (h:(dJ ds)[i]? =some x): ∃p,ds[i]? =some p/\x=V.ref p.a:=by
 unfold dJ at h
 rw[List.getElem?_map]at h
 cases e:ds[i]? with
 | none=>rw[e]at h;cases h
 | some p=>rw[e]at h;cases h;exact ⟨p,rfl,rfl⟩
def Path (y:List Nat):List (List Nat)->fN->List eE->Prop
 | _,_,[]=>True
 | ws,L,e::es=>Eo y (aC y) ws L e/\Path y (dW ws e) (dO (aC y) ws L e) es
noncomputable def dS (y:List Nat):List (List Nat)->fN->List eE->List (List Nat)×fN
 | ws,L,[]=>(ws,L)
 | ws,L,e::es=>dS y (dW ws e) (dO (aC y) ws L e) es
theorem v7 {y:List Nat} (hy:Yd y):(aC y).Nodup:=(dU y).nodup_iff.mpr (hy.nd.filter _)
theorem Good.len {y:List Nat} {ws:List (List Nat)} {os:List Od} (g:Good y ws (os.map bj)): ∀o∈os,o.ps.length<=48:=fun o ho=>by
 obtain ⟨j,hj⟩:=List.mem_iff_getElem?.mp ho
 have hl:=g.lk.1
 rw[List.length_map]at hl
 have Th:j<(aC y).length:=by rw[<-hl];exact (List.getElem?_eq_some_iff.mp hj).1
 have hp:=g.lk.2 j (bj o) _ (by rw[List.getElem?_map,hj];rfl) (List.getElem?_eq_getElem Th)
 have h1:=hp.length_eq
 unfold bj at h1
 rw[List.length_map]at h1
 have h2:=gq (aC y)[j] (fun w hw=>(g.wk.all w hw).2) ws.length (Nat.le_refl _)
 have:=g.wk.g7
 omega
theorem Good.hold {y:List Nat} {ws:List (List Nat)} {os:List Od} {H:Hp} {d wl:Addr} (hy:Yd y) (hz:y.length<=8) (g:Good y ws (os.map bj)) (h:cf H d (aC y) os) (hw:H wl=some (.lst (bw ws))) (ne: ∀o∈os,o.o≠wl):lr H d wl (aC y) os ws:=by
 have Bd:=cZ hy
 refine ⟨h,hw,v7 hy,by omega,ne,fun o ho p hp=>?_,g.wk.g7,fun w hw=>⟨fun c hc=>hy.lt c ((g.wk.all w hw).1 c hc),(g.wk.all w hw).2⟩⟩
 obtain ⟨j,hj⟩:=List.mem_iff_getElem?.mp ho
 have Th:j<(aC y).length:=by rw[<-h.ln];exact (List.getElem?_eq_some_iff.mp hj).1
 have iD:=g.lk.2 j (bj o) _ (by rw[List.getElem?_map,hj];rfl) (List.getElem?_eq_getElem Th)
 have hm:(p.c,p.i)∈bj o:=List.mem_map.mpr ⟨p,hp,rfl⟩
 obtain ⟨m1,m2,_⟩:=iC.mp (iD.mem_iff.mp hm)
 refine ⟨ws[p.c],List.getElem?_eq_getElem m1,?_⟩
 rw[bM (List.getElem?_eq_getElem m1)]at m2
 exact m2
def zu (_:PySem.W.Frag):Sp:=fun vs H Q _=> ∃(y:List Nat) (dr:Addr) (ws:List (List Nat)) (os:List Od) (ep:Addr) (ds:List Dd),vs=[.str (S y), .ref dr, .ref ep]/\Yd y/\y.length<=8/\Good y ws (os.map bj)/\eK H dr ws os/\H ep=some (.lst (dJ ds))/\(∀x∈ds,eV H x.a x.e)/\ds.length<=50000/\Path y ws (os.map bj) (ds.map Dd.e)/\
 ∀(NI:Addr) (os':List Od) (H':Hp),eK H' NI (dS y ws (os.map bj) (ds.map Dd.e)).1 os'->os'.map bj=(dS y ws (os.map bj) (ds.map Dd.e)).2->Good y (dS y ws (os.map bj) (ds.map Dd.e)).1 (os'.map bj)->ai H H'->Q (.ref NI) H'
theorem Dn {K:PySem.W.Frag} {vs:List V} {H:Hp} {Q:VK} {E:XK} (h:zu K vs H Q E):vs.length=3:=by obtain ⟨_,_,_,_,_,_,rfl,_⟩:=h;rfl
theorem Be {bs:List Nat} {cur:List Od} {b:Nat} {o:Od} (h:cur.length=bs.length):eA bs cur++[(kS [b],V.ref o.o)]=eA (bs++[b]) (cur++[o]):=by
 unfold eA
 rw[List.zip_append h.symm,List.map_append]
 rfl
theorem FK {a b:List (Nat×Nat)} (h:a.Perm b) (ha:a.Pairwise fun x y=>bX (pz y) (pz x)=false) (hb:b.Pairwise fun x y=>bX (pz y) (pz x)=false):a=b:=by
 refine List.Perm.eq_of_pairwise (fun x y _ _ h1 h2=>?_) ha hb h
 unfold bX pz at h1 h2
 simp only[Bool.or_eq_false_iff,Bool.and_eq_false_iff,decide_eq_false_iff_not]at h1 h2
 exact Prod.ext (by omega) (by omega)
def jl (_:PySem.W.Frag):Sp:=fun vs H Q _=> ∃(y:List Nat) (wt ot:Addr) (ws:List (List Nat)) (os:List Od),vs=[.str (S y), .ref wt, .ref ot]/\Yd y/\y.length<=8/\iA y ws/\H wt=some (.tup (bw ws))/\H ot=some (.tup (mX os))/\(∀o∈os,gp H o)/\lj y ws os/\ ∀H',ai H H'->Q .ck H'
theorem nB {K:PySem.W.Frag} {vs:List V} {H:Hp} {Q:VK} {E:XK} (h:jl K vs H Q E):vs.length=3:=by obtain ⟨c,_,_,_,_,rfl,_⟩:=h;rfl
def iR (_:PySem.W.Frag):Sp:=fun vs H Q _=> ∃(y:List Nat) (dr:Addr) (ws:List (List Nat)) (os:List Od),vs=[.str (S y), .ref dr]/\Yd y/\y.length<=8/\iA y ws/\eK H dr ws os/\lj y ws os/\ ∀H',ai H H'->Q (.bl true) H'
theorem mz {K:PySem.W.Frag} {vs:List V} {H:Hp} {Q:VK} {E:XK} (h:iR K vs H Q E):vs.length=2:=by obtain ⟨c,_,_,_,rfl,_⟩:=h;rfl
theorem Qo.os {y:List Nat} {ws:List (List Nat)} {os:List Od} (h:Qo y ws (os.map bj)):lj y ws os:=⟨by have:=h.1;rwa [List.length_map]at this,fun j o b ho hb=>h.2 j (bj o) b (by rw[List.getElem?_map,ho];rfl) hb⟩
theorem lj.lok {y:List Nat} {ws:List (List Nat)} {os:List Od} (h:lj y ws os):Qo y ws (os.map bj):=⟨by rw[List.length_map];exact h.1,fun j l b hl hb=>by
 rw[List.getElem?_map]at hl
 cases e:os[j]? with
 | none=>rw[e]at hl;cases hl
 | some o=>rw[e]at hl;cases hl;exact h.2 j o b e hb⟩
noncomputable def pk (ps:List Pr) (idx:List Nat):List Pr:=idx.map fun i=>ps.getD i ⟨0,0,0⟩
theorem NJ (ps:List Pr): ∀idx:List Nat,(∀i∈idx,i<ps.length)->(idx.map fun i=>(bS ps).getD i .ck)=bS (pk ps idx)
 | [],_=>rfl
 | i::idx,h=>by
  show (bS ps).getD i .ck::(idx.map fun i=>(bS ps).getD i .ck)=V.ref (ps.getD i ⟨0,0,0⟩).t::bS (pk ps idx)
  rw[NJ ps idx fun j hj=>h j (List.mem_cons_of_mem _ hj)]
  congr 1
  unfold bS
  rw[List.getD_eq_getElem?_getD,List.getD_eq_getElem?_getD,List.getElem?_map,List.getElem?_eq_getElem (h i List.mem_cons_self)]
  rfl
theorem zw {ps:List Pr} {idx:List Nat} (h:idx.Perm (List.range ps.length)):(pk ps idx).Perm ps:=by
 have e:(List.range ps.length).map (fun i=>ps.getD i ⟨0,0,0⟩)=ps:=by
  refine List.ext_getElem (by simp) fun i g1 g2=>?_
  simp[g2]
 have:=h.map fun i=>ps.getD i ⟨0,0,0⟩
 rw[e]at this
 exact this
theorem FL {ps:List Pr} {idx:List Nat} (h: ∀i∈idx,i<ps.length) (hp:(idx.map fun i=>((ps.map Pr.pair).map pz).getD i (0,0)).Pairwise fun x y=>bX y x=false):((pk ps idx).map Pr.pair).Pairwise fun x y=>bX (pz y) (pz x)=false:=by
 have e:(idx.map fun i=>((ps.map Pr.pair).map pz).getD i (0,0))=((pk ps idx).map Pr.pair).map pz:=by
  have e2:((pk ps idx).map Pr.pair).map pz=idx.map fun i=>pz (Pr.pair (ps.getD i ⟨0,0,0⟩)):=by
   unfold pk
   rw[List.map_map,List.map_map]
   rfl
  rw[e2]
  refine List.map_congr_left fun i hi=>?_
  show ((ps.map Pr.pair).map pz).getD i (0,0)=pz (Pr.pair (ps.getD i ⟨0,0,0⟩))
  rw[List.getD_eq_getElem?_getD,List.getD_eq_getElem?_getD,List.getElem?_map,List.getElem?_map,List.getElem?_eq_getElem (h i hi)]
  rfl
 rw[e,List.pairwise_map]at hp
 exact hp
theorem NK {l:List (Nat×Nat)} (h:l.Nodup):(l.map pz).Nodup:=by
 unfold List.Nodup at*
 rw[List.pairwise_map]
 refine h.imp fun {x y} ne e=>ne ?_
 have e1:=congrArg Prod.fst e
 have e2:=congrArg Prod.snd e
 exact Prod.ext (by have:(x.1:Int)=y.1:=e1;omega) (by have:(x.2:Int)=y.2:=e2;omega)
def v8 (_:PySem.W.Frag):Sp:=fun vs H Q _=> ∃(b:Addr) (y:List Nat) (dr:Addr) (ws:List (List Nat)) (os:List Od),vs=[.ref b, .str (S y), .ref dr]/\cb H b/\Yd y/\1<=y.length/\y.length<=8/\ws≠[]/\Good y ws (os.map bj)/\eK H dr ws os/\
 ∀(a:Addr) (e:eE) (H':Hp),eV H' a e->Eo y (aC y) ws (os.map bj) e->aF b H H'->Q (.ref a) H'
theorem Bf {K:PySem.W.Frag} {vs:List V} {H:Hp} {Q:VK} {E:XK} (h:v8 K vs H Q E):vs.length=3:=by obtain ⟨_,_,_,_,_,rfl,_⟩:=h;rfl
def G6 (ws:List (List Nat)) (p:Pr):Prop:=p.c<ws.length/\ ∃x,(ws.getD p.c [])[p.i]? =some x/\(ws.getD p.c [])[p.i+1]? =some (bb x)
theorem Good.g7 {y:List Nat} {ws:List (List Nat)} {L:fN} (h:Good y ws L):ws.length<=4:=h.wk.g7
theorem Good.jm {y:List Nat} {ws:List (List Nat)} {L:fN} (h:Good y ws L): ∀w∈ws,(∀c∈w,c∈y)/\w.length<=12:=h.wk.all
theorem Good.ln {y:List Nat} {ws:List (List Nat)} {L:fN} (h:Good y ws L):L.length=(aC y).length:=h.lk.1
theorem NL {H5:Hp} {X:Hp->Prop} {G:Prop} (f:(∀H6,ai H5 H6->X H6)->G) (x: ∀H6,ai H5 H6->X H6):G:=f x
theorem pQ {ws:List (List Nat)} {c:Nat} {w':List Nat} (hc:c<ws.length) (h:aL w'=aL (ws.getD c [])):(ws.set c w').map aL=ws.map aL:=by
 refine List.ext_getElem? fun i=>?_
 rw[List.getElem?_map,List.getElem?_map,List.getElem?_set]
 by_cases e:c=i
 ·subst e
  rw[if_pos rfl,if_pos hc,List.getElem?_eq_getElem hc,Option.map_some,Option.map_some,h,bM (List.getElem?_eq_getElem hc)]
 ·rw[if_neg e]
theorem Bg {y:List Nat} {ws:List (List Nat)} {L:fN} {e:eE} (hy:Yd y) (g:Good y ws L) (bu:Eo y (aC y) ws L e):(dW ws e).map aL=ws.map aL:=by
 have lt: ∀c,c<ws.length-> ∀x∈ws.getD c [],Lt x:=fun c hc x hx=>by
  rw[bM (List.getElem?_eq_getElem hc)]at hx
  exact hy.lt x ((g.wk.all _ (List.getElem_mem hc)).1 x hx)
 cases e with
 | swap b n=>rfl
 | out c k=>
  obtain ⟨hc,x,h1,h2⟩:=bu
  refine pQ hc ?_
  have hl:=lt c hc
  generalize ws.getD c []=w at h1 h2 hl
  have LW:k+1<w.length:=(List.getElem?_eq_some_iff.mp h2).1
  have ew:w=w.take k++x::bb x::w.drop (k+2):=by
   have e1:w.drop k=x::w.drop (k+1):=by rw[List.drop_eq_getElem_cons (by omega),(List.getElem?_eq_some_iff.mp h1).2]
   have e2:w.drop (k+1)=bb x::w.drop (k+2):=by rw[List.drop_eq_getElem_cons LW,(List.getElem?_eq_some_iff.mp h2).2]
   rw[<-e2, <-e1,List.take_append_drop]
  have hx:Lt x:=hl x (List.mem_of_getElem? h1)
  have SM:Lt (bb x):=hl _ (List.mem_of_getElem? h2)
  rw[fv,fv]
  congr 2
  have:=gm (a:=w.take k) (b:=w.drop (k+2)) (x:=x) (y:=bb x) SM (bB hx).symm
  rw[<-ew]at this
  exact this.symm
 | turn c=>
  refine pQ bu ?_
  have hl:=lt c bu
  generalize ws.getD c []=w at hl
  have:=C9 (w:=w) (k:=1) hl
  unfold fu at this
  exact this
 | ins c k x n=>
  obtain ⟨hc,h1,h2,hx,_⟩:=bu
  refine pQ hc ?_
  have hl:=lt c hc
  generalize ws.getD c []=w at hl
  rw[fv,fv]
  congr 2
  have hlx:=hy.lt x hx
  have:=gm (a:=w.take k) (b:=w.drop k) (x:=x) (y:=bb x) (hy.lt _ (hy.cl x hx)) (bB hlx).symm
  rw[List.take_append_drop]at this
  rw[<-this]
  congr 1
  simp
noncomputable def dl:eE->Int
 | .swap _ _=>0
 | .out _ _=> -2
 | .turn _=>0
 | .ins _ _ _ _=>2
theorem lC {ws:List (List Nat)} {i:Nat} {x:V} (h:(bw ws)[i]? =some x): ∃w,ws[i]? =some w/\x= .str (S w):=by
 unfold bw at h
 rw[List.getElem?_map]at h
 cases e:ws[i]? with
 | none=>rw[e]at h;cases h
 | some w=>rw[e]at h;cases h;exact ⟨w,rfl,rfl⟩
theorem Good.ws {y:List Nat} {ws:List (List Nat)} {L:fN} (h:Good y ws L):iA y ws:=h.wk
theorem Good.os {y:List Nat} {ws:List (List Nat)} {os:List Od} (h:Good y ws (os.map bj)):lj y ws os:=h.lk.os
inductive WP (y:List Nat) (c:Nat):List Nat->List eE->List Nat->Prop
 | nil {w:List Nat}:WP y c w [] w
 | out {w v:List Nat} {k x:Nat} {es:List eE}:w[k]? =some x->w[k+1]? =some (bb x)->WP y c (w.take k++w.drop (k+2)) es v->WP y c w (.out c k::es) v
 | turn {w v:List Nat} {es:List eE}:WP y c (w.drop 1++w.take 1) es v->WP y c w (.turn c::es) v
 | ins {w v:List Nat} {k x:Nat} {es:List eE}:k<=w.length->w.length<=10->x∈y->WP y c (w.take k++[x]++[bb x]++w.drop k) es v->WP y c w (.ins c k x 0::es) v
section
variable {y:List Nat} {c:Nat}
theorem WP.app {a b d:List Nat} {es fs:List eE} (h:WP y c a es b) (g:WP y c b fs d):WP y c a (es++fs) d:=by
 induction h with
 | nil=>exact g
 | out h1 h2 _ ih=>exact .out h1 h2 (ih g)
 | turn _ ih=>exact .turn (ih g)
 | ins h1 h2 h3 _ ih=>exact .ins h1 h2 h3 (ih g)
theorem lD {α:Type} (l:List α) (i:Nat) (a b:α):(l.set i a).set i b=l.set i b:=by
 induction l generalizing i with
 | nil=>rfl
 | cons x l ih=>cases i with
  | zero=>rfl
  | succ i=>show x::(l.set i a).set i b=x::l.set i b;rw[ih]
theorem WP.lift (hy:Yd y) {w v:List Nat} {es:List eE} (h:WP y c w es v): ∀{ws:List (List Nat)} {L:fN},Good y ws L->ws[c]? =some w->Path y ws L es/\(dS y ws L es).1=ws.set c v/\Good y (ws.set c v) (dS y ws L es).2:=by
 induction h with
 | nil=>
  intro ws L g hc
  have e:=set_same hc
  exact ⟨trivial,e.symm,by rw[e];exact g⟩
 | @out w v k x es h1 h2 _ ih=>
  intro ws L g hc
  have kA:=(List.getElem?_eq_some_iff.mp hc).1
  have eg:=bM (x:=[]) hc
  have ok:Eo y (aC y) ws L (.out c k):=⟨kA,x,by rw[eg];exact h1,by rw[eg];exact h2⟩
  have eW:dW ws (.out c k)=ws.set c (w.take k++w.drop (k+2)):=by show ws.set c _=_;rw[eg]
  obtain ⟨i1,i2,i3⟩:=ih (g.step hy ok) (by rw[eW];exact List.getElem?_set_self kA)
  have e3:(dW ws _).set c v=ws.set c v:=(congrArg (fun l=>l.set c v) eW).trans (lD ws c _ v)
  refine ⟨⟨ok,i1⟩,i2.trans e3,?_⟩
  rw[<-e3]
  exact i3
 | @turn w v es _ ih=>
  intro ws L g hc
  have kA:=(List.getElem?_eq_some_iff.mp hc).1
  have eg:=bM (x:=[]) hc
  have ok:Eo y (aC y) ws L (.turn c):=kA
  have eW:dW ws (.turn c)=ws.set c (w.drop 1++w.take 1):=by show ws.set c _=_;rw[eg]
  obtain ⟨i1,i2,i3⟩:=ih (g.step hy ok) (by rw[eW];exact List.getElem?_set_self kA)
  have e3:(dW ws _).set c v=ws.set c v:=(congrArg (fun l=>l.set c v) eW).trans (lD ws c _ v)
  refine ⟨⟨ok,i1⟩,i2.trans e3,?_⟩
  rw[<-e3]
  exact i3
 | @ins w v k x es h1 h2 h3 _ ih=>
  intro ws L g hc
  have kA:=(List.getElem?_eq_some_iff.mp hc).1
  have eg:=bM (x:=[]) hc
  have ok:Eo y (aC y) ws L (.ins c k x 0):=⟨kA,by rw[eg];exact h1,by rw[eg];exact h2,h3,Nat.zero_le _⟩
  have eW:dW ws (.ins c k x 0)=ws.set c (w.take k++[x]++[bb x]++w.drop k):=by show ws.set c _=_;rw[eg]
  obtain ⟨i1,i2,i3⟩:=ih (g.step hy ok) (by rw[eW];exact List.getElem?_set_self kA)
  have e3:(dW ws _).set c v=ws.set c v:=(congrArg (fun l=>l.set c v) eW).trans (lD ws c _ v)
  refine ⟨⟨ok,i1⟩,i2.trans e3,?_⟩
  rw[<-e3]
  exact i3
theorem pR: ∀{es fs:List eE} {ws:List (List Nat)} {L:fN},Path y ws L es->Path y (dS y ws L es).1 (dS y ws L es).2 fs->Path y ws L (es++fs)
 | [],_,_,_,_,h=>h
 | _::_,_,_,_,⟨h1,h2⟩,h=>⟨h1,pR h2 h⟩
theorem nS: ∀{es fs:List eE} {ws:List (List Nat)} {L:fN},dS y ws L (es++fs)=dS y (dS y ws L es).1 (dS y ws L es).2 fs
 | [],_,_,_=>rfl
 | _::es,_,_,_=>nS (es:=es)
end
inductive iZ:List Nat->List (Nat×Nat)->List Nat->Prop
 | nil {w:List Nat}:iZ w [] w
 | cons {w v:List Nat} {k x:Nat} {ps:List (Nat×Nat)}:w[k]? =some x->w[k+1]? =some (bb x)->iZ (w.take k++w.drop (k+2)) ps v->iZ w ((k,x)::ps) v
theorem iZ.snoc {w u:List Nat} {k x:Nat} {ps:List (Nat×Nat)} (h:iZ w ps u) (h1:u[k]? =some x) (h2:u[k+1]? =some (bb x)):iZ w (ps++[(k,x)]) (u.take k++u.drop (k+2)):=by
 induction h with
 | nil=>exact .cons h1 h2 .nil
 | cons a b _ ih=>exact .cons a b (ih h1 h2)
theorem uo {w:List Nat} {k x:Nat} (h:w[k+1]? =some x):(w.take k++w.drop (k+2)).length+2=w.length:=by
 have:=(List.getElem?_eq_some_iff.mp h).1
 rw[List.length_append,List.length_take,List.length_drop]
 omega
theorem uq {w:List Nat} {k x:Nat} (h:x∈w.take k++w.drop (k+2)):x∈w:=(List.mem_append.mp h).elim List.mem_of_mem_take List.mem_of_mem_drop
theorem iZ.len {w v:List Nat} {ps:List (Nat×Nat)} (h:iZ w ps v):v.length+2*ps.length=w.length:=by
 induction h with
 | nil=>rfl
 | cons _ b _ ih=>
  have:=uo b
  rw[List.length_cons]
  omega
theorem iZ.mem {w v:List Nat} {ps:List (Nat×Nat)} (h:iZ w ps v): ∀x∈v,x∈w:=by
 induction h with
 | nil=>exact fun _ h=>h
 | cons _ _ _ ih=>exact fun x hx=>uq (ih x hx)
theorem iZ.red {w v:List Nat} {ps:List (Nat×Nat)} (h:iZ w ps v):(∀c∈w,Lt c)->red v=red w:=by
 induction h with
 | nil=>exact fun _=>rfl
 | @cons w v k x ps a b _ ih=>
  intro hw
  have hx:=hw x (List.mem_of_getElem? a)
  rw[ih fun c hc=>hw c (uq hc)]
  exact (C1 ⟨x,bb x,a,b,(bB hx).symm⟩ hw).1
theorem iZ.down {y:List Nat} {c:Nat} {w v:List Nat} {ps:List (Nat×Nat)} (h:iZ w ps v):WP y c w (ps.map fun p=> .out c p.1) v:=by
 induction h with
 | nil=>exact .nil
 | cons a b _ ih=>exact .out a b ih
theorem Dp {w:List Nat} {k x:Nat} (a:w[k]? =some x) (b:w[k+1]? =some (bb x)):(w.take k++w.drop (k+2)).take k++[x]++[bb x]++(w.take k++w.drop (k+2)).drop k=w:=by
 have hk:=(List.getElem?_eq_some_iff.mp b).1
 have hl:(w.take k).length=k:=by rw[List.length_take];omega
 rw[List.take_append_of_le_length (by omega),List.take_of_length_le (by omega),List.drop_append_of_le_length (by omega),List.drop_of_length_le (by omega),List.nil_append]
 have e:w=w.take k++(x::bb x::w.drop (k+2)):=by
  have h1:w.drop k=x::w.drop (k+1):=by
   rw[List.drop_eq_getElem_cons (by omega)]
   congr 1
   exact Option.some.inj ((List.getElem?_eq_getElem _).symm.trans a)
  have h2:w.drop (k+1)=bb x::w.drop (k+2):=by
   rw[List.drop_eq_getElem_cons hk]
   congr 1
   exact Option.some.inj ((List.getElem?_eq_getElem _).symm.trans b)
  rw[<-h2, <-h1,List.take_append_drop]
 conv=>rhs;rw[e]
 simp
theorem iZ.up {y:List Nat} {c:Nat} {w v:List Nat} {ps:List (Nat×Nat)} (h:iZ w ps v):(∀x∈w,x∈y)->w.length<=12->WP y c v (ps.reverse.map fun p=> .ins c p.1 p.2 0) w:=by
 induction h with
 | nil=>exact fun _ _=> .nil
 | @cons w v k x ps a b _ ih=>
  intro hw hz
  have hl:=uo b
  have h1:=ih (fun x hx=>hw x (uq hx)) (by omega)
  rw[List.reverse_cons,List.map_append]
  have hk:=(List.getElem?_eq_some_iff.mp b).1
  refine h1.app (.ins ?_ (by omega) (hw x (List.mem_of_getElem? a)) ?_)
  ·rw[List.length_append,List.length_take,List.length_drop];show k<=_;omega
  ·show WP y c ((w.take k++w.drop (k+2)).take k++[x]++[bb x]++(w.take k++w.drop (k+2)).drop k) [] w
   rw[Dp a b]
   exact .nil
theorem WP.ends {y:List Nat} {c a z:Nat} {m:List Nat} (hz:a=bb z):WP y c (a::(m++[z])) [.turn c, .out c m.length] m:=by
 have e1:(a::(m++[z])).drop 1++(a::(m++[z])).take 1=m++[z,a]:=by simp
 refine .turn ?_
 rw[e1]
 refine .out (x:=z) (by simp) (by rw[List.getElem?_append_right (by omega)];simp[hz]) ?_
 have e2:(m++[z,a]).take m.length++(m++[z,a]).drop (m.length+2)=m:=by simp
 rw[e2]
 exact .nil
theorem WP.Ti {y:List Nat} {c x:Nat} {u:List Nat} (hx:Lt x) (hm:bb x∈y) (hz:u.length<=10):WP y c u [.ins c 0 (bb x) 0, .turn c] (x::u++[bb x]):=by
 refine .ins (Nat.zero_le _) hz hm (.turn ?_)
 have e:(u.take 0++[bb x]++[bb (bb x)]++u.drop 0).drop 1++(u.take 0++[bb x]++[bb (bb x)]++u.drop 0).take 1=x::u++[bb x]:=by rw[bB hx];simp
 rw[e]
 exact .nil
noncomputable def pS (c:Nat):List Nat->List eE
 | []=>[]
 | x::l=> .ins c 0 (bb x) 0:: .turn c::pS c l
theorem mB (c:Nat): ∀(l:List Nat) (x:Nat),pS c (l++[x])=pS c l++[.ins c 0 (bb x) 0, .turn c]
 | [],_=>rfl
 | a::l,x=>by show _::_::pS c (l++[x])=_::_::(pS c l++_);rw[mB c l x]
theorem WP.G7 {y:List Nat} {c:Nat}: ∀(p u:List Nat),(∀x∈p,Lt x/\bb x∈y)->u.length+2*p.length<=12->WP y c u (pS c p.reverse) (p++u++vI p)
 | [],u,_,_=>by
  show WP y c u [] ([]++u++vI [])
  have:([]:List Nat)++u++vI []=u:=by unfold vI;simp
  rw[this]
  exact .nil
 | x::p,u,h,hz=>by
  have hl:(p++u++vI p).length=u.length+2*p.length:=by unfold vI;simp;omega
  have ih:=WP.G7 (y:=y) (c:=c) p u (fun z J3=>h z (List.mem_cons_of_mem _ J3)) (by rw[List.length_cons]at hz;omega)
  obtain ⟨h1,h2⟩:=h x List.mem_cons_self
  rw[List.reverse_cons,mB]
  have:=ih.app (WP.Ti (y:=y) (c:=c) h1 h2 (by rw[hl];rw[List.length_cons]at hz;omega))
  have e:x::(p++u++vI p)++[bb x]=x::p++u++vI (x::p):=by rw[vP];simp
  rw[<-e]
  exact this
noncomputable def ur (c:Nat) (n:Nat):List eE:=List.replicate n (.turn c)
theorem Dq {a:List Nat} {n:Nat} (h:n<a.length):(fu a n).drop 1++(fu a n).take 1=fu a (n+1):=by
 unfold fu
 have e:a.take (n+1)=a.take n++[a[n]]:=by rw[List.take_succ,List.getElem?_eq_getElem h];rfl
 have e2:a.drop n=a[n]::a.drop (n+1):=List.drop_eq_getElem_cons h
 rw[e2,e]
 show (a.drop (n+1)++a.take n)++[a[n]]=_
 rw[List.append_assoc]
theorem WP.turns {y:List Nat} {c:Nat} {a:List Nat}: ∀n,n<=a.length->WP y c a (ur c n) (fu a n)
 | 0,_=>by rw[o_];exact .nil
 | n+1,h=>by
  have e:ur c (n+1)=ur c n++[.turn c]:=by unfold ur;rw[List.replicate_succ']
  rw[e]
  refine (WP.turns n (by omega)).app (.turn ?_)
  rw[Dq (by omega)]
  exact .nil
theorem x5 {a b:List Nat} (h:aL a=aL b): ∃t,t<=(core (red a)).length/\fu (core (red a)) t=core (red b):=by
 rw[fv,fv]at h
 obtain ⟨i,hi,e1⟩:=iy (core (red a))
 obtain ⟨j,hj,e2⟩:=iy (core (red b))
 have hl:(core (red a)).length=(core (red b)).length:=by
  have h1:=congrArg List.length e1
  have h2:=congrArg List.length e2
  rw[lg]at h1 h2
  rw[<-h1, <-h2,h]
 have e3:fu (core (red a)) i=fu (core (red b)) j:=by rw[<-e1, <-e2,h]
 have back:fu (fu (core (red b)) j) ((core (red b)).length - j)=core (red b):=by
  have:=uf ((core (red b)).drop j) ((core (red b)).take j)
  rw[List.length_drop,List.take_append_drop]at this
  exact this
 obtain ⟨t,ht,e4⟩:=ug (c:=core (red a)) (k:=i) (j:=(core (red b)).length - j) hi (by omega)
 exact ⟨t,ht,by rw[<-e4,e3,back]⟩
theorem Bh {u:List Nat} (h:(core u).length<u.length): ∃a m z,u=a::(m++[z])/\a=bb z/\core m=core u:=by
 by_cases h2:2<=u.length
 ·obtain ⟨a,m,z,rfl⟩:=vN h2
  by_cases e:a=bb z
  ·exact ⟨a,m,z,rfl,e,(jz e).symm⟩
  ·rw[eT e]at h;omega
 ·rw[eU (by omega)]at h;omega
inductive SP:List (Nat×Nat)->List Nat->List (Nat×Nat)->Prop
 | nil {l:List (Nat×Nat)}:SP l [] l
 | cons {l l':List (Nat×Nat)} {k:Nat} {ks:List Nat}:k+1<l.length->SP (iQ k l) ks l'->SP l (k::ks) l'
theorem SP.app {a b d:List (Nat×Nat)} {ks ls:List Nat} (h:SP a ks b) (g:SP b ls d):SP a (ks++ls) d:=by
 induction h with
 | nil=>exact g
 | cons h1 _ ih=>exact .cons h1 (ih g)
theorem Dr (a d:List (Nat×Nat)) (p q:Nat×Nat):iQ a.length (a++p::q::d)=a++q::p::d:=by
 unfold iQ
 have e1:(a++p::q::d)[a.length]? =some p:=by simp
 have e2:(a++p::q::d)[a.length+1]? =some q:=by rw[List.getElem?_append_right (by omega)];simp
 rw[e1,e2]
 show ((a++p::q::d).set a.length q).set (a.length+1) p=_
 rw[List.set_append_right _ _ (Nat.le_refl _),Nat.sub_self,List.set_cons_zero,List.set_append_right _ _ (by omega)]
 simp
noncomputable def iS (place j:Nat):List Nat:=(List.range j).map fun t=>place - 1 - t
theorem x6 (place j:Nat) (h:j+1<=place):iS place (j+1)=(place - 1)::iS (place - 1) j:=by
 unfold iS
 rw[List.range_succ_eq_map,List.map_cons,List.map_map]
 congr 1
 refine List.map_congr_left fun t ht=>?_
 show place - 1 - (t+1)=place - 1 - 1 - t
 omega
theorem SP.down (A:List (Nat×Nat)) (x:Nat×Nat): ∀(j:Nat) (M B:List (Nat×Nat)),M.length=j->SP (A++M++x::B) (iS (A.length+j) j) (A++x::M++B)
 | 0,M,B,h=>by
  have:M=[]:=List.length_eq_zero_iff.mp h
  subst this
  have e:A++[]++x::B=A++x::[]++B:=by simp
  rw[e]
  exact .nil
 | j+1,M,B,h=>by
  have hM:M≠[]:=fun z=>by rw[z]at h;simp at h
  have eM:M=M.dropLast++[M.getLast hM]:=(List.dropLast_concat_getLast hM).symm
  have hl:M.dropLast.length=j:=by rw[List.length_dropLast];omega
  generalize M.dropLast=M' at eM hl
  generalize M.getLast hM=z at eM
  subst eM
  rw[x6 _ _ (by omega)]
  have hk:A.length+(j+1) - 1=(A++M').length:=by rw[List.length_append,hl];omega
  rw[hk]
  refine .cons (by simp;omega) ?_
  have e1:A++(M'++[z])++x::B=(A++M')++z::x::B:=by simp
  rw[e1,Dr]
  have ih:=SP.down A x j M' (z::B) hl
  have e2:(A++M').length=A.length+j:=by rw[List.length_append,hl]
  rw[e2]
  have e3:A++x::(M'++[z])++B=A++x::M'++z::B:=by simp
  rw[e3]
  exact ih
theorem SP.lift {y:List Nat} (hy:Yd y) {l l':List (Nat×Nat)} {ks:List Nat} {j b:Nat} (h:SP l ks l'): ∀{ws:List (List Nat)} {L:fN},(aC y)[j]? =some b->L[j]? =some l->Path y ws L (ks.map fun k=> .swap b k)/\dS y ws L (ks.map fun k=> .swap b k)=(ws,L.set j l'):=by
 induction h with
 | nil=>
  intro ws L hb hl
  exact ⟨trivial,by rw[set_same hl];rfl⟩
 | @cons l l' k ks h1 _ ih=>
  intro ws L hb hl
  have hi:=lB (v7 hy) hb
  have BP:=(List.getElem?_eq_some_iff.mp hl).1
  have eg:L.getD ((aC y).idxOf b) []=l:=by rw[hi];exact bM hl
  have ok:Eo y (aC y) ws L (.swap b k):=⟨List.mem_of_getElem? hb,by rw[eg];exact h1⟩
  have eO:dO (aC y) ws L (.swap b k)=L.set j (iQ k l):=by
   show L.set ((aC y).idxOf b) (iQ k (L.getD ((aC y).idxOf b) []))=_
   rw[eg,hi]
  obtain ⟨i1,i2⟩:=ih (ws:=ws) (L:=dO (aC y) ws L (.swap b k)) hb (by rw[eO];exact List.getElem?_set_self BP)
  refine ⟨⟨ok,i1⟩,i2.trans ?_⟩
  rw[eO,lD]
theorem SP.perm {l l':List (Nat×Nat)} {ks:List Nat} (h:SP l ks l'):l'.Perm l:=by
 induction h with
 | nil=>exact List.Perm.refl _
 | cons _ _ ih=>exact ih.trans (pO _ _)
structure Pq where
 t:Addr
 k:Nat
 x:Nat
noncomputable def Pq.pr (p:Pq):Nat×Nat:=(p.k,p.x)
noncomputable def sg (ps:List Pq):List V:=ps.map fun p=>V.ref p.t
theorem nU (ps:List Pq):(sg ps).length=ps.length:=by unfold sg;rw[List.length_map]
theorem Ds (ps:List Pq) (p:Pq):sg ps++[V.ref p.t]=sg (ps++[p]):=by unfold sg;rw[List.map_append];rfl
theorem Dt {ps:List Pq} {i:Nat} {x:V} (h:(sg ps)[i]? =some x): ∃p,ps[i]? =some p/\x=V.ref p.t:=by
 unfold sg at h
 rw[List.getElem?_map]at h
 cases e:ps[i]? with
 | none=>rw[e]at h;cases h
 | some p=>rw[e]at h;cases h;exact ⟨p,rfl,rfl⟩
def Kg (H:Hp) (p:Pq):Prop:=H p.t=some (.tup [.int p.k, .str (S [p.x])])
def lE (_:PySem.W.Frag):Sp:=fun vs H Q _=> ∃w:List Nat,vs=[.str (S w)]/\(∀c∈w,Lt c)/\w.length<=12/\
 ∀(t:Addr) (ps:List Pq) (H':Hp),H t=none->H' t=some (.lst (sg ps))->(∀p∈ps,Kg H' p)->iZ w (ps.map Pq.pr) (red w)->ai H H'->Q (.ref t) H'
theorem qL {K:PySem.W.Frag} {vs:List V} {H:Hp} {Q:VK} {E:XK} (h:lE K vs H Q E):vs.length=1:=by obtain ⟨_,rfl,_⟩:=h;rfl
def pT (H:Hp) (Q:VK) (P:List eE->Prop) (n:Nat):Prop:= ∀(t:Addr) (ds:List Dd) (H':Hp),H t=none->H' t=some (.lst (dJ ds))->(∀x∈ds,eV H' x.a x.e)->P (ds.map Dd.e)->ds.length<=n->ai H H'->Q (.ref t) H'
def m6 (_:PySem.W.Frag):Sp:=fun vs H Q _=> ∃(y:List Nat) (c:Nat) (w:List Nat),vs=[.int c, .str (S w)]/\(∀c∈w,Lt c)/\w.length<=12/\pT H Q (fun es=>WP y c w es (core (red w))) 100
theorem uu {K:PySem.W.Frag} {vs:List V} {H:Hp} {Q:VK} {E:XK} (h:m6 K vs H Q E):vs.length=2:=by obtain ⟨_,_,_,rfl,_⟩:=h;rfl
def si (_:PySem.W.Frag):Sp:=fun vs H Q _=> ∃(y:List Nat) (c:Nat) (w:List Nat),vs=[.int c, .str (S w)]/\Yd y/\(∀c∈w,c∈y)/\w.length<=12/\pT H Q (fun es=>WP y c (core (red w)) es w) 100
theorem x8 {K:PySem.W.Frag} {vs:List V} {H:Hp} {Q:VK} {E:XK} (h:si K vs H Q E):vs.length=2:=by obtain ⟨_,_,_,rfl,_⟩:=h;rfl
def hR (_:PySem.W.Frag):Sp:=fun vs H Q _=> ∃(a b:List Nat),vs=[.str (S a), .str (S b)]/\a.length<=1000/\(∃t,t<=a.length/\fu a t=b)/\ ∀t,t<=a.length->fu a t=b->Q (.int (t:Nat)) H
theorem lF {K:PySem.W.Frag} {vs:List V} {H:Hp} {Q:VK} {E:XK} (h:hR K vs H Q E):vs.length=2:=by obtain ⟨_,_,rfl,_⟩:=h;rfl
def lG (_:PySem.W.Frag):Sp:=fun vs H Q _=> ∃(y:List Nat) (c:Nat) (w v:List Nat),vs=[.int c, .str (S w), .str (S v)]/\Yd y/\(∀c∈w,c∈y)/\w.length<=12/\(∀c∈v,c∈y)/\v.length<=12/\aL w=aL v/\pT H Q (fun es=>WP y c w es v) 1000
theorem qM {K:PySem.W.Frag} {vs:List V} {H:Hp} {Q:VK} {E:XK} (h:lG K vs H Q E):vs.length=3:=by obtain ⟨_,_,_,_,rfl,_⟩:=h;rfl
def j3 (_:PySem.W.Frag):Sp:=fun vs H Q _=> ∃(b:Nat) (o p:Od),vs=[.str (S [b]), .ref o.o, .ref p.o]/\gp H o/\gp H p/\(bj o).Perm (bj p)/\(bj p).Nodup/\pT H Q (fun es=> ∃ks,es=ks.map (fun k=> .swap b k)/\SP (bj o) ks (bj p)) 10000
theorem pU {K:PySem.W.Frag} {vs:List V} {H:Hp} {Q:VK} {E:XK} (h:j3 K vs H Q E):vs.length=3:=by obtain ⟨_,_,_,rfl,_⟩:=h;rfl
theorem v9: ∀{ws vs':List (List Nat)},ws.length=vs'.length->((ws.zip vs').map (fun p=>decide (aL p.1=aL p.2))).all id=decide (ws.map aL=vs'.map aL)
 | [],[],_=>rfl
 | [],_::_,h=>by cases h
 | _::_,[],h=>by cases h
 | w::ws,v::vs',h=>by
  have ih:=v9 (ws:=ws) (vs':=vs') (Nat.succ.inj h)
  rw[List.zip_cons_cons,List.map_cons,List.all_cons,ih]
  by_cases e:aL w=aL v<;>by_cases g:ws.map aL=vs'.map aL<;>simp[e,g]
def j4 (_:PySem.W.Frag):Sp:=fun vs H Q _=> ∃(t u:Addr) (ws vs':List (List Nat)),vs=[.ref t, .ref u]/\H t=some (.tup (bw ws))/\H u=some (.tup (bw vs'))/\ws.length<=4/\vs'.length<=4/\(∀w∈ws,(∀c∈w,Lt c)/\w.length<=12)/\(∀w∈vs',(∀c∈w,Lt c)/\w.length<=12)/\
 ∀H',ai H H'->Q (.bl (decide (ws.map aL=vs'.map aL))) H'
theorem pV {K:PySem.W.Frag} {vs:List V} {H:Hp} {Q:VK} {E:XK} (h:j4 K vs H Q E):vs.length=2:=by obtain ⟨_,_,_,_,rfl,_⟩:=h;rfl
def zy (_:PySem.W.Frag):Sp:=fun vs H Q _=> ∃(y:List Nat) (d e:Addr) (ws vs':List (List Nat)) (os ps:List Od),vs=[.str (S y), .ref d, .ref e]/\Yd y/\y.length<=8/\Good y ws (os.map bj)/\Good y vs' (ps.map bj)/\eK H d ws os/\eK H e vs' ps/\
 (ws.map aL≠vs'.map aL-> ∀H',ai H H'->Q .ck H')/\(ws.map aL=vs'.map aL->pT H Q (fun es=>Path y ws (os.map bj) es/\dS y ws (os.map bj) es=(vs',ps.map bj)) 50000)
theorem Du {K:PySem.W.Frag} {vs:List V} {H:Hp} {Q:VK} {E:XK} (h:zy K vs H Q E):vs.length=3:=by obtain ⟨_,_,_,_,_,_,_,rfl,_⟩:=h;rfl
theorem eF (ds:List Dd) (x:Dd):dJ ds++[V.ref x.a]=dJ (ds++[x]):=by unfold dJ;rw[List.map_append];rfl
theorem nV (a b:List Dd):dJ a++dJ b=dJ (a++b):=by unfold dJ;rw[List.map_append]
structure hU (H0 H:Hp) (t:Addr) (ds:List Dd):Prop where
 ls:H t=some (.lst (dJ ds))
 de: ∀x∈ds,eV H x.a x.e
 sm:ai H0 H
theorem hU.push {H0 H H1:Hp} {t a:Addr} {ds:List Dd} {e:eE} (h:hU H0 H t ds) (n:H0 t=none) (s:ai H H1) (ha:eV H1 a e):hU H0 (upd H1 t (.lst (dJ (ds++[⟨a,e⟩])))) t (ds++[⟨a,e⟩]):=by
 have ht:=s _ _ h.ls
 have tU:=aJ.fL (o:=HO.lst (dJ (ds++[⟨a,e⟩]))) ht
 refine ⟨ae,fun x hx=>?_,fun x o ex=>by rw[aq (ak ex n)];exact s _ _ (h.sm _ _ ex)⟩
 rcases List.mem_append.mp hx with g | g
 ·exact ((h.de x g).ts (aJ.of s)).ts tU
 ·rw[List.mem_singleton.mp g];exact ha.ts tU
theorem hU.same {H0 H H1:Hp} {t:Addr} {ds:List Dd} (h:hU H0 H t ds) (s:ai H H1):hU H0 H1 t ds:=⟨s _ _ h.ls,fun x hx=>(h.de x hx).ts (aJ.of s),h.sm.trans s⟩
theorem v_: ∀(l st:List Nat) {x:Nat},x∈l.foldl cD st->x∈st\/x∈l
 | [],_,_,h=> .inl h
 | a::l,st,x,h=>by
  rcases v_ l (cD st a) h with g | g
  ·rcases rP g with g | g
   ·exact .inl g
   ·exact .inr (by rw[g];exact List.mem_cons_self)
  ·exact .inr (List.mem_cons_of_mem _ g)
theorem FN {w:List Nat} {x:Nat} (h:x∈red w):x∈w:=(v_ w [] h).resolve_left List.not_mem_nil
theorem pW (c:Nat): ∀l:List Nat,(pS c l).length=2*l.length
 | []=>rfl
 | a::l=>by show (pS c l).length+1+1=2*(l.length+1);rw[pW c l];omega
theorem wa (a:Addr) (c:Nat): ∀n:Nat,(List.replicate n [V.ref a]).flatten=dJ (List.replicate n ⟨a, .turn c⟩)
 | 0=>rfl
 | n+1=>by rw[List.replicate_succ,List.flatten_cons,wa a c n,List.replicate_succ];rfl
theorem Dv (p q:Nat×Nat):PyData.eqv (pF p) (pF q)=decide (p=q):=by
 obtain ⟨a,b⟩:=p
 obtain ⟨c,d⟩:=q
 show (decide ((a:Int)=(c:Int))&&(decide ((b:Int)=(d:Int))&&true))=_
 by_cases h1:a=c
 ·by_cases h2:b=d
  ·subst h1;subst h2;simp
  ·rw[decide_eq_false (show ¬(b:Int)=(d:Int) by omega),decide_eq_false (show ¬(a,b)=(c,d) from fun z=>h2 (Prod.mk.inj z).2)];simp
 ·rw[decide_eq_false (show ¬(a:Int)=(c:Int) by omega),decide_eq_false (show ¬(a,b)=(c,d) from fun z=>h1 (Prod.mk.inj z).1)];simp
theorem Bi {l:List (Nat×Nat)} {p:Nat×Nat}:p∈l-> ∃j:Nat,l[j]? =some p/\ ∀(m:Nat) (e:Nat×Nat),m<j->l[m]? =some e->e≠p:=by
 intro h
 refine ⟨l.idxOf p,?_,fun m e hm he z=>?_⟩
 ·have:=List.idxOf_lt_length_of_mem h
  rw[List.getElem?_eq_getElem this,List.getElem_idxOf this]
 ·have:=List.not_of_lt_findIdx (p:=fun x=>x==p) hm
  have JY:=(List.getElem?_eq_some_iff.mp he).1
  rw[z]at he
  have e2:=(List.getElem?_eq_some_iff.mp he).2
  rw[e2]at this
  simp at this
theorem NM {α:Type} {l:List α} {i j:Nat} {x:α} (uZ:i<=j) (hj:l[j]? =some x):l=l.take i++(l.drop i).take (j - i)++x::l.drop (j+1)/\(l.eraseIdx j).take i++x::(l.eraseIdx j).drop i=l.take i++x::(l.drop i).take (j - i)++l.drop (j+1):=by
 have BP:=(List.getElem?_eq_some_iff.mp hj).1
 have e1:l.drop j=x::l.drop (j+1):=by
  rw[List.drop_eq_getElem_cons BP]
  congr 1
  exact (List.getElem?_eq_some_iff.mp hj).2
 have e2:l.drop i=(l.drop i).take (j - i)++l.drop j:=by
  have:=(List.take_append_drop (j - i) (l.drop i)).symm
  rwa [List.drop_drop,show i+(j - i)=j by omega]at this
 have e3:l=l.take i++(l.drop i).take (j - i)++x::l.drop (j+1):=by
  conv=>lhs;rw[<-List.take_append_drop i l,e2,e1]
  rw[List.append_assoc]
 refine ⟨e3,?_⟩
 have hlen:(l.take i++(l.drop i).take (j - i)).length=j:=by rw[List.length_append,List.length_take,List.length_take,List.length_drop];omega
 have e4:l.eraseIdx j=l.take i++(l.drop i).take (j - i)++l.drop (j+1):=by
  conv=>lhs;rw[e3]
  rw[List.eraseIdx_append_of_length_le (by omega),hlen,Nat.sub_self]
  rfl
 rw[e4]
 have Tj:(l.take i).length=i:=by rw[List.length_take];omega
 rw[List.append_assoc,List.take_append_of_le_length (by omega),List.take_of_length_le (by omega),List.drop_append_of_le_length (by omega),List.drop_of_length_le (by omega)]
 simp
theorem x9 (place j:Nat):iS place (j+1)=iS place j++[place - 1 - j]:=by unfold iS;rw[List.range_succ,List.map_append];rfl
theorem sj (place j:Nat):(iS place j).length=j:=by unfold iS;rw[List.length_map,List.length_range]
theorem ku {α β:Type} (f:α->β): ∀(l:List α) (i:Nat),(l.map f).eraseIdx i=(l.eraseIdx i).map f
 | [],_=>rfl
 | _::_,0=>rfl
 | x::l,i+1=>by show f x::(l.map f).eraseIdx i=f x::(l.eraseIdx i).map f;rw[ku f l i]
noncomputable def fO (cur:List Pr) (i j:Nat) (p:Pr):List Pr:=(cur.eraseIdx j).take i++p::(cur.eraseIdx j).drop i
theorem wb (cur:List Pr) (i j:Nat) (p:Pr):((bS cur).eraseIdx j).take i++V.ref p.t::((bS cur).eraseIdx j).drop i=bS (fO cur i j p):=by
 unfold bS fO
 rw[ku,List.map_append,List.map_cons,List.map_take,List.map_drop]
theorem uv (cur:List Pr) (i j:Nat) (p:Pr):(fO cur i j p).map Pr.pair=((cur.map Pr.pair).eraseIdx j).take i++p.pair::((cur.map Pr.pair).eraseIdx j).drop i:=by
 unfold fO
 rw[ku,List.map_append,List.map_cons,List.map_take,List.map_drop]
theorem wc {cur:List Pr} {i j:Nat} {p q:Pr} (hp:p∈cur) (h:q∈fO cur i j p):q∈cur:=by
 unfold fO at h
 rcases List.mem_append.mp h with g | g
 ·exact List.mem_of_mem_eraseIdx (List.mem_of_mem_take g)
 ·rcases List.mem_cons.mp g with g | g
  ·rw[g];exact hp
  ·exact List.mem_of_mem_eraseIdx (List.mem_of_mem_drop g)
theorem zA {α:Type} {a b:List α} {j:Nat} {x:α} (ha:j<=a.length) (hb:b[j]? =some x):(a.take j++b.drop j)[j]? =some x:=by
 have hl:(a.take j).length=j:=by rw[List.length_take];omega
 rw[List.getElem?_append_right (by omega),hl,Nat.sub_self,List.getElem?_drop,Nat.add_zero]
 exact hb
theorem zB {α:Type} {a b:List α} {j:Nat} {x:α} (hb:j<b.length) (ha:a[j]? =some x):(a.take j++b.drop j).set j x=a.take (j+1)++b.drop (j+1):=by
 have hj:=(List.getElem?_eq_some_iff.mp ha).1
 have hl:(a.take j).length=j:=by rw[List.length_take];omega
 rw[List.set_append_right _ _ (by omega),hl,Nat.sub_self,List.drop_eq_getElem_cons hb,List.set_cons_zero,List.take_succ,ha]
 simp
theorem hU.ext {H0 H H1:Hp} {t b:Addr} {ds es:List Dd} (h:hU H0 H t ds) (n:H0 t=none) (s:ai H H1) (he: ∀x∈es,eV H1 x.a x.e):hU H0 (upd H1 t (.lst (dJ (ds++es)))) t (ds++es):=by
 have ht:=s _ _ h.ls
 have tU:=aJ.fL (o:=HO.lst (dJ (ds++es))) ht
 refine ⟨ae,fun x hx=>?_,fun x o ex=>by rw[aq (ak ex n)];exact s _ _ (h.sm _ _ ex)⟩
 rcases List.mem_append.mp hx with g | g
 ·exact ((h.de x g).ts (aJ.of s)).ts tU
 ·exact (he x g).ts tU
theorem zC {os:List Od} {i:Nat} {o:Od} (h:os[i]? =some o):(mX os)[i]? =some (V.ref o.o):=by unfold mX;rw[List.getElem?_map,h];rfl
theorem Dx {ws:List (List Nat)} {i:Nat} {w:List Nat} (h:ws[i]? =some w):(bw ws)[i]? =some (V.str (S w)):=by unfold bw;rw[List.getElem?_map,h];rfl
structure Dw where
 a:Addr
 ws:List (List Nat)
 os:List Od
structure abb (y:List Nat) (rs:List (List Nat)) (H:Hp) (d:Dw):Prop where
 dr:eK H d.a d.ws d.os
 gd:Good y d.ws (d.os.map bj)
 ne:d.ws≠[]
 rg:d.ws.map aL=rs
theorem eK.ts3 {H H':Hp} {dr:Addr} {ws:List (List Nat)} {os:List Od} (h:eK H dr ws os) (s:aJ H H'):eK H' dr ws os:=by
 obtain ⟨⟨wt,ot,h1,h2,h3⟩,g⟩:=h
 exact ⟨⟨wt,ot,s _ _ h1,s _ _ h2,s _ _ h3⟩,fun o ho=>(g o ho).ts s⟩
noncomputable def Kh (ws:List (List Nat)) (L:fN):PyData:= .tuple [.tuple (kl ws), .tuple (L.map fun l=> .tuple (l.map pF))]
theorem zD (os:List Od):os.map Qm=(os.map bj).map fun l=>PyData.tuple (l.map pF):=by rw[List.map_map];rfl
theorem zE {K:PySem.W.Frag} {H:Hp} {dr:Addr} {ws:List (List Nat)} {os:List Od} (h:eK H dr ws os):qE K H (.ref dr) (Kh ws (os.map bj)):=by
 obtain ⟨⟨wt,ot,h1,h2,h3⟩,hO⟩:=h
 unfold Kh
 rw[<-zD]
 exact .tup (aW.of h1) (.cons (.tup (aW.of h2) (ft _)) (.cons (.tup (aW.of h3) (vT hO)) .nil))
theorem Dy {y:List Nat} {H:Hp} {dr:Addr} {ws:List (List Nat)} {os:List Od} (hy:Yd y) (hz:y.length<=8) (h:eK H dr ws os) (g:Good y ws (os.map bj)):oQ 40 100000 (Kh ws (os.map bj)):=by
 unfold Kh
 rw[<-zD]
 have Bd:=cZ hy
 have hl:=g.ln
 rw[List.length_map]at hl
 exact NB (fun w hw=>⟨fun c hc=>(hy.lt c ((g.jm w hw).1 c hc)).lt,(g.jm w hw).2⟩) g.g7 h.od (by omega)
theorem zF: ∀L:fN,PyData.hasDictAll (L.map fun l=>PyData.tuple (l.map pF))=false
 | []=>rfl
 | l::L=>by show (PyData.hasDictAll (l.map pF)||PyData.hasDictAll (L.map _))=false;rw[pG l,zF L];rfl
theorem pX: ∀ws:List (List Nat),PyData.hasDictAll (kl ws)=false
 | []=>rfl
 | w::ws=>by show (PyData.hasDict (.str _)||PyData.hasDictAll (kl ws))=false;rw[pX ws];rfl
theorem zG (ws:List (List Nat)) (L:fN):(Kh ws L).hasDict=false:=by
 show (PyData.hasDictAll (kl ws)||(PyData.hasDictAll (L.map _)||false))=false
 rw[pX,zF];rfl
theorem gix {α:Type} {l:List α} (h:l.Nodup) {i j:Nat} (hi:i<l.length) (hj:j<l.length) (e:l[i]=l[j]):i=j:=by
 have hp:=List.pairwise_iff_getElem.mp h
 rcases Nat.lt_trichotomy i j with z | z | z
 ·exact absurd e (hp i j hi hj z)
 ·exact z
 ·exact absurd e.symm (hp j i hj hi z)
theorem Bj {l:List (Nat×Nat×Nat)} (h:l.Nodup) {n:Nat} {p:Nat×Nat×Nat} (e:l[n]? =some p):l.idxOf p=n:=by
 obtain ⟨hn,e2⟩:=List.getElem?_eq_some_iff.mp e
 have hm:p∈l:=List.mem_of_getElem? e
 have hi:=List.idxOf_lt_length_of_mem hm
 exact gix h hi hn ((List.getElem_idxOf hi).trans e2.symm)
theorem pY {α:Type} {f:Nat->List α} (g:α->Nat): ∀{l:List Nat},l.Nodup->(∀e∈l,(f e).Nodup)->(∀e∈l, ∀p∈f e,g p=e)->(l.flatMap f).Nodup
 | [],_,_,_=>List.nodup_nil
 | a::l,hn,h1,h2=>by
  obtain ⟨n1,n2⟩:=List.nodup_cons.mp hn
  rw[List.flatMap_cons,List.nodup_append]
  refine ⟨h1 a List.mem_cons_self,pY g n2 (fun e he=>h1 e (List.mem_cons_of_mem _ he)) (fun e he=>h2 e (List.mem_cons_of_mem _ he)),fun x hx y hy z=>?_⟩
  subst z
  obtain ⟨e,he,Te⟩:=List.mem_flatMap.mp hy
  have g1:=h2 a List.mem_cons_self x hx
  have g2:=h2 e (List.mem_cons_of_mem _ he) x Te
  exact n1 (by rw[<-g1,g2];exact he)
theorem Dz (band c:Nat) (w:List Nat) (n:Nat):(dX band c w n).Nodup:=by
 unfold dX
 show (List.map _ _).Pairwise (· ≠ ·)
 rw[List.pairwise_map]
 exact (List.nodup_range.filter _).imp fun {i j} h z=>h (by cases z;rfl)
theorem so (band:Nat) (ws:List (List Nat)) (n:Nat):(bt band ws n).Nodup:=
 pY Prod.fst List.nodup_range (fun c _=>Dz _ _ _ _) fun c _ p hp=>by
  unfold dX at hp
  obtain ⟨i,_,rfl⟩:=List.mem_map.mp hp
  rfl
theorem x_ {band c i n:Nat} {ws:List (List Nat)} (hc:c<n) (hi:i<(ws.getD c []).length) (hb:uO band ((ws.getD c []).getD i 0)=true):(c,i)∈bt band ws n:=
 List.mem_flatMap.mpr ⟨c,List.mem_range.mpr hc,List.mem_map.mpr ⟨i,List.mem_filter.mpr ⟨List.mem_range.mpr hi,hb⟩,rfl⟩⟩
theorem lj.at {y:List Nat} {ws:List (List Nat)} {os:List Od} {e:Nat} (h:Yd y) (ho:lj y ws os) (he:e∈y):(((rY y os e).map Pr.pair)).Perm (bt (PyProof.Rows.lo1 e) ws ws.length):=by
 have hl:=cZ h
 have wY:=ho.1
 obtain ⟨o,o1,o2,o3⟩:=lh (os:=os) h he (by omega)
 have hm:=rX h he
 have hb:(aC y)[(aC y).idxOf (PyProof.Rows.lo1 e)]? =some (PyProof.Rows.lo1 e):=by
  have hi:=List.idxOf_lt_length_of_mem hm
  rw[List.getElem?_eq_getElem hi,List.getElem_idxOf hi]
 have p:=ho.2 _ o _ o2 hb
 unfold rY
 rw[o3]
 split
 ·rw[List.map_reverse]
  exact (List.reverse_perm _).trans p
 ·exact p
theorem Ki {y:List Nat} {ws:List (List Nat)} {os:List Od} (h:Yd y) (ho:lj y ws os):(qK y os).Nodup:=by
 refine pY (fun p=>p.2.2) h.nd (fun e he=>?_) fun e _ p hp=>?_
 ·have hn:=(ho.at h he).nodup_iff.mpr (so _ _ _)
  have e1:pA y os e=((rY y os e).map Pr.pair).map fun x=>(x.1,x.2,e):=by unfold pA;rw[List.map_map];rfl
  rw[e1]
  show (List.map _ _).Pairwise (· ≠ ·)
  rw[List.pairwise_map]
  exact hn.imp fun {a b} g z=>g (by cases a;cases b;cases z;rfl)
 ·unfold pA at hp
  obtain ⟨x,_,rfl⟩:=List.mem_map.mp hp
  rfl
theorem G8 {y:List Nat} {ws:List (List Nat)} {os:List Od} {c i l e:Nat} {w:List Nat} (h:Yd y) (ho:lj y ws os) (hw:ws[c]? =some w) (hl:w[i]? =some l) (Tn:l∈y) (he:e=l\/e=bb l):(c,i,e)∈qK y os:=by
 have cy:=h.lt l Tn
 have Kj:e∈y:=by rcases he with rfl | rfl;exact Tn;exact h.cl l Tn
 have e1:PyProof.Rows.lo1 e=PyProof.Rows.lo1 l:=by
  rcases he with rfl | rfl
  ·rfl
  ·rcases cy with g | g
   ·rw[(bQ _ (br l g).2.2).2.1,(br l g).2.1,bB (.inl g)]
   ·rw[(br _ (bQ l g).2.2.2).2.1,(bQ l g).2.1]
 have hb:PyProof.Rows.lo1 l∈bg:=by
  rcases cy with g | g
  ·rw[(br l g).2.1];exact g
  ·rw[(bQ l g).2.1];exact (bQ l g).2.2.2
 have LV:uO (PyProof.Rows.lo1 l) l=true:=by rw[<-ui hb cy];exact decide_eq_true rfl
 have d1:ws.getD c []=w:=by rw[List.getD_eq_getElem?_getD,hw];rfl
 have d2:w.getD i 0=l:=by rw[List.getD_eq_getElem?_getD,hl];rfl
 have hm:(c,i)∈(rY y os e).map Pr.pair:=by
  rw[(ho.at h Kj).mem_iff,e1]
  exact x_ (List.getElem?_eq_some_iff.mp hw).1 (by rw[d1];exact (List.getElem?_eq_some_iff.mp hl).1) (by rw[d1,d2];exact LV)
 obtain ⟨p,hp,ep⟩:=List.mem_map.mp hm
 refine List.mem_flatMap.mpr ⟨e,Kj,List.mem_map.mpr ⟨p,hp,?_⟩⟩
 have e2:p.c=c:=congrArg Prod.fst ep
 have e3:p.i=i:=congrArg Prod.snd ep
 rw[e2,e3]
noncomputable def qO (p:Nat×Nat×Nat):List Key:=[Sum.inl (p.1:Int),Sum.inl (p.2.1:Int),Sum.inr (S [p.2.2])]
theorem DA {p q:Nat×Nat×Nat} (h:qO p=qO q):p=q:=by
 unfold qO at h
 injection h with h1 h2
 injection h2 with h2 h3
 injection h3 with h3 _
 have a1:(p.1:Int)=q.1:=Sum.inl.inj h1
 have a2:(p.2.1:Int)=q.2.1:=Sum.inl.inj h2
 have a3:[p.2.2]=[q.2.2]:=by
  have:=Sum.inr.inj h3
  rw[<-dR [p.2.2],this,dR]
 have a4:p.2.2=q.2.2:=by simpa using a3
 exact Prod.ext (by omega) (Prod.ext (by omega) a4)
def Nums (ps:List (Nat×Nat×Nat)) (kvs:List (List Key×V)) (n:Nat):Prop:= ∀p∈ps.take n,cV kvs (qO p)=some (.int (ps.idxOf p:Nat))
theorem Nums.put {ps:List (Nat×Nat×Nat)} {kvs:List (List Key×V)} {n:Nat} {p:Nat×Nat×Nat} (h:Nums ps kvs n) (hn:ps.Nodup) (e:ps[n]? =some p):Nums ps (putK kvs (qO p) (.int (n:Nat))) (n+1):=fun r hr=>by
 rw[CC]
 by_cases z:r=p
 ·rw[if_pos (by rw[z]),z,Bj hn e]
 ·rw[if_neg fun g=>z (DA g)]
  rw[<-take_snoc e]at hr
  exact h r ((List.mem_append.mp hr).resolve_right fun g=>z (List.mem_singleton.mp g))
noncomputable def zH (n i:Nat):Nat:=if i=0 then n - 1 else i - 1
theorem DB {n i:Nat} (h:i<n):zH n i<n:=by unfold zH;split<;>omega
theorem FO {n i:Nat} (h:i<n):((i:Int) - 1)%(n:Int)=((zH n i:Nat):Int):=by
 unfold zH
 split
 ·rename_i z
  subst z
  have:((0:Nat):Int) - 1+(n:Int)=((n - 1:Nat):Int):=by omega
  rw[<-Int.add_emod_right,this]
  exact Int.emod_eq_of_lt (by omega) (by omega)
 ·have:(i:Int) - 1=((i - 1:Nat):Int):=by omega
  rw[this]
  exact Int.emod_eq_of_lt (by omega) (by omega)
noncomputable abbrev C4:=Nat×Nat×Nat×Nat
noncomputable def zI (ps:List (Nat×Nat×Nat)) (c:Nat) (w:List Nat) (i:Nat):C4:=(c,i,ps.idxOf (c,zH w.length i,bb (w.getD (zH w.length i) 0)),ps.idxOf (c,i,w.getD i 0))
noncomputable def kx (ps:List (Nat×Nat×Nat)) (c:Nat) (w:List Nat) (n:Nat):List C4:=(List.range n).map (zI ps c w)
noncomputable def gL (ps:List (Nat×Nat×Nat)) (ws:List (List Nat)) (n:Nat):List C4:=(List.range n).flatMap fun c=>kx ps c (ws.getD c []) (ws.getD c []).length
theorem we (ps:List (Nat×Nat×Nat)) (c:Nat) (w:List Nat) (n:Nat):kx ps c w (n+1)=kx ps c w n++[zI ps c w n]:=by unfold kx;rw[List.range_succ,List.map_append];rfl
theorem lH {ps:List (Nat×Nat×Nat)} {ws:List (List Nat)} {i:Nat} {w:List Nat} (h:ws[i]? =some w):gL ps ws (i+1)=gL ps ws i++kx ps i w w.length:=by
 have e:ws.getD i []=w:=by rw[List.getD_eq_getElem?_getD,h];rfl
 unfold gL
 rw[List.range_succ,List.flatMap_append]
 congr 1
 rw[List.flatMap_cons,List.flatMap_nil,List.append_nil,e]
def lt2 (x y:C4):Prop:=x.1<y.1\/(x.1=y.1/\x.2.1<y.2.1)
theorem wg {ps:List (Nat×Nat×Nat)} {ws:List (List Nat)} {n:Nat} {x:C4} (h:x∈gL ps ws n):x.1<n/\x.2.1<(ws.getD x.1 []).length:=by
 obtain ⟨c,hc,hx⟩:=List.mem_flatMap.mp h
 obtain ⟨i,hi,rfl⟩:=List.mem_map.mp hx
 exact ⟨List.mem_range.mp hc,List.mem_range.mp hi⟩
noncomputable def BR (lo hi x:Int):Bool:=decide (lo<x)&&decide (x<hi)
noncomputable def NN (p q r s:Int):Bool:=!decide (BR (if q<p then q else p) (if q>p then q else p) r=BR (if q<p then q else p) (if q>p then q else p) s)
noncomputable def meets (x y:C4):Bool:=NN x.2.2.1 x.2.2.2 y.2.2.1 y.2.2.2
noncomputable def fP (x:C4) (rs:List C4):List C4:=(rs.filter (meets x)).map fun r=>(x.1,x.2.1,r.1,r.2.1)
noncomputable def iE (cs:List C4) (n:Nat):List C4:=(List.range n).flatMap fun k=>fP (cs.getD k (0,0,0,0)) (cs.drop (k+1))
theorem uw {x r:C4} {rs:List C4} {j:Nat} (h:rs[j]? =some r):fP x (rs.take (j+1))=fP x (rs.take j)++if meets x r=true then [(x.1,x.2.1,r.1,r.2.1)] else []:=by
 unfold fP
 rw[<-take_snoc h,List.filter_append,List.map_append]
 congr 1
 by_cases z:meets x r=true
 ·rw[if_pos z,List.filter_cons_of_pos z];rfl
 ·rw[if_neg z,List.filter_cons_of_neg z];rfl
theorem lI {cs:List C4} {k:Nat} {x:C4} (h:cs[k]? =some x):iE cs (k+1)=iE cs k++fP x (cs.drop (k+1)):=by
 have e:cs.getD k (0,0,0,0)=x:=by rw[List.getD_eq_getElem?_getD,h];rfl
 unfold iE
 rw[List.range_succ,List.flatMap_append]
 congr 1
 rw[List.flatMap_cons,List.flatMap_nil,List.append_nil,e]
noncomputable def r4 (x:C4):List Int:=[x.1,x.2.1,x.2.2.1,x.2.2.2]
theorem wj {x y:C4} {rs:List C4} (h:y∈fP x rs): ∃r∈rs,y=(x.1,x.2.1,r.1,r.2.1):=by
 obtain ⟨r,hr,rfl⟩:=List.mem_map.mp h
 exact ⟨r,(List.mem_filter.mp hr).1,rfl⟩
structure Q4 where
 t:Addr
 v:C4
noncomputable def pZ (qs:List Q4):List V:=qs.map fun q=>V.ref q.t
theorem lJ (qs:List Q4):(pZ qs).length=qs.length:=by unfold pZ;rw[List.length_map]
theorem wm (a:List Q4) (q:Q4):pZ a++[V.ref q.t]=pZ (a++[q]):=by unfold pZ;rw[List.map_append];rfl
theorem DC {qs:List Q4} {i:Nat} {x:V} (h:(pZ qs)[i]? =some x): ∃q,qs[i]? =some q/\x=V.ref q.t:=by
 unfold pZ at h
 rw[List.getElem?_map]at h
 cases e:qs[i]? with
 | none=>rw[e]at h;cases h
 | some p=>rw[e]at h;cases h;exact ⟨p,rfl,rfl⟩
def lK (H:Hp) (q:Q4):Prop:=H q.t=some (.tup [.int q.v.1, .int q.v.2.1, .int q.v.2.2.1, .int q.v.2.2.2])
theorem lK.ts {H H':Hp} {q:Q4} (h:lK H q) (s:aJ H H'):lK H' q:=s _ _ h
noncomputable def qD (x:C4):PyData:= .tuple [.int x.1, .int x.2.1, .int x.2.2.1, .int x.2.2.2]
theorem uz {K:PySem.W.Frag} {H:Hp}: ∀{qs:List Q4},(∀q∈qs,lK H q)->gQ K H (pZ qs) ((qs.map Q4.v).map qD)
 | [],_=> .nil
 | q::qs,h=> .cons (.tup (aW.of (h q List.mem_cons_self)) (.cons (.int _) (.cons (.int _) (.cons (.int _) (.cons (.int _) .nil))))) (uz fun r hr=>h r (List.mem_cons_of_mem _ hr))
theorem oQ.FP {k:Nat} {i:Nat} (h:i<16):oQ k 4 (.int i):=by
 have e:oQ k 40 (.int (i:Int)):= .int (by omega) (by decide)
 refine ⟨e.lv,e.sh,e.ly,e.dp,?_⟩
 show (if (i:Int)==0 then 0 else (i:Int).natAbs.log2+1)<=4
 have: ∀j<16,(if ((j:Nat):Int)==0 then 0 else ((j:Nat):Int).natAbs.log2+1)<=4:=by decide+kernel
 exact this i h
theorem NO {ns:List C4} (h: ∀x∈ns,x.1<16/\x.2.1<16/\x.2.2.1<16/\x.2.2.2<16) (hz:ns.length<=4000):oQ 40 100000 (.list (ns.map qD)):=by
 refine .lst (.all (a:=20) (fun x hx=>?_) (by rw[List.length_map];omega))
 obtain ⟨q,hq,rfl⟩:=List.mem_map.mp hx
 obtain ⟨h1,h2,h3,h4⟩:=h q hq
 exact .tup (.cons (a:=4) (b:=15) (oQ.FP h1) (.cons (a:=4) (b:=10) (oQ.FP h2) (.cons (a:=4) (b:=5) (oQ.FP h3) (.cons (a:=4) (b:=0) (oQ.FP h4) .nil (by decide)) (by decide)) (by decide)) (by decide))
noncomputable def dM (y:List Nat) (ws:List (List Nat)) (os:List Od):List C4:=gL (qK y os) ws ws.length
noncomputable def Bk (y:List Nat) (ws:List (List Nat)) (os:List Od):List C4:=iE (dM y ws os) (dM y ws os).length
theorem m7 {y:List Nat} {ws:List (List Nat)} {os:List Od} (h:iA y ws) {x:C4} (hx:x∈dM y ws os):x.1<16/\x.2.1<16:=by
 obtain ⟨h1,h2⟩:=wg hx
 have hf:=h.g7
 have e:ws.getD x.1 []=ws[x.1]:=by rw[List.getD_eq_getElem?_getD,List.getElem?_eq_getElem h1];rfl
 rw[e]at h2
 have:=(h.all _ (List.getElem_mem h1)).2
 exact ⟨by omega,by omega⟩
theorem m8 {ps:List (Nat×Nat×Nat)} {ws:List (List Nat)} (hw: ∀w∈ws,w.length<=12): ∀n,n<=ws.length->(gL ps ws n).length<=12*n
 | 0,_=>Nat.le_refl _
 | n+1,h=>by
  have hn:n<ws.length:=by omega
  rw[lH (List.getElem?_eq_getElem hn),List.length_append]
  have h1:=m8 (ps:=ps) hw n (by omega)
  have h3:=hw _ (List.getElem_mem hn)
  unfold kx
  rw[List.length_map,List.length_range]
  omega
theorem sq {y:List Nat} {ws:List (List Nat)} {os:List Od} (h:iA y ws):(dM y ws os).length<=48:=by
 have:=m8 (ps:=qK y os) (fun w hw=>(h.all w hw).2) ws.length (Nat.le_refl _)
 have:=h.g7
 unfold dM
 omega
theorem m9 {cs:List C4}: ∀n,n<=cs.length->(iE cs n).length<=cs.length*n
 | 0,_=>Nat.zero_le _
 | n+1,h=>by
  have hn:n<cs.length:=by omega
  rw[lI (List.getElem?_eq_getElem hn),List.length_append]
  have h1:=m9 n (by omega:n<=cs.length)
  have h2:(fP cs[n] (cs.drop (n+1))).length<=cs.length:=by
   unfold fP
   rw[List.length_map]
   exact Nat.le_trans (List.length_filter_le _ _) (by rw[List.length_drop];omega)
  rw[Nat.mul_succ]
  omega
theorem ya {y:List Nat} {ws:List (List Nat)} {os:List Od} (h:iA y ws): ∀x∈Bk y ws os,x.1<16/\x.2.1<16/\x.2.2.1<16/\x.2.2.2<16:=fun x hx=>by
 obtain ⟨k,hk,hxk⟩:=List.mem_flatMap.mp hx
 have Ao:=List.mem_range.mp hk
 obtain ⟨r,hr,rfl⟩:=wj hxk
 have e:(dM y ws os).getD k (0,0,0,0)=(dM y ws os)[k]:=by rw[List.getD_eq_getElem?_getD,List.getElem?_eq_getElem Ao];rfl
 rw[e]
 obtain ⟨a1,a2⟩:=m7 h (List.getElem_mem Ao)
 obtain ⟨b1,b2⟩:=m7 h (List.mem_of_mem_drop hr)
 exact ⟨a1,a2,b1,b2⟩
theorem DD {y:List Nat} {ws:List (List Nat)} {os:List Od} (h:iA y ws):(Bk y ws os).length<=2304:=by
 have h1:=m9 (cs:=dM y ws os) _ (Nat.le_refl _)
 have h2:=sq (os:=os) h
 have h3:(dM y ws os).length*(dM y ws os).length<=48*48:=Nat.mul_le_mul h2 h2
 exact Nat.le_trans h1 h3
theorem NP {y:List Nat} {os:List Od} {p:Pt} {ps:List Pt} (h:ps.map Pt.is=qK y os) {i:Nat} (hi:ps[i]? =some p):(qK y os)[i]? =some p.is:=by rw[<-h,List.getElem?_map,hi];rfl
def hV (_:PySem.W.Frag):Sp:=fun vs H Q _=> ∃(w:List Nat) (c i:Nat),vs=[.str (S w), .int c, .int i]/\(∀l∈w,l<128)/\i<w.length/\w.length<=1000/\ ∀(t t1 t2:Addr) (H':Hp),H' t=some (.tup [.ref t1, .ref t2])->H' t1=some (.tup ((qO (c,zH w.length i,bb (w.getD (zH w.length i) 0))).map kV))->H' t2=some (.tup ((qO (c,i,w.getD i 0)).map kV))->ai H H'->Q (.ref t) H'
theorem lL {K:PySem.W.Frag} {vs:List V} {H:Hp} {Q:VK} {E:XK} (h:hV K vs H Q E):vs.length=3:=by obtain ⟨c,_,_,rfl,_⟩:=h;rfl
def p_ (_:PySem.W.Frag):Sp:=fun vs H Q _=> ∃(y:List Nat) (dr:Addr) (ws:List (List Nat)) (os:List Od),vs=[.str (S y), .ref dr]/\Yd y/\y.length<=8/\iA y ws/\lj y ws os/\eK H dr ws os/\ ∀(q:Addr) (qs:List Q4) (H':Hp),H q=none->H' q=some (.lst (pZ qs))->(∀x∈qs,lK H' x)->qs.map Q4.v=dM y ws os->ai H H'->Q (.ref q) H'
theorem wq {K:PySem.W.Frag} {vs:List V} {H:Hp} {Q:VK} {E:XK} (h:p_ K vs H Q E):vs.length=2:=by obtain ⟨c,_,_,_,rfl,_⟩:=h;rfl
def iT (_:PySem.W.Frag):Sp:=fun vs H Q _=> ∃(a b:Q4),vs=[.ref a.t, .ref b.t]/\lK H a/\lK H b/\Q (.bl (meets a.v b.v)) H
theorem mC {K:PySem.W.Frag} {vs:List V} {H:Hp} {Q:VK} {E:XK} (h:iT K vs H Q E):vs.length=2:=by obtain ⟨c,_,rfl,_⟩:=h;rfl
def m_ (_:PySem.W.Frag):Sp:=fun vs H Q _=> ∃(y:List Nat) (dr:Addr) (ws:List (List Nat)) (os:List Od),vs=[.str (S y), .ref dr]/\Yd y/\y.length<=8/\iA y ws/\lj y ws os/\eK H dr ws os/\ ∀(q:Addr) (qs:List Q4) (H':Hp),H q=none->H' q=some (.lst (pZ qs))->(∀x∈qs,lK H' x)->qs.map Q4.v=Bk y ws os->ai H H'->Q (.ref q) H'
theorem uA {K:PySem.W.Frag} {vs:List V} {H:Hp} {Q:VK} {E:XK} (h:m_ K vs H Q E):vs.length=2:=by obtain ⟨c,_,_,_,rfl,_⟩:=h;rfl
structure abc (ps:List (Nat×Nat×Nat)) (kvs:List (List Key×V)) (n:Nat):Prop where
 told:Nums ps kvs n
 no: ∀p,p∉ps.take n->cV kvs (qO p)=none
 len:kvs.length=n
theorem jn: ∀n,n<30->(46∉dg n)/\32∉dg n/\10∉dg n/\(dg n).length<=3:=by decide+kernel
theorem DE: ∀n,n<30-> ∀m,m<30->dg n=dg m->n=m:=by decide+kernel
noncomputable def stx (p:Nat×Nat):List Nat:=dg p.1++46::dg p.2
def qP (p:Nat×Nat):Prop:=p.1<30/\p.2<30
theorem FQ {p q:Nat×Nat} (hp:qP p) (hq:qP q) (h:stx p=stx q):p=q:=by
 have e:=congrArg (kh 46) h
 unfold stx at e
 rw[nR _ (jn _ hp.1).1,nR _ (jn _ hq.1).1,kX (jn _ hp.2).1,kX (jn _ hq.2).1]at e
 simp only[List.cons.injEq,and_true]at e
 exact Prod.ext (DE _ hp.1 _ hq.1 e.1) (DE _ hp.2 _ hq.2 e.2)
theorem DF {p:Nat×Nat} (hp:qP p):32∉stx p/\10∉stx p/\(stx p).length<=7:=by
 obtain ⟨_,a2,a3,a4⟩:=jn _ hp.1
 obtain ⟨_,b2,b3,b4⟩:=jn _ hp.2
 unfold stx
 refine ⟨fun z=>?_,fun z=>?_,by rw[List.length_append,List.length_cons];omega⟩
 ·rcases List.mem_append.mp z with g | g
  ·exact a2 g
  ·rcases List.mem_cons.mp g with g | g
   ·cases g
   ·exact b2 g
 ·rcases List.mem_append.mp z with g | g
  ·exact a3 g
  ·rcases List.mem_cons.mp g with g | g
   ·cases g
   ·exact b3 g
noncomputable def jo:List Nat:=[99,111,114,100]
noncomputable def fA:List Nat:=[98,97,110,100]
noncomputable def c_ (w:List Nat):List Nat:=if w=[] then [45] else w
noncomputable def gr (w:List Nat):List Nat:=fo 32 [jo,c_ w]
noncomputable def cP (b:Nat) (ps:List (Nat×Nat)):List (List Nat):=fA::[b]::ps.map stx
noncomputable def eN (b:Nat) (ps:List (Nat×Nat)):List Nat:=fo 32 (cP b ps)
noncomputable def rowsOf (y:List Nat) (ws:List (List Nat)) (os:List (List (Nat×Nat))):List (List Nat):=ws.map gr++List.zipWith eN (aC y) os
noncomputable def textOf (y:List Nat) (ws:List (List Nat)) (os:List (List (Nat×Nat))):List Nat:=fo 10 (rowsOf y ws os)
theorem wu: ∀c∈bg++kZ,c≠32/\c≠10/\c≠45:=by decide+kernel
theorem mD {c d:Nat}: ∀{ps:List (List Nat)},d∈fo c ps->d=c\/ ∃p∈ps,d∈p
 | [],h=>by simp[fo]at h
 | [p],h=> .inr ⟨p,List.mem_cons_self,h⟩
 | p::q::r,h=>by
  have h':d∈p++c::fo c (q::r):=h
  rcases List.mem_append.mp h' with g | g
  ·exact .inr ⟨p,List.mem_cons_self,g⟩
  ·rcases List.mem_cons.mp g with g | g
   ·exact .inl g
   ·rcases mD g with g | ⟨x,hx,g⟩
    ·exact .inl g
    ·exact .inr ⟨x,List.mem_cons_of_mem _ hx,g⟩
theorem qc {w:List Nat} (h: ∀c∈w,Lt c):32∉c_ w/\10∉c_ w/\c_ w≠[]:=by
 unfold c_
 split
 ·exact ⟨by decide,by decide,by decide⟩
 ·rename_i hw
  exact ⟨fun z=>(wu _ (h _ z).mem).1 rfl,fun z=>(wu _ (h _ z).mem).2.1 rfl,hw⟩
theorem Bl {w:List Nat} (h: ∀c∈w,Lt c):kh 32 (gr w)=[jo,c_ w]:=kY (by simp) fun p hp=>by
 rcases List.mem_cons.mp hp with g | g
 ·rw[g];decide
 ·rw[List.mem_singleton.mp g];exact (qc h).1
theorem DG {w:List Nat} (h: ∀c∈w,Lt c):10∉gr w:=fun z=>by
 rcases mD z with g | ⟨p,hp,g⟩
 ·cases g
 ·rcases List.mem_cons.mp hp with e | e
  ·rw[e]at g;revert g;decide
  ·rw[List.mem_singleton.mp e]at g;exact (qc h).2.1 g
theorem qd {b:Nat} {ps:List (Nat×Nat)} (hb:Lt b) (h: ∀p∈ps,qP p): ∀x∈cP b ps,32∉x/\10∉x/\x.length<=7:=fun x hx=>by
 rcases List.mem_cons.mp hx with g | g
 ·rw[g];exact ⟨by decide,by decide,by decide⟩
 ·rcases List.mem_cons.mp g with g | g
  ·rw[g]
   exact ⟨fun z=>(wu _ hb.mem).1 (List.mem_singleton.mp z).symm,fun z=>(wu _ hb.mem).2.1 (List.mem_singleton.mp z).symm,by simp⟩
  ·obtain ⟨p,hp,rfl⟩:=List.mem_map.mp g
   exact DF (h p hp)
theorem sr {b:Nat} {ps:List (Nat×Nat)} (hb:Lt b) (h: ∀p∈ps,qP p):kh 32 (eN b ps)=cP b ps:=kY (by unfold cP;simp) fun x hx=>(qd hb h x hx).1
theorem DH {b:Nat} {ps:List (Nat×Nat)} (hb:Lt b) (h: ∀p∈ps,qP p):10∉eN b ps:=fun z=>by
 rcases mD z with g | ⟨p,hp,g⟩
 ·cases g
 ·exact (qd hb h p hp).2.1 g
theorem gs {k:Nat}: ∀{ps:List (List Nat)},(∀p∈ps,p.length<=k)->(ps.map List.length).sum<=k*ps.length
 | [],_=>Nat.zero_le _
 | p::ps,h=>by
  have ih:=gs (ps:=ps) (fun x hx=>h x (List.mem_cons_of_mem _ hx))
  have:=h p List.mem_cons_self
  rw[List.map_cons,List.sum_cons,List.length_cons,Nat.mul_succ]
  omega
theorem mE {b:Nat} {ps:List (Nat×Nat)} (hb:Lt b) (h: ∀p∈ps,qP p) (hz:ps.length<=100):(eN b ps).length<=1000:=by
 have h1:=mq 32 (cP b ps)
 have h2:=gs fun x hx=>(qd hb h x hx).2.2
 have h3:(cP b ps).length=ps.length+2:=by unfold cP;simp
 unfold eN
 omega
theorem su {w:List Nat} (h:w.length<=12):(gr w).length<=20:=by
 have e:gr w=jo++32::c_ w:=rfl
 rw[e]
 unfold c_ jo
 split<;>simp<;>omega
theorem mF {y:List Nat} {ws:List (List Nat)} (h:iA y ws) {b:Nat}: ∀p∈bt b ws ws.length,qP p:=fun p hp=>by
 unfold bt at hp
 obtain ⟨c,hc,hp⟩:=List.mem_flatMap.mp hp
 unfold dX at hp
 obtain ⟨i,hi,rfl⟩:=List.mem_map.mp hp
 have h1:=List.mem_range.mp hc
 have h2:=List.mem_range.mp (List.mem_filter.mp hi).1
 have h3:(ws.getD c []).length<=12:=by
  rw[List.getD_eq_getElem?_getD,List.getElem?_eq_getElem h1]
  exact (h.all _ (List.getElem_mem h1)).2
 have:=h.g7
 exact ⟨by show c<30;omega,by show i<30;omega⟩
structure Told (y:List Nat) (ws:List (List Nat)) (os:List (List (Nat×Nat))):Prop where
 yd:Yd y
 y2:2<=y.length
 y8:y.length<=8
 wo:iA y ws
 ol:os.length=(aC y).length
 pm: ∀(j:Nat) (o:List (Nat×Nat)) (b:Nat),os[j]? =some o->(aC y)[j]? =some b->o.Perm (bt b ws ws.length)
theorem Told.wl {y:List Nat} {ws:List (List Nat)} {os:List (List (Nat×Nat))} (h:Told y ws os): ∀w∈ws, ∀c∈w,Lt c:=fun w hw c hc=>h.yd.lt c ((h.wo.all w hw).1 c hc)
theorem Told.sm {y:List Nat} {ws:List (List Nat)} {os:List (List (Nat×Nat))} (h:Told y ws os) {j b:Nat} {o:List (Nat×Nat)} (e1:os[j]? =some o) (e2:(aC y)[j]? =some b): ∀p∈o,qP p:=fun p hp=>mF h.wo p ((h.pm j o b e1 e2).mem_iff.mp hp)
theorem Told.blt {y:List Nat} {ws:List (List Nat)} {os:List (List (Nat×Nat))} (h:Told y ws os) {b:Nat} (hb:b∈aC y):Lt b:= .inl (lq h.yd hb)
theorem Told.g7 {y:List Nat} {ws:List (List Nat)} {os:List (List (Nat×Nat))} (h:Told y ws os) {j b:Nat} {o:List (Nat×Nat)} (e1:os[j]? =some o) (e2:(aC y)[j]? =some b):o.length<=48:=by
 rw[(h.pm j o b e1 e2).length_eq]
 have:=gq b (fun w hw=>(h.wo.all w hw).2) ws.length (Nat.le_refl _)
 have:=h.wo.g7
 omega
theorem Kk {y:List Nat} {os:List (List (Nat×Nat))} {x:List Nat} (h:x∈List.zipWith eN (aC y) os): ∃(j b:Nat) (o:List (Nat×Nat)),os[j]? =some o/\(aC y)[j]? =some b/\x=eN b o:=by
 obtain ⟨j,hj,e⟩:=List.getElem_of_mem h
 rw[List.getElem_zipWith]at e
 rw[List.length_zipWith]at hj
 exact ⟨j,(aC y)[j],os[j],List.getElem?_eq_getElem (by omega),List.getElem?_eq_getElem (by omega),e.symm⟩
theorem Told.rows {y:List Nat} {ws:List (List Nat)} {os:List (List (Nat×Nat))} (h:Told y ws os): ∀x∈rowsOf y ws os,10∉x/\x.length<=1000:=fun x hx=>by
 rcases List.mem_append.mp hx with g | g
 ·obtain ⟨w,hw,rfl⟩:=List.mem_map.mp g
  exact ⟨DG (h.wl w hw),Nat.le_trans (su (h.wo.all w hw).2) (by decide)⟩
 ·obtain ⟨j,b,o,e1,e2,rfl⟩:=Kk g
  have hb:=h.blt (List.mem_of_getElem? e2)
  exact ⟨DH hb (h.sm e1 e2),mE hb (h.sm e1 e2) (Nat.le_trans (h.g7 e1 e2) (by decide))⟩
theorem Told.bl {y:List Nat} {ws:List (List Nat)} {os:List (List (Nat×Nat))} (h:Told y ws os):1<=os.length/\os.length<=4:=by
 have h1:=cZ h.yd
 have h2:=h.y2
 have h3:=h.y8
 rw[h.ol]
 omega
theorem jq {y:List Nat} {ws:List (List Nat)} {os:List (List (Nat×Nat))} (h:os.length=(aC y).length):(rowsOf y ws os).length=ws.length+os.length:=by unfold rowsOf;rw[List.length_append,List.length_map,List.length_zipWith];omega
theorem Told.kh {y:List Nat} {ws:List (List Nat)} {os:List (List (Nat×Nat))} (h:Told y ws os):L2.kh 10 (textOf y ws os)=rowsOf y ws os:=kY (fun z=>by
  have e:=jq (ws:=ws) h.ol
  have hb:=h.bl
  rw[z]at e
  simp only[List.length_nil]at e
  omega) fun x hx=>(h.rows x hx).1
theorem Told.To {y:List Nat} {ws:List (List Nat)} {os:List (List (Nat×Nat))} (h:Told y ws os):(textOf y ws os).length<=100000:=by
 have h1:=mq 10 (rowsOf y ws os)
 have h2:=gs fun x hx=>(h.rows x hx).2
 have h3:=jq (ws:=ws) h.ol
 have h4:=h.bl
 have h5:=h.wo.g7
 unfold textOf
 omega
noncomputable def nc (os:List Od):List (List (Nat×Nat)):=os.map fun o=>o.ps.map Pr.pair
theorem iF (os:List Od):(nc os).length=os.length:=by unfold nc;rw[List.length_map]
theorem Kl {os:List Od} {j:Nat} {o:Od} (h:os[j]? =some o):(nc os)[j]? =some (o.ps.map Pr.pair):=by unfold nc;rw[List.getElem?_map,h];rfl
theorem Told.of {y:List Nat} {ws:List (List Nat)} {os:List Od} (hy:Yd y) (h2:2<=y.length) (h8:y.length<=8) (hw:iA y ws) (ho:lj y ws os):Told y ws (nc os):=
 ⟨hy,h2,h8,hw,by rw[iF];exact ho.1,fun j o b e1 e2=>by
  unfold nc at e1
  rw[List.getElem?_map]at e1
  cases e:os[j]? with
  | none=>rw[e]at e1;cases e1
  | some o'=>rw[e]at e1;cases e1;exact ho.2 j o' b e e2⟩
def jr (_:PySem.W.Frag):Sp:=fun vs H Q _=> ∃p:Pr,vs=[.ref p.t]/\dF H p/\qP p.pair/\Q (.str (S (stx p.pair))) H
theorem nC {K:PySem.W.Frag} {vs:List V} {H:Hp} {Q:VK} {E:XK} (h:jr K vs H Q E):vs.length=1:=by obtain ⟨p,rfl,_⟩:=h;rfl
def ng (_:PySem.W.Frag):Sp:=fun vs H Q _=> ∃w:List Nat,vs=[.str (S w)]/\w.length<=12/\ ∀H',ai H H'->Q (.str (S (gr w))) H'
theorem uB {K:PySem.W.Frag} {vs:List V} {H:Hp} {Q:VK} {E:XK} (h:ng K vs H Q E):vs.length=1:=by obtain ⟨p,rfl,_⟩:=h;rfl
def nh (_:PySem.W.Frag):Sp:=fun vs H Q _=> ∃(b:Nat) (o:Od),vs=[.str (S [b]), .ref o.o]/\gp H o/\(∀p∈o.ps,qP p.pair)/\ ∀H',ai H H'->Q (.str (S (eN b (o.ps.map Pr.pair)))) H'
theorem uC {K:PySem.W.Frag} {vs:List V} {H:Hp} {Q:VK} {E:XK} (h:nh K vs H Q E):vs.length=2:=by obtain ⟨p,_,rfl,_⟩:=h;rfl
def iU (_:PySem.W.Frag):Sp:=fun vs H Q _=> ∃(y:List Nat) (dr:Addr) (ws:List (List Nat)) (os:List Od),vs=[.str (S y), .ref dr]/\eK H dr ws os/\Told y ws (nc os)/\ ∀H',ai H H'->Q (.str (S (textOf y ws (nc os)))) H'
theorem mG {K:PySem.W.Frag} {vs:List V} {H:Hp} {Q:VK} {E:XK} (h:iU K vs H Q E):vs.length=2:=by obtain ⟨p,_,_,_,rfl,_⟩:=h;rfl
def lM (_:PySem.W.Frag):Sp:=fun vs H Q _=> ∃(y row:List Nat),vs=[.str (S y), .str (S row)]/\((∃w,row=gr w/\(∀c∈w,c∈y/\Lt c)/\w.length<=12/\ ∀H',ai H H'->Q (.str (S w)) H')\/
 ∃(b:Nat) (ps:List (Nat×Nat)),row=eN b ps/\Lt b/\(∀p∈ps,qP p)/\ps.length<=48/\ ∀H',ai H H'->Q .ck H')
theorem qQ {K:PySem.W.Frag} {vs:List V} {H:Hp} {Q:VK} {E:XK} (h:lM K vs H Q E):vs.length=2:=by obtain ⟨p,_,rfl,_⟩:=h;rfl
def j5 (_:PySem.W.Frag):Sp:=fun vs H Q _=> ∃(y:List Nat) (p:Addr) (ws:List (List Nat)) (os:List (List (Nat×Nat))),vs=[.str (S y), .ref p]/\H p=some (.lst (bw (rowsOf y ws os)))/\Told y ws os/\ ∀(t:Addr) H',H t=none->H' t=some (.tup (bw ws))->ai H H'->Q (.ref t) H'
theorem qe {K:PySem.W.Frag} {vs:List V} {H:Hp} {Q:VK} {E:XK} (h:j5 K vs H Q E):vs.length=2:=by obtain ⟨p,_,_,_,rfl,_⟩:=h;rfl
def j6 (_:PySem.W.Frag):Sp:=fun vs H Q _=> ∃(y:List Nat) (wt:Addr) (ws:List (List Nat)) (b:Nat) (ps:List (Nat×Nat)),vs=[.ref wt, .str (S [b]), .str (S (eN b ps))]/\H wt=some (.tup (bw ws))/\iA y ws/\(∀w∈ws, ∀c∈w,Lt c)/\b∈bg/\ps.Perm (bt b ws ws.length)/\
 ∀(o:Od) H',gp H' o->o.ps.map Pr.pair=ps->ai H H'->Q (.ref o.o) H'
theorem qf {K:PySem.W.Frag} {vs:List V} {H:Hp} {Q:VK} {E:XK} (h:j6 K vs H Q E):vs.length=3:=by obtain ⟨p,_,_,_,_,rfl,_⟩:=h;rfl
def iV (_:PySem.W.Frag):Sp:=fun vs H Q _=> ∃(y:List Nat) (ws:List (List Nat)) (os:List (List (Nat×Nat))),vs=[.str (S y), .str (S (textOf y ws os))]/\Told y ws os/\ ∀(dr:Addr) (os':List Od) H',eK H' dr ws os'->nc os'=os->ai H H'->Q (.ref dr) H'
theorem mH {K:PySem.W.Frag} {vs:List V} {H:Hp} {Q:VK} {E:XK} (h:iV K vs H Q E):vs.length=2:=by obtain ⟨p,_,_,rfl,_⟩:=h;rfl
theorem Bm {y:List Nat} {ws:List (List Nat)} {os:List (List (Nat×Nat))} {i:Nat} {w:List Nat} (h:ws[i]? =some w):(rowsOf y ws os)[i]? =some (gr w):=by
 have hi:=(List.getElem?_eq_some_iff.mp h).1
 unfold rowsOf
 rw[List.getElem?_append_left (by rw[List.length_map];exact hi),List.getElem?_map,h]
 rfl
theorem sx {y:List Nat} {ws:List (List Nat)} {os:List (List (Nat×Nat))} {j b:Nat} {o:List (Nat×Nat)} (h1:os[j]? =some o) (h2:(aC y)[j]? =some b):(rowsOf y ws os)[ws.length+j]? =some (eN b o):=by
 unfold rowsOf
 rw[List.getElem?_append_right (by rw[List.length_map];omega),List.length_map,Nat.add_sub_cancel_left,List.getElem?_zipWith,h1,h2]
theorem Told.at_ {y:List Nat} {ws:List (List Nat)} {os:List (List (Nat×Nat))} (h:Told y ws os) {j:Nat} (hj:j<os.length): ∃b o,os[j]? =some o/\(aC y)[j]? =some b:=⟨(aC y)[j]'(by rw[<-h.ol];exact hj),os[j],List.getElem?_eq_getElem hj,List.getElem?_eq_getElem _⟩
theorem G9: ∀n,n<30-> ∀c∈dg n,c<128:=by decide+kernel
theorem Km {p:Nat×Nat} (hp:qP p): ∀c∈stx p,c<128:=fun c hc=>by
 unfold stx at hc
 rcases List.mem_append.mp hc with g | g
 ·exact G9 _ hp.1 c g
 ·rcases List.mem_cons.mp g with g | g
  ·rw[g];decide
  ·exact G9 _ hp.2 c g
noncomputable def sk (p:Nat×Nat):Key:=Sum.inr (S (stx p))
noncomputable def DI (l:List Pr):List (Key×V):=l.map fun p=>(sk p.pair,V.ref p.t)
theorem DJ (l:List Pr):(DI l).map (·.1)=((l.map Pr.pair).map stx).map fun x=>Sum.inr (S x):=by unfold DI;rw[List.map_map,List.map_map,List.map_map];rfl
theorem DK {p q:Nat×Nat} (hp:qP p) (hq:qP q) (h:sk p=sk q):p=q:=FQ hp hq (GO (Sum.inr.inj h))
theorem DL {l:List Pr} {p:Nat×Nat} (hl: ∀q∈l,qP q.pair) (hp:qP p) (h:p∉l.map Pr.pair):cV (DI l) (sk p)=none:=by
 induction l with
 | nil=>rfl
 | cons q l ih=>
  show cV ((sk q.pair,V.ref q.t)::DI l) (sk p)=none
  rw[b_ (fun z=>h (by rw[List.map_cons,DK (hl q List.mem_cons_self) hp z];exact List.mem_cons_self))]
  exact ih (fun r hr=>hl r (List.mem_cons_of_mem _ hr)) fun z=>h (by rw[List.map_cons];exact List.mem_cons_of_mem _ z)
theorem DM {l:List Pr} {p:Nat×Nat} (hl: ∀q∈l,qP q.pair) (hp:qP p) (h:p∈l.map Pr.pair): ∃q∈l,q.pair=p/\cV (DI l) (sk p)=some (.ref q.t):=by
 induction l with
 | nil=>simp at h
 | cons q l ih=>
  by_cases z:q.pair=p
  ·refine ⟨q,List.mem_cons_self,z,?_⟩
   show cV ((sk q.pair,V.ref q.t)::DI l) (sk p)=_
   rw[cC (by rw[z])]
  ·have h':p∈l.map Pr.pair:=by
    rw[List.map_cons]at h
    exact (List.mem_cons.mp h).resolve_left (fun g=>z g.symm)
   obtain ⟨r,hr,e1,e2⟩:=ih (fun r hr=>hl r (List.mem_cons_of_mem _ hr)) h'
   refine ⟨r,List.mem_cons_of_mem _ hr,e1,?_⟩
   show cV ((sk q.pair,V.ref q.t)::DI l) (sk p)=_
   rw[b_ (fun g=>z (DK (hl q List.mem_cons_self) hp g))]
   exact e2
theorem wx {a b c:List (List Nat)} (h1:a.Perm c) (h2:b.Perm c) (p1:a.Pairwise fun x y=> ¬y<x) (p2:b.Pairwise fun x y=> ¬y<x):a=b:=
 List.Perm.eq_of_pairwise (le:=fun x y=> ¬y<x) (fun x y _ _ g1 g2=>List.le_antisymm (show x<=y from g1) (show y<=x from g2)) p1 p2 (h1.trans h2.symm)
structure Asd where
 t:Addr
 y:List Nat
 dr:Addr
 ws:List (List Nat)
 os:List Od
structure aa0 (H:Hp) (k:Asd):Prop where
 tp:H k.t=some (.tup [.str (S k.y), .ref k.dr, .str (S (textOf k.y k.ws (nc k.os)))])
 dw:eK H k.dr k.ws k.os
 td:Told k.y k.ws (nc k.os)
def sy (_:PySem.W.Frag):Sp:=fun vs H Q _=> ∃(b:Addr) (y:List Nat),vs=[.ref b, .str (S y)]/\cb H b/\y≠[]/\y.length<=8/\ ∀(t:Addr) (ws:List (List Nat)) (H':Hp),H t=none->t≠b->H' t=some (.tup (bw ws))->iA y ws->cb H' b->aF b H H'->Q (.ref t) H'
theorem yb {K:PySem.W.Frag} {vs:List V} {H:Hp} {Q:VK} {E:XK} (h:sy K vs H Q E):vs.length=2:=by obtain ⟨c,_,rfl,_⟩:=h;rfl
theorem wA {y:List Nat} {os:List Od} {e:Nat}:(A7 y os e).map Pr.pair=((os.map bj)[(aC y).idxOf (PyProof.Rows.lo1 e)]?).getD []:=by
 unfold A7
 rw[List.getElem?_map]
 cases os[(aC y).idxOf (PyProof.Rows.lo1 e)]?<;> rfl
theorem Bn {y:List Nat} {os ps:List Od} (h:os.map bj=ps.map bj):qK y os=qK y ps:=by
 unfold qK
 congr 1
 funext e
 have g: ∀os:List Od,pA y os e=((rY y os e).map Pr.pair).map fun q=>(q.1,q.2,e):=fun os=>by unfold pA;rw[List.map_map];rfl
 have k:(rY y os e).map Pr.pair=(rY y ps e).map Pr.pair:=by
  have:=wA (y:=y) (os:=os) (e:=e)
  rw[h, <-wA]at this
  unfold rY
  split
  ·rw[List.map_reverse,List.map_reverse,this]
  ·exact this
 rw[g,g,k]
theorem yc {y:List Nat} {ws:List (List Nat)} {os ps:List Od} (h:os.map bj=ps.map bj):Bk y ws os=Bk y ws ps:=by unfold Bk dM;rw[Bn h]
theorem zJ: ∀ns:List C4,PyData.hasDictAll (ns.map qD)=false
 | []=>rfl
 | x::ns=>by show (PyData.hasDict (qD x)||PyData.hasDictAll (ns.map qD))=false;rw[zJ ns];rfl
theorem DN (xs:List V) (v:V):qy (xs++[v]) (some (-1)) none=[v]:=by
 unfold qy
 have e1:HT.jS (xs++[v]).length 0 (some (-1))=xs.length:=by
  show (if (-1:Int)<0 then ((-1:Int)+((xs++[v]).length:Int)).toNat else min (-1:Int).toNat (xs++[v]).length)=_
  rw[if_pos (by decide),List.length_append,List.length_cons,List.length_nil];omega
 have e2:HT.jS (xs++[v]).length (xs++[v]).length none=xs.length+1:=by
  show (xs++[v]).length=_
  rw[List.length_append];rfl
 rw[e1,e2,List.drop_append_of_le_length (Nat.le_refl _),List.drop_length,Nat.add_sub_cancel_left]
 rfl
theorem sM {y:List Nat} {e:eE}: ∀{es:List eE} {ws:List (List Nat)} {L:fN},Path y ws L es->Eo y (aC y) (dS y ws L es).1 (dS y ws L es).2 e->Path y ws L (es++[e])
 | [],_,_,_,h=>⟨h,trivial⟩
 | _::_,_,_,⟨h1,h2⟩,h=>⟨h1,sM h2 h⟩
theorem wB {y:List Nat} {e:eE}: ∀{es:List eE} {ws:List (List Nat)} {L:fN},dS y ws L (es++[e])=(dW (dS y ws L es).1 e,dO (aC y) (dS y ws L es).1 (dS y ws L es).2 e)
 | [],_,_=>rfl
 | _::es,_,_=>wB (es:=es)
theorem Tp {P X:Addr->Hp->Prop} {G:Prop} (f:(∀a H6,P a H6->X a H6)->G) (x: ∀a H6,P a H6->X a H6):G:=f x
theorem DO {H H':Hp} {a:Addr} {o:HO} (s:ai H H') (n:H a=none):ai H (upd H' a o):=fun b u e=>by rw[aq (ak e n)];exact s b u e
local macro_rules | `(tactic| walk_at "rd") => `(tactic| repeat (first
 | refine ⟨_,rfl,?_⟩
 | refine ⟨_,_,rfl,rfl,?_⟩
 | refine ⟨rfl,?_⟩
 | refine And.intro (by first | decide | omega | assumption | exact Nat.le_of_ble_eq_true rfl | exact .inl ⟨by decide,by decide⟩ | exact .inr ⟨by decide,by decide⟩ | exact ⟨by decide,by decide⟩ | exact ⟨by omega,by omega⟩) ?_))
local macro_rules | `(tactic| walk_at "wk") => `(tactic| repeat (first
 | refine ⟨_,rfl,?_⟩
 | refine ⟨_,_,rfl,rfl,?_⟩
 | refine ⟨_,_,_,rfl,rfl,by first | assumption | omega,by assumption,?_⟩
 | refine ⟨rfl,?_⟩
 | refine And.intro (by first | decide | omega | assumption | exact Nat.le_of_ble_eq_true rfl | exact .inl ⟨by decide,by decide⟩ | exact .inr ⟨by decide,by decide⟩ | exact ⟨by decide,by decide⟩ | exact ⟨by omega,by omega⟩) ?_))
local macro_rules | `(tactic| walk_at "bd") => `(tactic| first | assumption | exact abd _ | exact apl (by walk_at "bd") (by walk_at "bd"))
noncomputable def top (i:Nat):Stmt:=PySem.Challenge.pw_mustmeet_k71_whole_written_turned_and_le.main.body.getD i (.Pass ⟨0,0,0,0⟩)
noncomputable abbrev eX:Stmt:=top 6
noncomputable abbrev cF:Stmt:=top 8
noncomputable abbrev jF:Stmt:=top 9
noncomputable abbrev dj:Stmt:=top 11
noncomputable abbrev dm:Stmt:=top 12
noncomputable abbrev cR:Stmt:=top 13
noncomputable abbrev cG:Stmt:=top 14
noncomputable abbrev cS:Stmt:=top 19
noncomputable abbrev eY:Stmt:=top 20
noncomputable abbrev eZ:Stmt:=top 21
noncomputable abbrev cH:Stmt:=top 22
noncomputable abbrev dY:Stmt:=top 23
noncomputable abbrev dq:Stmt:=top 24
noncomputable abbrev du:Stmt:=top 25
noncomputable abbrev cI:Stmt:=top 26
noncomputable abbrev e_:Stmt:=top 28
noncomputable abbrev fS:Stmt:=top 29
noncomputable abbrev hW:Stmt:=top 30
noncomputable abbrev jG:Stmt:=top 31
noncomputable abbrev fT:Stmt:=top 32
noncomputable abbrev fU:Stmt:=top 33
noncomputable abbrev mI:Stmt:=top 34
noncomputable abbrev dz:Stmt:=top 36
noncomputable abbrev hZ:Stmt:=top 37
noncomputable abbrev cm:Stmt:=top 38
noncomputable abbrev fW:Stmt:=top 39
noncomputable abbrev cJ:Stmt:=top 40
noncomputable abbrev fb:Stmt:=top 41
noncomputable abbrev dZ:Stmt:=top 43
noncomputable abbrev fc:Stmt:=top 44
noncomputable abbrev mJ:Stmt:=top 45
noncomputable abbrev fX:Stmt:=top 46
noncomputable abbrev d_:Stmt:=top 48
noncomputable abbrev fe:Stmt:=top 49
noncomputable abbrev h7:Stmt:=top 50
noncomputable abbrev cn:Stmt:=top 51
noncomputable abbrev ee:Stmt:=top 52
noncomputable abbrev dA:Stmt:=top 53
noncomputable abbrev dB:Stmt:=top 54
noncomputable abbrev mK:Stmt:=top 55
noncomputable abbrev mL:Stmt:=top 57
noncomputable abbrev jH:Stmt:=top 58
noncomputable abbrev h_:Stmt:=top 59
noncomputable abbrev jI:Stmt:=top 60
noncomputable abbrev jJ:Stmt:=top 61
noncomputable abbrev ia:Stmt:=top 62
noncomputable abbrev ib:Stmt:=top 63
noncomputable abbrev ff:Stmt:=top 64
noncomputable abbrev ic:Stmt:=top 65
noncomputable abbrev jK:Stmt:=top 66
noncomputable abbrev sN:Stmt:=top 67
structure bc (K:PySem.W.Frag) (mg:Str->Option Value) (x:Str) (st:Stmt) (ps:List Str) (f:Addr) (fd:FuncData):Prop where
 fn:LL K x x st f fd
 mg:mg x=some (.ref f)
 bd:Binds K fd ps []
structure Txt (K:PySem.W.Frag) (mg:Str->Option Value) (f0 f1 f2 f3 f4 f5 f6 f7 f8 f9 G_ Ha Hb Hc Hd He Hf Hg Hh Hi Hj Hk Hl Hm Hn Ho Hq Hr Hs Ht Hu Hv Hw Hx Hy Hz HK HL HM HN HP HQ HR HS HU HV HW HX HY HZ H_:Addr) (d0 d1 d2 d3 d4 d5 d6 d7 d8 d9 Qp Qq Qr Qs Qt Qu Qv Qw Qx Qy Qz QA QB QC QD Kn Ep QE QF QG QH QI QJ QK QL Ko Kp Kq QM QN QO QP QQ QR QS QT QU QV QW QX QY:FuncData):Prop where
 F0:bc K mg "contrary" eX ["letter"] f0 d0
 F1:bc K mg "foreign_sign" cF ["yard","text"] f1 d1
 F2:bc K mg "bands" jF ["yard"] f2 d2
 F3:bc K mg "strands_in" dj ["words","band"] f3 d3
 F4:bc K mg "look_words" dm ["yard","words"] f4 d4
 F5:bc K mg "look_orders" cR ["yard","words","orders"] f5 d5
 F6:bc K mg "look_drawing" cG ["yard","drawing"] f6 d6
 F7:bc K mg "strand_text" cS ["strand"] f7 d7
 F8:bc K mg "cord_row" eY ["word"] f8 d8
 F9:bc K mg "band_row" eZ ["band","order"] f9 d9
 Bo:bc K mg "show_drawing" cH ["yard","drawing"] G_ Qp
 Kr:bc K mg "read_cord" dY ["yard","row"] Ha Qq
 Ks:bc K mg "read_words" dq ["yard","rows"] Hb Qr
 Kt:bc K mg "read_order" du ["words","band","row"] Hc Qs
 Bp:bc K mg "read_drawing" cI ["yard","text"] Hd Qt
 Bq:bc K mg "renumber" e_ ["orders","cord","places"] He Qu
 Ku:bc K mg "do_swap" fS ["orders","band","number"] Hf Qv
 Kv:bc K mg "do_out" hW ["words","orders","cord","place"] Hg Qw
 Kw:bc K mg "do_in" jG ["words","orders","cord","place","letter","number"] Hh Qx
 Kx:bc K mg "do_turn" fT ["words","orders","cord"] Hi Qy
 Ky:bc K mg "do_deed" fU ["yard","words","orders","deed"] Hj Qz
 wZ:bc K mg "done" mI ["yard","drawing","deeds"] Hk QA
 Kz:bc K mg "strands_at" dz ["yard","drawing","end"] Hl QB
 KA:bc K mg "points" hZ ["yard","drawing"] Hm QC
 KC:bc K mg "corner_points" cm ["word","cord","place"] Hn QD
 KD:bc K mg "corners" fW ["yard","drawing"] Ho Kn
 KG:bc K mg "corners_meet" cJ ["one","other"] Hq Ep
 Er:bc K mg "meetings" fb ["yard","drawing"] Hr QE
 Br:bc K mg "shortened" dZ ["word"] Hs QF
 uD:bc K mg "shortest" fc ["word"] Ht QG
 w4:bc K mg "ring" mJ ["word"] Hu QH
 KH:bc K mg "are_one" fX ["one","other"] Hv QI
 Es:bc K mg "pairs_out" d_ ["word"] Hw QJ
 KI:bc K mg "way_down" fe ["cord","word"] Hx QK
 KJ:bc K mg "way_up" h7 ["cord","word"] Hy QL
 KL:bc K mg "turns_between" cn ["one","other"] Hz Ko
 KN:bc K mg "word_road" ee ["cord","one","other"] HK Kp
 KO:bc K mg "order_road" dA ["band","one","other"] HL Kq
 KP:bc K mg "same_cords" dB ["one","other"] HM QM
 KQ:bc K mg "road" mK ["yard","one","other"] HN QN
 Bs:bc K mg "_law_box" mL ["_law_script","_law_k"] HP QO
 fE:bc K mg "_law_take" jH ["_law_box_here","_law_many"] HQ QP
 w5:bc K mg "_law_other" h_ ["_law_letter"] HR QQ
 KR:bc K mg "_law_yard" jI ["_law_box_here","_law_few","_law_top"] HS QR
 KS:bc K mg "_law_word" jJ ["_law_box_here","_law_yard_here","_law_top"] HU QS
 KU:bc K mg "_law_order" ia ["_law_box_here","_law_things"] HV QT
 Et:bc K mg "_law_bands" ib ["_law_yard_here"] HW QU
 KW:bc K mg "_law_drawing" ff ["_law_box_here","_law_yard_here","_law_words_here"] HX QV
 KY:bc K mg "_law_words" ic ["_law_box_here","_law_yard_here"] HY QW
 KZ:bc K mg "_law_deed" jK ["_law_box_here","_law_yard_here","_law_drawing_here"] HZ QX
 QZ:bc K mg "law" sN ["_law_script"] H_ QY
 z_all:mg "all"=none
 z_enumerate:mg "enumerate"=none
 z_int:mg "int"=none
 z_len:mg "len"=none
 z_list:mg "list"=none
 z_max:mg "max"=none
 z_min:mg "min"=none
 z_range:mg "range"=none
 z_reversed:mg "reversed"=none
 z_sorted:mg "sorted"=none
 z_tuple:mg "tuple"=none
 z_zip:mg "zip"=none
 g_CORD: ∃t,mg "CORD"=some (.str (S [99,111,114,100]) t)
 g_NO_LETTERS: ∃t,mg "NO_LETTERS"=some (.str (S [45]) t)
 g_BAND: ∃t,mg "BAND"=some (.str (S [98,97,110,100]) t)
theorem wC:aH ["letter"] ["letter"] (aj eX):=⟨rfl,rfl,rfl,by decide+kernel,rfl,by decide+kernel,by decide+kernel⟩
theorem fG:aH ["yard","text","at","sign"] ["yard","text"] (aj cF):=⟨rfl,rfl,rfl,by decide+kernel,rfl,by decide+kernel,by decide+kernel⟩
theorem DP:aH ["yard"] ["yard"] (aj jF):=⟨rfl,rfl,rfl,by decide+kernel,rfl,by decide+kernel,by decide+kernel⟩
theorem cT:aH ["words","band","found","cord","word","place","letter"] ["words","band"] (aj dj):=⟨rfl,rfl,rfl,by decide+kernel,rfl,by decide+kernel,by decide+kernel⟩
theorem gR:aH ["yard","words","number","word"] ["yard","words"] (aj dm):=⟨rfl,rfl,rfl,by decide+kernel,rfl,by decide+kernel,by decide+kernel⟩
theorem eG:aH ["yard","words","orders","names","number","band"] ["yard","words","orders"] (aj cR):=⟨rfl,rfl,rfl,by decide+kernel,rfl,by decide+kernel,by decide+kernel⟩
theorem nE:aH ["yard","drawing"] ["yard","drawing"] (aj cG):=⟨rfl,rfl,rfl,by decide+kernel,rfl,by decide+kernel,by decide+kernel⟩
theorem gu:aH ["strand","cord","place"] ["strand"] (aj cS):=⟨rfl,rfl,rfl,by decide+kernel,rfl,by decide+kernel,by decide+kernel⟩
theorem wD:aH ["word"] ["word"] (aj eY):=⟨rfl,rfl,rfl,by decide+kernel,rfl,by decide+kernel,by decide+kernel⟩
theorem wF:aH ["band","order"] ["band","order"] (aj eZ):=⟨rfl,rfl,rfl,by decide+kernel,rfl,by decide+kernel,by decide+kernel⟩
theorem dP:aH ["yard","drawing","rows","band","order"] ["yard","drawing"] (aj cH):=⟨rfl,rfl,rfl,by decide+kernel,rfl,by decide+kernel,by decide+kernel⟩
theorem lN:aH ["yard","row","parts"] ["yard","row"] (aj dY):=⟨rfl,rfl,rfl,by decide+kernel,rfl,by decide+kernel,by decide+kernel⟩
theorem fj:aH ["yard","rows","words","row","word"] ["yard","rows"] (aj dq):=⟨rfl,rfl,rfl,by decide+kernel,rfl,by decide+kernel,by decide+kernel⟩
theorem fk:aH ["words","band","row","strands","strand","parts"] ["words","band","row"] (aj du):=⟨rfl,rfl,rfl,by decide+kernel,rfl,by decide+kernel,by decide+kernel⟩
theorem bH:aH ["yard","text","rows","words","orders","row","band","order"] ["yard","text"] (aj cI):=⟨rfl,rfl,rfl,by decide+kernel,rfl,by decide+kernel,by decide+kernel⟩
theorem gM:aH ["orders","cord","places","band","kept","strand"] ["orders","cord","places"] (aj e_):=⟨rfl,rfl,rfl,by decide+kernel,rfl,by decide+kernel,by decide+kernel⟩
theorem ky:aH ["orders","band","number","order","strand"] ["orders","band","number"] (aj fS):=⟨rfl,rfl,rfl,by decide+kernel,rfl,by decide+kernel,by decide+kernel⟩
theorem sO:aH ["words","orders","cord","place","word"] ["words","orders","cord","place"] (aj hW):=⟨rfl,rfl,rfl,by decide+kernel,rfl,by decide+kernel,by decide+kernel⟩
theorem qg:aH ["words","orders","cord","place","letter","number","word","order"] ["words","orders","cord","place","letter","number"] (aj jG):=⟨rfl,rfl,rfl,by decide+kernel,rfl,by decide+kernel,by decide+kernel⟩
theorem qh:aH ["words","orders","cord","word"] ["words","orders","cord"] (aj fT):=⟨rfl,rfl,rfl,by decide+kernel,rfl,by decide+kernel,by decide+kernel⟩
theorem ye:aH ["yard","words","orders","deed"] ["yard","words","orders","deed"] (aj fU):=⟨rfl,rfl,rfl,by decide+kernel,rfl,by decide+kernel,by decide+kernel⟩
theorem iG:aH ["yard","drawing","deeds","words","orders","band","order","number","deed"] ["yard","drawing","deeds"] (aj mI):=⟨rfl,rfl,rfl,by decide+kernel,rfl,by decide+kernel,by decide+kernel⟩
theorem j7:aH ["yard","drawing","end","order"] ["yard","drawing","end"] (aj dz):=⟨rfl,rfl,rfl,by decide+kernel,rfl,by decide+kernel,by decide+kernel⟩
theorem jL:aH ["yard","drawing","told","end","strand"] ["yard","drawing"] (aj hZ):=⟨rfl,rfl,rfl,by decide+kernel,rfl,by decide+kernel,by decide+kernel⟩
theorem ie:aH ["word","cord","place","ahead"] ["word","cord","place"] (aj cm):=⟨rfl,rfl,rfl,by decide+kernel,rfl,by decide+kernel,by decide+kernel⟩
theorem cL:aH ["yard","drawing","numbers","number","point","told","cord","word","place","pair"] ["yard","drawing"] (aj fW):=⟨rfl,rfl,rfl,by decide+kernel,rfl,by decide+kernel,by decide+kernel⟩
theorem fH:aH ["one","other","low","high"] ["one","other"] (aj cJ):=⟨rfl,rfl,rfl,by decide+kernel,rfl,by decide+kernel,by decide+kernel⟩
theorem ef:aH ["yard","drawing","told","every","number","one","other"] ["yard","drawing"] (aj fb):=⟨rfl,rfl,rfl,by decide+kernel,rfl,by decide+kernel,by decide+kernel⟩
theorem iH:aH ["word","kept","letter"] ["word"] (aj dZ):=⟨rfl,rfl,rfl,by decide+kernel,rfl,by decide+kernel,by decide+kernel⟩
theorem eh:aH ["word","left","start","end"] ["word"] (aj fc):=⟨rfl,rfl,rfl,by decide+kernel,rfl,by decide+kernel,by decide+kernel⟩
theorem jM:aH ["word","whole","least","start","begun"] ["word"] (aj mJ):=⟨rfl,rfl,rfl,by decide+kernel,rfl,by decide+kernel,by decide+kernel⟩
theorem yf:aH ["one","other"] ["one","other"] (aj fX):=⟨rfl,rfl,rfl,by decide+kernel,rfl,by decide+kernel,by decide+kernel⟩
theorem dD:aH ["word","taken","place"] ["word"] (aj d_):=⟨rfl,rfl,rfl,by decide+kernel,rfl,by decide+kernel,by decide+kernel⟩
theorem gN:aH ["cord","word","deeds","size"] ["cord","word"] (aj fe):=⟨rfl,rfl,rfl,by decide+kernel,rfl,by decide+kernel,by decide+kernel⟩
theorem ig:aH ["cord","word","deeds","left","letter","pair"] ["cord","word"] (aj h7):=⟨rfl,rfl,rfl,by decide+kernel,rfl,by decide+kernel,by decide+kernel⟩
theorem fg:aH ["one","other","turns"] ["one","other"] (aj cn):=⟨rfl,rfl,rfl,by decide+kernel,rfl,by decide+kernel,by decide+kernel⟩
theorem lO:aH ["cord","one","other","turns"] ["cord","one","other"] (aj ee):=⟨rfl,rfl,rfl,by decide+kernel,rfl,by decide+kernel,by decide+kernel⟩
theorem cx:aH ["band","one","other","deeds","order","number","strand","place","back"] ["band","one","other"] (aj dA):=⟨rfl,rfl,rfl,by decide+kernel,rfl,by decide+kernel,by decide+kernel⟩
theorem qR:aH ["one","other"] ["one","other"] (aj dB):=⟨rfl,rfl,rfl,by decide+kernel,rfl,by decide+kernel,by decide+kernel⟩
theorem iI:aH ["yard","one","other","deeds","cord","word","between","number","band"] ["yard","one","other"] (aj mK):=⟨rfl,rfl,rfl,by decide+kernel,rfl,by decide+kernel,by decide+kernel⟩
theorem lP:aH ["_law_script","_law_k","_law_cell","_law_seed"] ["_law_script","_law_k"] (aj mL):=⟨rfl,rfl,rfl,by decide+kernel,rfl,by decide+kernel,by decide+kernel⟩
theorem qi:aH ["_law_box_here","_law_many","_law_digit","_law_one"] ["_law_box_here","_law_many"] (aj jH):=⟨rfl,rfl,rfl,by decide+kernel,rfl,by decide+kernel,by decide+kernel⟩
theorem mM:aH ["_law_letter","_law_small","_law_capital"] ["_law_letter"] (aj h_):=⟨rfl,rfl,rfl,by decide+kernel,rfl,by decide+kernel,by decide+kernel⟩
theorem fB:aH ["_law_box_here","_law_few","_law_top","_law_left","_law_ends","_law_k","_law_letter","_law_found"] ["_law_box_here","_law_few","_law_top"] (aj jI):=⟨rfl,rfl,rfl,by decide+kernel,rfl,by decide+kernel,by decide+kernel⟩
theorem DQ:aH ["_law_box_here","_law_yard_here","_law_top"] ["_law_box_here","_law_yard_here","_law_top"] (aj jJ):=⟨rfl,rfl,rfl,by decide+kernel,rfl,by decide+kernel,by decide+kernel⟩
theorem mN:aH ["_law_box_here","_law_things","_law_left","_law_found"] ["_law_box_here","_law_things"] (aj ia):=⟨rfl,rfl,rfl,by decide+kernel,rfl,by decide+kernel,by decide+kernel⟩
theorem Bt:aH ["_law_yard_here"] ["_law_yard_here"] (aj ib):=⟨rfl,rfl,rfl,by decide+kernel,rfl,by decide+kernel,by decide+kernel⟩
theorem eu:aH ["_law_box_here","_law_yard_here","_law_words_here","_law_orders","_law_band","_law_some","_law_c","_law_word_here"] ["_law_box_here","_law_yard_here","_law_words_here"] (aj ff):=⟨rfl,rfl,rfl,by decide+kernel,rfl,by decide+kernel,by decide+kernel⟩
theorem fZ:aH ["_law_box_here","_law_yard_here","_law_left","_law_found","_law_k","_law_word_here"] ["_law_box_here","_law_yard_here"] (aj ic):=⟨rfl,rfl,rfl,by decide+kernel,rfl,by decide+kernel,by decide+kernel⟩
theorem cK:aH ["_law_box_here","_law_yard_here","_law_drawing_here","_law_words_here","_law_orders","_law_form","_law_names","_law_c","_law_some","_law_d","_law_word_here","_law_x","_law_k","_law_wide"] ["_law_box_here","_law_yard_here","_law_drawing_here"] (aj jK):=⟨rfl,rfl,rfl,by decide+kernel,rfl,by decide+kernel,by decide+kernel⟩
theorem gv:aH ["_law_script","_law_box_here","_law_yard_here","_law_words_here","_law_first","_law_text","_law_rings","_law_here","_law_deeds","_law_k","_law_back"] ["_law_script"] (aj sN):=⟨rfl,rfl,rfl,by decide+kernel,rfl,by decide+kernel,by decide+kernel⟩
section
variable {P:Program} {w:World} {K:PySem.W.Frag} {mg:Str->Option Value} {base:Heap} {f0 f1 f2 f3 f4 f5 f6 f7 f8 f9 G_ Ha Hb Hc Hd He Hf Hg Hh Hi Hj Hk Hl Hm Hn Ho Hq Hr Hs Ht Hu Hv Hw Hx Hy Hz HK HL HM HN HP HQ HR HS HU HV HW HX HY HZ H_:Addr} {d0 d1 d2 d3 d4 d5 d6 d7 d8 d9 Qp Qq Qr Qs Qt Qu Qv Qw Qx Qy Qz QA QB QC QD Kn Ep QE QF QG QH QI QJ QK QL Ko Kp Kq QM QN QO QP QQ QR QS QT QU QV QW QX QY:FuncData}
variable (T:Txt K mg f0 f1 f2 f3 f4 f5 f6 f7 f8 f9 G_ Ha Hb Hc Hd He Hf Hg Hh Hi Hj Hk Hl Hm Hn Ho Hq Hr Hs Ht Hu Hv Hw Hx Hy Hz HK HL HM HN HP HQ HR HS HU HV HW HX HY HZ H_ d0 d1 d2 d3 d4 d5 d6 d7 d8 d9 Qp Qq Qr Qs Qt Qu Qv Qw Qx Qy Qz QA QB QC QD Kn Ep QE QF QG QH QI QJ QK QL Ko Kp Kq QM QN QO QP QQ QR QS QT QU QV QW QX QY)
include T
theorem js:bE P w K mg base eI 1 f7 d7 ["strand"] (jr K):=by
 refine T.F7.fn.ok gu (fun vs H Q E h=>nC h) (fun cM A outer s H vs Q E hr h=>?_)
 refine ⟨_,(af (au (i:=1) gu.nd rfl (Or.inl rfl) (az (ax K rfl) (pv 0) ag (fun _ _=>rfl)))
   (af (au (i:=2) gu.nd rfl (Or.inl rfl) (az (ax K rfl) (pv 0) ag (fun _ _=>rfl)))
   (ah (aD (Fl 46 (by decide+kernel) (pv 1) (pv 2)))))),?_⟩
 obtain ⟨p,rfl,hp,FR,q⟩:=h
 obtain ⟨h1,h2⟩:=FR
 have d1:=(jn _ h1).2.2.2
 have d2:=(jn _ h2).2.2.2
 have Sv:p.c<30:=h1
 have h2':p.i<30:=h2
 have d1':(dg p.c).length<=3:=d1
 have Q0:(dg p.i).length<=3:=d2
 refine ⟨_,rfl,p.t,_,0,_,rfl,rfl,aW.of hp.tp,rfl,?_⟩
 refine ⟨_,rfl,p.t,_,1,_,rfl,rfl,aW.of hp.tp,rfl,?_⟩
 exact ⟨_,rfl,p.c,rfl,by omega,by omega,_,rfl,p.i,rfl,by omega,by omega,q⟩
theorem wG:bE P w K mg base eI 2 f9 d9 ["band","order"] (nh K):=by
 have gS:=js (P:=P) (w:=w) (base:=base) T
 refine T.F9.fn.ok wF (fun vs H Q E h=>uC h) (fun cM A outer s H vs Q E hr h=>?_)
 refine ⟨_,(ah (aD (aX K rfl PySem.F.plainAttrs_str PySem.F.slot_str_join PySem.F.type_str_join (oV K 32 rfl) (dh [32] (by decide+kernel)) (aa (aK i_ (bz (aa (rH [98,97,110,100] rfl T.g_BAND) (aa (pv 0) ab))) (cY ["strand"] [none] (nP K rfl (pv 1)) trivial (fun _ _ _ _=>(aw (i:=0) (by decide+kernel:List.Nodup (["strand"]:List Str)) rfl (Or.inl rfl))) (fun _ _ _ _=>ip) (fun _ _ _ _=>(ao gS (hr.mono (by decide)) rfl T.F7.mg T.F7.fn.kp T.F7.bd .nil aA (aa (pv 0) ab))))) ab)))),?_⟩
 obtain ⟨b,o,rfl,ho,FR,q⟩:=h
 have hs:(2000000:Nat)<sizeLine:=by decide
 have Q1:=ho.fw
 refine ⟨rfl,_,rfl,by show 2<=sizeLine;decide,fun p1 n1=>?_⟩
 have fi:upd H p1 (.lst [.str (S [98,97,110,100]), .str (S [b])]) p1=some (.lst (bw [fA,[b]])):=ae
 have s1:=ai.upd (o:= .lst [.str (S [98,97,110,100]), .str (S [b])]) n1
 generalize upd H p1 (.lst [.str (S [98,97,110,100]), .str (S [b])])=H1 at fi s1 ⊢
 refine ⟨_,rfl,o.o,rfl,⟨_,aW.of (s1 _ _ ho.tp)⟩,?_⟩
 refine kW (K:=K) (a:=o.o) (xs:=bS o.ps) (fun i acc H'=>H'=H1/\acc=bw (((o.ps.take i).map Pr.pair).map stx)) (by rw[aZ];omega) (fun i acc H' h=>by rw[h.1];exact aW.of (s1 _ _ ho.tp)) ⟨rfl,rfl⟩ ?_ ?_
 ·rintro i x acc H2 Nx hi hx fI ⟨rfl,rfl⟩ nx
  obtain ⟨p,hp,rfl⟩:=pj hx
  have hm:=List.mem_of_getElem? hp
  refine ⟨trivial,gJ ?_⟩
  refine ⟨_,rfl,p,rfl,(ho.pr p hm).same s1,FR p hm,?_⟩
  refine nx _ _ (by simpa using fI) ⟨rfl,?_⟩
  rw[gk, <-take_snoc hp,List.map_append,List.map_append]
  rfl
 rintro acc H2 D fI ⟨rfl,rfl⟩ hD
 rw[aZ,List.take_length]
 have hpD:p1≠D:=ak fi hD
 refine ⟨p1,D,_,_,rfl,rfl,by rw[aq hpD];exact fi,ae,by rw[aN,aN,List.length_map,List.length_map];show 2+_<=_;omega,fun p3 n3=>?_⟩
 have FT:=gs (k:=7) (ps:=(o.ps.map Pr.pair).map stx) fun x hx=>by
  obtain ⟨r,hr,rfl⟩:=List.mem_map.mp hx
  obtain ⟨p,hp,rfl⟩:=List.mem_map.mp hr
  exact (DF (FR p hp)).2.2
 rw[List.length_map,List.length_map]at FT
 refine ⟨p3,cP b (o.ps.map Pr.pair),rfl,rfl,aT.of (by rw[ae];rfl),?_,q _ ((s1.trans (ai.upd hD)).trans (ai.upd n3))⟩
 unfold cP fA
 simp only[List.map_cons,List.sum_cons,List.length_cons,List.length_nil,List.length_map]at FT ⊢
 omega
theorem yg:bE P w K mg base eI 1 Hf Qv ["orders","band","number"] (pK K):=by
 refine T.Ku.fn.ok ky (fun vs H Q E h=>vV h) (fun cM A outer s H vs Q E hr h=>?_)
 refine ⟨_,(af (bC (PW.pt (kC (IC (Aw (gc hr) (pv 1) (pv 0)) (by with_unfolding_all rfl)) (i4 (j9 (i9 oh gY ag (pv 2) (aK cX (ar (ay K rfl) rfl T.z_len PySem.boot_len (aa (fh (gc hr) (pv 0) (pv 1) (fun _ _=>rfl)) ab)) ag)))))) (ah (aD gI)) aV)
   (af (au (i:=3) ky.nd rfl (Or.inl rfl) (fh (gc hr) (pv 0) (pv 1) (fun _ _=>rfl)))
   (af (au (i:=4) ky.nd rfl (Or.inl rfl) (az (ba K rfl) (pv 3) (pv 2) (fun _ _=>rfl)))
   (af (i7 (az (ba K rfl) (pv 3) (aK bV (pv 2) ag) (fun _ _=>rfl)) (j_ (pv 3) (pv 2) set_list))
   (af (i7 (pv 4) (j_ (pv 3) (aK bV (pv 2) ag) set_list))
   (ah (aD gI))))))),?_⟩
 obtain ⟨d,bs,os,b,j,n,o,rfl,hO,nd,Bd,hb,ho,hn,q⟩:=h
 have hs:(100000:Nat)<sizeLine:=by decide
 have kr:=List.mem_of_getElem? ho
 have xZ:=hO.ok o kr
 have Q1:=xZ.fw
 have AA:=fz nd hb ho
 have dg:gG H d (V.str (S [b])) (some (.ref o.o)):=by rw[<-AA];exact gG.k (k:=kS [b]) hO.dk
 have h0:o.ps[n]? =some (o.ps[n]'(by omega)):=List.getElem?_eq_getElem _
 have h1:o.ps[n+1]? =some o.ps[n+1]:=List.getElem?_eq_getElem hn
 generalize hp0:(o.ps[n]'(by omega))=p0 at h0
 generalize fi:o.ps[n+1]=p1 at h1
 have g0:(bS o.ps)[n]? =some (V.ref p0.t):=by unfold bS;rw[List.getElem?_map,h0];rfl
 have g1:(bS o.ps)[n+1]? =some (V.ref p1.t):=by unfold bS;rw[List.getElem?_map,h1];rfl
 have esw:swapAt n o.ps=(o.ps.set n p1).set (n+1) p0:=by unfold swapAt;rw[h0,h1]
 have en:(n:Int)+1=((n+1:Nat):Int):=by omega
 refine ⟨_,rfl,_,rfl,d,_,rfl,dg,_,rfl,cO rfl ?_⟩
 refine ⟨_,rfl,_,_,rfl,rfl,_,rfl,gH (decide_eq_true (by omega)) ?_⟩
 refine ⟨_,rfl,_,rfl,d,_,rfl,dg,o.o,_,rfl, .inl (aT.of xZ.tp),_,_,rfl,rfl,_,_,rfl,rfl,_,rfl,cO ?_ ?_⟩
 ·rw[aZ,decide_eq_true (by omega)];rfl
 refine ⟨_,rfl,_,rfl,d,_,rfl,dg,?_⟩
 refine ⟨_,rfl,_,rfl,o.o,_,_,_,rfl,rfl,aT.of xZ.tp,aR g0,?_⟩
 refine ⟨_,rfl,_,rfl,_,_,rfl,rfl,o.o,_,_,_,rfl,rfl,aT.of xZ.tp,by rw[en];exact aR g1,?_⟩
 refine ⟨_,rfl,_,rfl,o.o,_,_,n,rfl,rfl,xZ.tp,?_,?_⟩
 ·rw[aZ];exact lx (by omega)
 rw[zk]
 refine ⟨_,rfl,_,rfl,_,rfl,_,_,rfl,rfl,o.o,_,_,n+1,rfl,rfl,ae,?_,?_⟩
 ·rw[en,aZ,List.length_set];exact lx (by omega)
 rw[zk,yx, <-esw]
 have LN:=swap_perm n o.ps
 refine q _ (hO.mut ho (fun p hp=>xZ.pr p (LN.mem_iff.mp hp)) (by rw[LN.length_eq];exact Q1)) fun a u ea z=>by rw[aq z];exact ea
theorem dc:bE P w K mg base eI 1 f0 d0 ["letter"] (mU K):=by
 refine T.F0.fn.ok wC (fun vs H Q E h=>uc h) (fun cM A outer s H vs Q E hr h=>?_)
 refine ⟨_,(af (bC (lW (dN K rfl PySem.F.plainAttrs_str PySem.F.slot_str_islower PySem.F.type_str_islower oF (pv 0))) (ah (aD (dN K rfl PySem.F.plainAttrs_str PySem.F.slot_str_upper PySem.F.type_str_upper Co (pv 0)))) aV)
   (ah (aD (dN K rfl PySem.F.plainAttrs_str PySem.F.slot_str_lower PySem.F.type_str_lower gZ (pv 0))))),?_⟩
 obtain ⟨c,rfl,hc,q⟩:=h
 refine ⟨_,rfl,rfl,c,rfl,rfl,hc,_,rfl,cB (fun e=>?_) (fun e=>?_)⟩
 ·refine ⟨_,rfl,rfl,c,rfl,rfl,hc,?_⟩
  have z:bb c=PyProof.Rows.up1 c:=if_pos e
  rw[<-z]
  exact q
 ·refine ⟨_,rfl,rfl,c,rfl,rfl,hc,?_⟩
  have z:bb c=PyProof.Rows.lo1 c:=if_neg e
  rw[<-z]
  exact q
theorem jt:bE P w K mg base eI 1 He Qu ["orders","cord","places"] (m4 K):=by
 refine T.Bq.fn.ok gM (fun vs H Q E h=>uk h) (fun cM A outer s H vs Q E hr h=>?_)
 refine ⟨_,(ah (bp PassesOwn.never rfl (eB K rfl (bh (xF rfl) rfl T.z_list boot_list (aa (pv 0) ab))) (aw (i:=3) gM.nd rfl (Or.inl rfl)) (af (au (i:=4) gM.nd rfl (Or.inl rfl) (bz ab))
   (af (bp PassesOwn.never rfl (eB K rfl (fh (gc hr) (pv 0) (pv 3) (fun _ _=>rfl))) (aw (i:=5) gM.nd rfl (Or.inl rfl)) (ah (bC (aB xq (az (ax K rfl) (pv 5) ag (fun _ _=>rfl)) (pv 1) (aM _)) (ah (aY (aX K rfl PySem.F.plainAttrs_list PySem.F.slot_list_append PySem.F.type_list_append bf (pv 4) (aa (pv 5) ab)))) (ah (bC (aB tD (az (ba K rfl) (pv 2) (az (ax K rfl) (pv 5) ag (fun _ _=>rfl)) (fun _ _=>rfl)) eP (aM _)) (ah (aY (aX K rfl PySem.F.plainAttrs_list PySem.F.slot_list_append PySem.F.type_list_append bf (pv 4) (aa (bD (aa (pv 1) (aa (az (ba K rfl) (pv 2) (az (ax K rfl) (pv 5) ag (fun _ _=>rfl)) (fun _ _=>rfl)) ab))) ab)))) aV)))))
   (ah (nQ (gc hr) (pv 0) (pv 3) (pv 4) rfl)))))),?_⟩
 obtain ⟨d,c,pp,bs,os,xs,f,rfl,hO,nd,Bd,hc,LX,hx,hf,q⟩:=h
 have hs:(100000:Nat)<sizeLine:=by decide
 have Tq:=hO.ln
 refine ⟨_,rfl,d,_,rfl,hO.dk,by rw[pJ Tq];omega,fun lp nl=>?_⟩
 rw[r6 Tq]
 have sL:=ai.upd (o:=HO.lst (cq bs)) nl
 have Tr:upd H lp (HO.lst (cq bs)) lp=some (HO.lst (cq bs)):=ae
 have BS:=hO.same sL
 have FU:=sL _ _ LX
 have Ts:lp≠d:=Ne.symm (ak hO.dk nl)
 generalize upd H lp (HO.lst (cq bs))=H1 at sL Tr BS FU ⊢
 have Tt:pp≠d:=fun z=>by rw[z,BS.dk]at FU;cases FU
 refine ⟨lp,rfl,⟨_,aT.of Tr⟩,?_⟩
 refine f_ (K:=K) (a:=lp) (xs:=cq bs) (fun i σ H'=> ∃(bv kv sv:Option V) (cur:List Od),σ=[some (.ref d),some (.int c),some (.ref pp),bv,kv,sv]/\cur.length=os.length/\cf H' d bs cur/\cur.drop i=os.drop i/\(cur.take i).map bj=(os.take i).map (fun o=>dG c f (bj o))/\(∀o∈cur.take i,H1 o.o=none)/\aF d H1 H')
  ⟨none,none,none,os,rfl,rfl,BS,rfl,rfl,by simp,aF.refl _ _⟩ (fun i σ H' _ ⟨_,_,_,_,_,_,_,_,_,_,s⟩=>aT.of (s _ _ Tr Ts)) ?_ ?_
 ·rintro i x σ H2 MX ⟨bv,kv,sv,cur,rfl,kA,K0,BO,Ab,tO,s2⟩
  obtain ⟨b,hb,rfl⟩:=di MX
  have hi:i<bs.length:=(List.getElem?_eq_some_iff.mp hb).1
  have hic:i<cur.length:=by omega
  have BU:i<os.length:=by omega
  have K1:cur[i]? =some os[i]:=by
   have e:=congrArg (fun l=>l[0]?) BO
   simp only[List.getElem?_drop,Nat.add_zero]at e
   rw[e,List.getElem?_eq_getElem BU]
  have kr:os[i]∈os:=List.getElem_mem BU
  have K2:os[i]∈cur:=List.mem_of_getElem? K1
  generalize wH:os[i]=o at K1 kr K2
  have xZ:=K0.ok o K2
  have tY:=K0.ne K2
  have NQ:=s2 _ _ FU Tt
  refine ⟨by show 0<=sizeLine;decide,fun p5 n5=>?_⟩
  have s5:=ai.upd (o:=HO.lst []) n5
  have h5:upd H2 p5 (HO.lst []) p5=some (HO.lst []):=ae
  have DR:=K0.same s5
  have FV:=xZ.same s5
  have NR:=s5 _ _ NQ
  have h5o:o.o≠p5:=ak xZ.tp n5
  have h5p:pp≠p5:=ak NQ n5
  generalize upd H2 p5 (HO.lst [])=H5 at s5 h5 DR FV NR ⊢
  refine ⟨_,rfl,_,rfl,d, .ref o.o,rfl,by rw[<-fz nd hb K1];exact gG.k (k:=kS [b]) DR.dk,o.o,rfl,⟨_,aT.of FV.tp⟩,?_⟩
  refine f_ (K:=K) (a:=o.o) (xs:=bS o.ps) (fun j σ H'=> ∃(sv:Option V) (us:List Pr),σ=[some (.ref d),some (.int c),some (.ref pp),some (.str (S [b])),some (.ref p5),sv]/\H' p5=some (.lst (bS us))/\(∀u∈us,dF H' u)/\us.map Pr.pair=dG c f ((o.ps.take j).map Pr.pair)/\us.length<=j/\aF p5 H5 H')
   ⟨sv,[],rfl,h5,by simp,rfl,Nat.zero_le _,aF.refl _ _⟩ (fun j σ H' _ ⟨_,_,_,_,_,_,_,s⟩=>aT.of (s _ _ FV.tp h5o)) ?_ ?_
  ·rintro j x σ H6 FW ⟨sv,us,rfl,qT,oA,ni,zK,s6⟩
   obtain ⟨p,K3,rfl⟩:=pj FW
   have iD:=List.mem_of_getElem? K3
   have hj:j<o.ps.length:=(List.getElem?_eq_some_iff.mp K3).1
   have Q1:=xZ.fw
   have FX:=FV.pr p iD
   have Tu:p.t≠p5:=fun z=>by have:=FX.tp;rw[z,h5]at this;cases this
   have Q2:=s6 _ _ FX.tp Tu
   have es:dG c f ((o.ps.take (j+1)).map Pr.pair)=dG c f ((o.ps.take j).map Pr.pair)++(jR c f p.pair).toList:=by
    rw[<-take_snoc K3,List.map_append]
    exact A_ _ _ _ _
   have tU: ∀{y:List V},aJ H6 (upd H6 p5 (.lst y)):=fun {y}=>aJ.fL qT
   have sU: ∀{y:List V},aF p5 H5 (upd H6 p5 (.lst y)):=fun {y} a u ea z=>by rw[aq z];exact s6 a u ea z
   refine ⟨_,rfl,p.t,_,0,_,rfl,rfl,aW.of Q2,rfl,_,rfl,_,_,rfl,rfl,_,rfl,cB (fun z=>?_) (fun z=>?_)⟩
   ·have z': ¬p.c=c:=fun e=>by
     have z2:(!decide ((p.c:Int)=(c:Int)))=true:=z
     rw[decide_eq_true (by omega)]at z2;cases z2
    have er:jR c f p.pair=some p.pair:=if_neg z'
    refine ⟨_,rfl, .inl ⟨rfl,_,aT.of qT⟩,_,rfl,p5,_,_,rfl,rfl,qT,by rw[aZ];omega,?_⟩
    refine ⟨_,us++[p],rfl,by rw[ae,g_],fun u hu=>?_,by rw[List.map_append,ni,es,er];rfl,by rw[List.length_append,List.length_singleton];omega,sU⟩
    rcases List.mem_append.mp hu with g | g
    ·exact (oA u g).ts tU
    ·rw[List.mem_singleton.mp g];exact (⟨Q2,FX.cz,FX.iz⟩:dF H6 p).ts tU
   ·have z':p.c=c:=by
     have z2: ¬(!decide ((p.c:Int)=(c:Int)))=true:=z
     by_cases e:p.c=c
     ·exact e
     ·rw[decide_eq_false (by omega)]at z2;exact absurd rfl z2
    have Tv:=hx o kr p iD z'
    have NS:=s6 _ _ NR h5p
    have er:jR c f p.pair=(f p.i).map fun j=>(c,j):=if_pos z'
    refine ⟨_,rfl,_,rfl,p.t,_,1,_,rfl,rfl,aW.of Q2,rfl,pp,_,_,_,rfl,rfl,aT.of NS,aR Tv,rfl,_,rfl,?_⟩
    cases Q3:f p.i with
    | none=>
     refine cO (by rfl) ?_
     refine ⟨_,us,rfl,qT,oA,by rw[es,er,Q3,ni];simp,by omega,s6⟩
    | some k=>
     rw[Q3]at Tv
     have hk:=hf o kr p iD z' k Q3
     refine gH (by rfl) ?_
     refine ⟨_,rfl, .inl ⟨rfl,_,aT.of qT⟩,_,rfl,_,rfl,_,rfl,p.t,_,1,_,rfl,rfl,aW.of Q2,rfl,pp,_,_,_,rfl,rfl,aT.of NS,aR Tv,by show 2<=sizeLine;decide,fun t nt=>?_⟩
     have st:=ai.upd (o:=HO.tup [V.int c,V.int (k:Nat)]) nt
     have DS:=st _ _ qT
     refine ⟨p5,_,_,rfl,rfl,DS,by rw[aZ];omega,?_⟩
     have tU7:=aJ.fL (o:=HO.lst (bS us++[V.ref t])) DS
     refine ⟨_,us++[⟨t,c,k⟩],rfl,by rw[ae];exact congrArg (fun x=>some (HO.lst x)) (g_ us ⟨t,c,k⟩),fun u hu=>?_,by rw[List.map_append,ni,es,er,Q3];rfl,by rw[List.length_append,List.length_singleton];omega,fun a u ea z=>by rw[aq z];exact st _ _ (s6 a u ea z)⟩
     rcases List.mem_append.mp hu with g | g
     ·exact (oA u g).ts ((aJ.of st).trans tU7)
     ·rw[List.mem_singleton.mp g];exact ⟨tU7 _ _ ae,hc,hk⟩
  ·rintro σ H6 ⟨sv,us,rfl,qT,oA,ni,zK,s6⟩
   rw[aZ,List.take_length]at ni
   rw[aZ]at zK
   have Q1:=xZ.fw
   have zL:p5≠d:=Ne.symm (ak K0.dk n5)
   have t56:aJ H5 H6:=fun a ys e=>s6 a _ e fun z=>by rw[z,h5]at e;cases e
   have lU: ∀o'∈cur,o'.o≠p5:=fun o' jN=>ak (K0.ok o' jN).tp n5
   have Eu:cf H6 d bs cur:=⟨s6 _ _ DR.dk (Ne.symm zL),DR.ln,DR.nd,fun o' jN=>(DR.ok o' jN).NC s6 (lU o' jN) t56⟩
   have new:=Eu.put nd hb (o':=⟨p5,us⟩) ⟨qT,oA,by show us.length<=100;omega⟩ zL lU
   refine ⟨_,rfl,_,rfl,_,rfl,d,_,rfl,qF.k (k:=kS [b]) Eu.dk (by rw[pJ Eu.ln];omega),?_⟩
   have yh:os[i]? =some o:=by rw[List.getElem?_eq_getElem BU,wH]
   refine ⟨_,_,_,cur.set i ⟨p5,us⟩,rfl,by rw[List.length_set];exact kA,new,?_,?_,fun o' jN=>?_,fun a u ea z=>?_⟩
   ·rw[set_drop]
    have:=congrArg (List.drop 1) BO
    rw[List.drop_drop,List.drop_drop]at this
    exact this
   ·rw[vU _ _ _ hic,List.map_append,Ab, <-take_snoc yh,List.map_append]
    show _++[us.map Pr.pair]=_++[dG c f (bj o)]
    rw[ni]
    rfl
   ·rw[vU _ _ _ hic]at jN
    rcases List.mem_append.mp jN with g | g
    ·exact tO o' g
    ·rw[List.mem_singleton.mp g];exact s2.none n5 zL
   ·rw[aq z]
    have ez:=s2 a u ea z
    exact s6 _ _ (s5 _ _ ez) (ak ez n5)
 ·rintro σ H2 ⟨bv,kv,sv,cur,rfl,kA,K0,BO,Ab,tO,s2⟩
  rw[aU, <-Tq]at Ab tO
  rw[<-kA,List.take_length]at tO
  rw[List.take_length, <-kA,List.take_length]at Ab
  exact q cur H2 K0 Ab (fun o ho=>ai.free sL (tO o ho)) (fun a u ea z=>s2 a u (sL a u ea) z)
theorem Bu:bE P w K mg base eI 2 Hg Qw ["words","orders","cord","place"] (r_ K):=by
 have bJ:=dc (P:=P) (w:=w) (base:=base) T
 have gz:=jt (P:=P) (w:=w) (base:=base) T
 refine T.Kv.fn.ok sO (fun vs H Q E h=>xX h) (fun cM A outer s H vs Q E hr h=>?_)
 refine ⟨_,(af (au (i:=4) sO.nd rfl (Or.inl rfl) (az (ba K rfl) (pv 0) (pv 2) (fun _ _=>rfl)))
   (af (bC (PW.pt (kC (j9 (i9 oh gY ag (pv 3) (aK cX (ar a_ rfl T.z_len PySem.boot_len (aa (pv 4) ab)) ag))) (i4 (aB oO (az ka (pv 4) (aK bV (pv 3) ag) (fun _ _=>rfl)) (ao bJ (hr.mono (by decide)) rfl T.F0.mg T.F0.fn.kp T.F0.bd .nil aA (aa (az ka (pv 4) (pv 3) (fun _ _=>rfl)) ab)) (aM _))))) (ah (aD gI)) aV)
   (af (i7 (aK fK (bF kN (pv 4) cg (bK (pv 3))) (bF kN (pv 4) (bK (aK bV (pv 3) ag)) cg)) (j_ (pv 0) (pv 2) set_list))
   (af (aY (ao gz (hr.mono (by decide)) rfl T.Bq.mg T.Bq.fn.kp T.Bq.bd .nil aA (aa (pv 1) (aa (pv 2) (aa (aK i_ (aK i_ (ji rfl rfl T.z_list rfl T.z_range (aa (pv 3) ab)) (bz (aa eP (aa eP ab)))) (mT rfl rfl T.z_list rfl T.z_range (aa (pv 3) (aa (aK cX (ar a_ rfl T.z_len PySem.boot_len (aa (pv 4) ab)) ag) ab)))) ab)))))
   (ah (aD gI)))))),?_⟩
 obtain ⟨d,wl,bs,os,ws,c,k,w,x,rfl,hH,hw,hk0,LW,q⟩:=h
 have hs:(100000:Nat)<sizeLine:=by decide
 have NT:(bw ws)[c]? =some (.str (S w)):=by unfold bw;rw[List.getElem?_map,hw];rfl
 obtain ⟨Tw,uE⟩:=hH.wo w (List.mem_of_getElem? hw)
 have Ew:c<ws.length:=(List.getElem?_eq_some_iff.mp hw).1
 have Tx:=hH.wz
 have Ia:k+1<w.length:=(List.getElem?_eq_some_iff.mp LW).1
 have Kd:=Tw x (List.mem_of_getElem? hk0)
 have ek:(k:Int)+1=((k+1:Nat):Int):=by omega
 have ek2:(k:Int)+2=((k+2:Nat):Int):=by omega
 refine ⟨_,rfl,_,rfl,wl,_,_,_,rfl,rfl,aT.of hH.wd,aR NT,?_⟩
 refine ⟨_,rfl,_,_,rfl,rfl,_,rfl,gH (decide_eq_true (by omega)) ⟨_,rfl,w,rfl,by omega,_,_,rfl,rfl,_,_,rfl,rfl,_,rfl,cO (by rw[decide_eq_true (by omega)];rfl) ?_⟩⟩
 refine ⟨_,rfl,_,rfl,_,_,rfl,rfl,w,_,bb x,rfl,rfl,by omega,by rw[ek];exact aR LW,?_⟩
 refine ⟨_,rfl,_,rfl,w,_,x,rfl,rfl,by omega,aR hk0,x,rfl,Kd.lt,_,_,rfl,rfl,_,rfl,cO (by rw[decide_eq_true rfl];rfl) ?_⟩
 refine ⟨_,rfl,_,rfl,_,rfl,w,rfl,by omega,?_⟩
 refine ⟨_,rfl,_,rfl,_,_,rfl,rfl,_,rfl,w,rfl,by omega,_,_,rfl,rfl,by rw[ek2,lA,cE];simp;omega,_,rfl,_,rfl,wl,_,_,c,rfl,rfl,hH.wd,by rw[aN];exact lx Ew,?_⟩
 rw[ek2,lA,cE,um]
 have BS:cf (upd H wl (.lst (bw (ws.set c (w.take k++w.drop (k+2)))))) d bs os:=hH.od.Kb hH.ne hH.wd
 have fin: ∀H3,ai (upd H wl (.lst (bw (ws.set c (w.take k++w.drop (k+2)))))) H3->_:=fun H3 s3=>vZ hH q s3
 generalize upd H wl (.lst (bw (ws.set c (w.take k++w.drop (k+2)))))=H1 at BS fin ⊢
 refine ⟨_,rfl,_,rfl,_,rfl,_,rfl,by omega,by omega,fun p1 n1=>?_⟩
 have s1:=ai.upd (o:=HO.lst ((List.range ((k:Int)).toNat).map fun (j:Nat)=>V.int (0+(j:Int)))) n1
 have h1:upd H1 p1 (HO.lst ((List.range ((k:Int)).toNat).map fun (j:Nat)=>V.int (0+(j:Int)))) p1=_:=ae
 generalize upd H1 p1 (HO.lst ((List.range ((k:Int)).toNat).map fun (j:Nat)=>V.int (0+(j:Int))))=H2 at s1 h1 ⊢
 refine ⟨by show 2<=sizeLine;decide,fun p2 n2=>?_⟩
 have s2:=ai.upd (o:=HO.lst [V.ck,V.ck]) n2
 refine ⟨p1,p2,_,_,rfl,rfl,s2 _ _ h1,ae,by simp;omega,fun p3 n3=>?_⟩
 have s3:=ai.upd (o:=HO.lst (((List.range ((k:Int)).toNat).map fun (j:Nat)=>V.int (0+(j:Int)))++[V.ck,V.ck])) n3
 have zM:=(s1.trans s2).trans s3
 have h3:upd (upd H2 p2 (HO.lst [V.ck,V.ck])) p3 (HO.lst (((List.range ((k:Int)).toNat).map fun (j:Nat)=>V.int (0+(j:Int)))++[V.ck,V.ck])) p3=_:=ae
 generalize upd (upd H2 p2 (HO.lst [V.ck,V.ck])) p3 (HO.lst (((List.range ((k:Int)).toNat).map fun (j:Nat)=>V.int (0+(j:Int)))++[V.ck,V.ck]))=H3 at zM h3 ⊢
 refine ⟨_,rfl,_,rfl,w,rfl,by omega,_,_,rfl,rfl,_,_,rfl,by omega,by omega,fun p4 n4=>?_⟩
 have s4:=ai.upd (o:=HO.lst ((List.range ((w.length:Int) - 2 - (k:Int)).toNat).map fun (j:Nat)=>V.int ((k:Int)+(j:Int)))) n4
 refine ⟨p3,p4,_,_,rfl,rfl,s4 _ _ h3,ae,by simp;omega,fun p5 n5=>?_⟩
 have s5:=ai.upd (o:=HO.lst (((List.range ((k:Int)).toNat).map fun (j:Nat)=>V.int (0+(j:Int)))++[V.ck,V.ck]++(List.range ((w.length:Int) - 2 - (k:Int)).toNat).map fun (j:Nat)=>V.int ((k:Int)+(j:Int)))) n5
 have Fg:=(zM.trans s4).trans s5
 refine ⟨d,c,p5,bs,os,_,outF k,rfl,BS.same Fg,hH.nd,hH.bl,by omega,ae,hH.pl hw fun i hi=>Kc Ia hi,hH.pb hw fun i j hi e=>?_,fin _ Fg⟩
 unfold outF at e
 split at e
 ·cases e;omega
 ·split at e
  ·cases e
  ·cases e;omega
theorem yk:bE P w K mg base eI 2 Hi Qy ["words","orders","cord"] (pL K):=by
 have gz:=jt (P:=P) (w:=w) (base:=base) T
 refine T.Kx.fn.ok qh (fun vs H Q E h=>vW h) (fun cM A outer s H vs Q E hr h=>?_)
 refine ⟨_,(af (au (i:=3) qh.nd rfl (Or.inl rfl) (az (ba K rfl) (pv 0) (pv 2) (fun _ _=>rfl)))
   (af (i7 (aK fK (bF kN (pv 3) (bK ag) cg) (bF kN (pv 3) cg (bK ag))) (j_ (pv 0) (pv 2) set_list))
   (af (aY (ao gz (hr.mono (by decide)) rfl T.Bq.mg T.Bq.fn.kp T.Bq.bd .nil aA (aa (pv 1) (aa (pv 2) (aa (aK i_ (bz (aa (aK cX (ar a_ rfl T.z_len PySem.boot_len (aa (pv 3) ab)) ag) ab)) (ji rfl rfl T.z_list rfl T.z_range (aa (aK cX (ar a_ rfl T.z_len PySem.boot_len (aa (pv 3) ab)) ag) ab))) ab)))))
   (ah (aD gI))))),?_⟩
 obtain ⟨d,wl,bs,os,ws,c,w,rfl,hH,hw,q⟩:=h
 have hs:(100000:Nat)<sizeLine:=by decide
 have NT:(bw ws)[c]? =some (.str (S w)):=by unfold bw;rw[List.getElem?_map,hw];rfl
 refine ⟨_,rfl,_,rfl,wl,_,_,_,rfl,rfl,aT.of hH.wd,aR NT,?_⟩
 obtain ⟨Tw,uE⟩:=hH.wo w (List.mem_of_getElem? hw)
 have Ew:c<ws.length:=(List.getElem?_eq_some_iff.mp hw).1
 have Tx:=hH.wz
 refine ⟨_,rfl,_,rfl,w,rfl,by omega,_,rfl,_,rfl,w,rfl,by omega,_,_,rfl,rfl,by rw[zm,vY];simp;omega,_,rfl,_,rfl,wl,_,_,c,rfl,rfl,hH.wd,by rw[aN];exact lx Ew,?_⟩
 rw[zm,vY,um]
 have BS:cf (upd H wl (.lst (bw (ws.set c (w.drop 1++w.take 1))))) d bs os:=hH.od.Kb hH.ne hH.wd
 have fin: ∀H3,ai (upd H wl (.lst (bw (ws.set c (w.drop 1++w.take 1))))) H3->_:=fun H3 s3=>vZ hH q s3
 generalize upd H wl (.lst (bw (ws.set c (w.drop 1++w.take 1))))=H1 at BS fin ⊢
 refine ⟨_,rfl,_,rfl,_,rfl,w,rfl,by omega,_,_,rfl,rfl,by show 1<=sizeLine;decide,fun p1 n1=>?_⟩
 have s1:=ai.upd (o:=HO.lst [V.int ((w.length:Int) - 1)]) n1
 have h1:upd H1 p1 (HO.lst [V.int ((w.length:Int) - 1)]) p1=some (HO.lst [V.int ((w.length:Int) - 1)]):=ae
 generalize upd H1 p1 (HO.lst [V.int ((w.length:Int) - 1)])=H2 at s1 h1 ⊢
 refine ⟨_,rfl,w,rfl,by omega,_,_,rfl,rfl,_,rfl,by omega,by omega,fun p2 n2=>?_⟩
 have s2:=ai.upd (o:=HO.lst ((List.range ((w.length:Int) - 1).toNat).map fun (k:Nat)=>V.int (0+(k:Int)))) n2
 refine ⟨p1,p2,_,_,rfl,rfl,s2 _ _ h1,ae,by simp;omega,fun p3 n3=>?_⟩
 have s3:=ai.upd (o:=HO.lst ([V.int ((w.length:Int) - 1)]++(List.range ((w.length:Int) - 1).toNat).map fun (k:Nat)=>V.int (0+(k:Int)))) n3
 have zM:=(s1.trans s2).trans s3
 refine ⟨d,c,p3,bs,os,_,iP w.length,rfl,BS.same zM,hH.nd,hH.bl,by omega,ae,hH.pl hw fun i hi=>FJ hi,hH.pb hw fun i j hi e=>?_,fin _ zM⟩
 unfold iP at e
 split at e<;>(cases e;omega)
theorem DT:bE P w K mg base eI 2 Hh Qx ["words","orders","cord","place","letter","number"] (v3 K):=by
 have bJ:=dc (P:=P) (w:=w) (base:=base) T
 have gz:=jt (P:=P) (w:=w) (base:=base) T
 refine T.Kw.fn.ok qg (fun vs H Q E h=>Ba h) (fun cM A outer s H vs Q E hr h=>?_)
 refine ⟨_,(af (au (i:=6) qg.nd rfl (Or.inl rfl) (az (ba K rfl) (pv 0) (pv 2) (fun _ _=>rfl)))
   (af (au (i:=7) qg.nd rfl (Or.inl rfl) (fh (gc hr) (pv 1) (dN K rfl PySem.F.plainAttrs_str PySem.F.slot_str_lower PySem.F.type_str_lower gZ (pv 4)) (fun _ _=>rfl)))
   (af (bC (PW.pt (kC (j9 (i9 oh oh ag (pv 3) (ar a_ rfl T.z_len PySem.boot_len (aa (pv 6) ab)))) (i4 (j9 (i9 oh oh ag (pv 5) (ar (ay K rfl) rfl T.z_len PySem.boot_len (aa (pv 7) ab))))))) (ah (aD gI)) aV)
   (af (i7 (aK fK (aK fK (aK fK (bF kN (pv 6) cg (bK (pv 3))) (pv 4)) (ao bJ (hr.mono (by decide)) rfl T.F0.mg T.F0.fn.kp T.F0.bd .nil aA (aa (pv 4) ab))) (bF kN (pv 6) (bK (pv 3)) cg)) (j_ (pv 0) (pv 2) set_list))
   (af (aY (ao gz (hr.mono (by decide)) rfl T.Bq.mg T.Bq.fn.kp T.Bq.bd .nil aA (aa (pv 1) (aa (pv 2) (aa (aK i_ (ji rfl rfl T.z_list rfl T.z_range (aa (pv 3) ab)) (mT rfl rfl T.z_list rfl T.z_range (aa (aK bV (pv 3) ag) (aa (aK bV (ar a_ rfl T.z_len PySem.boot_len (aa (pv 6) ab)) ag) ab)))) ab)))))
   (af (aY (aX K rfl PySem.F.plainAttrs_list PySem.F.slot_list_insert PySem.F.type_list_insert mv (fh (gc hr) (pv 1) (dN K rfl PySem.F.plainAttrs_str PySem.F.slot_str_lower PySem.F.type_str_lower gZ (pv 4)) (fun _ _=>rfl)) (aa (pv 5) (aa (bD (aa (pv 2) (aa (aK bV (pv 3) ag) ab))) ab))))
   (af (aY (aX K rfl PySem.F.plainAttrs_list PySem.F.slot_list_insert PySem.F.type_list_insert mv (fh (gc hr) (pv 1) (dN K rfl PySem.F.plainAttrs_str PySem.F.slot_str_lower PySem.F.type_str_lower gZ (pv 4)) (fun _ _=>rfl)) (aa (pv 5) (aa (bD (aa (pv 2) (aa (pv 3) ab))) ab))))
   (ah (aD gI))))))))),?_⟩
 obtain ⟨d,wl,bs,os,ws,c,k,n,j,w,x,o,rfl,hH,hw,hk,hx,hb,ho,hn,wY,q⟩:=h
 have hs:(100000:Nat)<sizeLine:=by decide
 have NT:(bw ws)[c]? =some (.str (S w)):=by unfold bw;rw[List.getElem?_map,hw];rfl
 obtain ⟨Tw,uE⟩:=hH.wo w (List.mem_of_getElem? hw)
 have Ew:c<ws.length:=(List.getElem?_eq_some_iff.mp hw).1
 have Tx:=hH.wz
 have xZ:=hH.od.ok o (List.mem_of_getElem? ho)
 have dg:gG H d (V.str (S [PyProof.Rows.lo1 x])) (some (.ref o.o)):=by rw[<-fz hH.nd hb ho];exact gG.k (k:=kS [PyProof.Rows.lo1 x]) hH.od.dk
 refine ⟨_,rfl,_,rfl,wl,_,_,_,rfl,rfl,aT.of hH.wd,aR NT,?_⟩
 refine ⟨_,rfl,_,rfl,rfl,?_⟩
 refine ⟨x,rfl,rfl,hx.lt,d,_,rfl,dg,?_⟩
 refine ⟨_,rfl,_,_,rfl,rfl,_,rfl,gH (decide_eq_true (by omega)) ⟨_,rfl,w,rfl,by omega,_,_,rfl,rfl,_,rfl,cO (by rw[decide_eq_true (by omega)];rfl) ?_⟩⟩
 refine ⟨_,rfl,_,_,rfl,rfl,_,rfl,gH (decide_eq_true (by omega)) ⟨_,rfl,o.o,_,rfl, .inl (aT.of xZ.tp),_,_,rfl,rfl,_,rfl,cO (by rw[aZ,decide_eq_true (by omega)];rfl) ?_⟩⟩
 refine ⟨_,rfl,_,rfl,_,rfl,w,rfl,by omega,_,rfl,_,[x],rfl,rfl,by rw[lA];simp;omega,?_⟩
 refine ⟨_,rfl,x,rfl,hx.lt,_,[bb x],rfl,rfl,by rw[lA];simp;omega,?_⟩
 refine ⟨_,rfl,_,rfl,_,rfl,w,rfl,by omega,_,_,rfl,rfl,by rw[lA,cE];simp;omega,_,rfl,_,rfl,wl,_,_,c,rfl,rfl,hH.wd,by rw[aN];exact lx Ew,?_⟩
 rw[lA,cE,um]
 have BS:cf (upd H wl (.lst (bw (ws.set c (w.take k++[x]++[bb x]++w.drop k))))) d bs os:=hH.od.Kb hH.ne hH.wd
 have fac: ∀H3,ai (upd H wl (.lst (bw (ws.set c (w.take k++[x]++[bb x]++w.drop k))))) H3-> ∀(os':List Od) (H':Hp),_->_->_:=fun H3 s3 os' H'=>x3 (os':=os') (H':=H') hH s3
 generalize upd H wl (.lst (bw (ws.set c (w.take k++[x]++[bb x]++w.drop k))))=H1 at BS fac ⊢
 refine ⟨_,rfl,_,rfl,_,rfl,_,rfl,by omega,by omega,fun p1 n1=>?_⟩
 have s1:=ai.upd (o:=HO.lst ((List.range ((k:Int)).toNat).map fun (j:Nat)=>V.int (0+(j:Int)))) n1
 have h1:upd H1 p1 (HO.lst ((List.range ((k:Int)).toNat).map fun (j:Nat)=>V.int (0+(j:Int)))) p1=_:=ae
 generalize upd H1 p1 (HO.lst ((List.range ((k:Int)).toNat).map fun (j:Nat)=>V.int (0+(j:Int))))=H2 at s1 h1 ⊢
 refine ⟨_,rfl,_,_,rfl,rfl,_,rfl,w,rfl,by omega,_,_,rfl,rfl,_,_,rfl,by omega,by omega,fun p4 n4=>?_⟩
 have s4:=ai.upd (o:=HO.lst ((List.range ((w.length:Int)+2 - ((k:Int)+2)).toNat).map fun (j:Nat)=>V.int ((k:Int)+2+(j:Int)))) n4
 refine ⟨p1,p4,_,_,rfl,rfl,s4 _ _ h1,ae,by simp;omega,fun p5 n5=>?_⟩
 have s5:=ai.upd (o:=HO.lst (((List.range ((k:Int)).toNat).map fun (j:Nat)=>V.int (0+(j:Int)))++(List.range ((w.length:Int)+2 - ((k:Int)+2)).toNat).map fun (j:Nat)=>V.int ((k:Int)+2+(j:Int)))) n5
 have Fg:=(s1.trans s4).trans s5
 refine ⟨d,c,p5,bs,os,_,nA k,rfl,BS.same Fg,hH.nd,hH.bl,by omega,ae,hH.pl hw fun i hi=>ND hk hi,hH.pb hw fun i j hi e=>?_,fun LY H6 Eu AN tO s6=>?_⟩
 ·unfold nA at e
  split at e<;>(cases e;omega)
 obtain ⟨f1,f2,f3⟩:=fac _ Fg LY H6 tO s6
 have BP:j<LY.length:=by
  have:=congrArg List.length AN
  rw[List.length_map,List.length_map]at this
  rw[this]
  exact (List.getElem?_eq_some_iff.mp ho).1
 have Ej:LY[j]? =some LY[j]:=List.getElem?_eq_getElem BP
 generalize hoj:LY[j]=o1 at Ej
 have fi:bj o1=dG c (nA k) (bj o):=by
  have:=congrArg (fun l=>l[j]?) AN
  simp only[List.getElem?_map,Ej,ho]at this
  exact Option.some.inj this
 have Tz:o1.ps.length=o.ps.length:=by
  have:=congrArg List.length fi
  rw[m5]at this
  unfold bj at this
  rwa [List.length_map,List.length_map]at this
 have DU:=List.mem_of_getElem? Ej
 have NU:=Eu.ok o1 DU
 have dg1:gG H6 d (V.str (S [PyProof.Rows.lo1 x])) (some (.ref o1.o)):=by rw[<-fz hH.nd hb Ej];exact gG.k (k:=kS [PyProof.Rows.lo1 x]) Eu.dk
 refine ⟨_,rfl,_,rfl,rfl,x,rfl,rfl,hx.lt,d,_,rfl,dg1, .inl ⟨rfl,_,aT.of NU.tp⟩,?_⟩
 refine ⟨_,rfl,_,rfl,_,rfl,_,_,rfl,rfl,by show 2<=sizeLine;decide,fun t1 NV=>?_⟩
 have ek:(k:Int)+1=((k+1:Nat):Int):=by omega
 rw[show (fun i j:Int=>V.int (i+j)) (k:Int) 1=V.int ((k+1:Nat):Int) from congrArg V.int ek]
 have vf:=ai.upd (o:=HO.tup [V.int c,V.int ((k+1:Nat):Int)]) NV
 have yl:upd H6 t1 (HO.tup [V.int c,V.int ((k+1:Nat):Int)]) t1=some (HO.tup [V.int c,V.int ((k+1:Nat):Int)]):=ae
 have NW:=Eu.same vf
 have tp7:=vf _ _ NU.tp
 generalize upd H6 t1 (HO.tup [V.int c,V.int ((k+1:Nat):Int)])=H7 at vf yl NW tp7 ⊢
 refine ⟨o1.o,_,n,_,rfl,rfl,tp7,by rw[aZ];omega,by rw[aZ];omega,?_⟩
 rw[show (bS o1.ps).take n++V.ref t1::(bS o1.ps).drop n=bS (o1.ps.take n++(⟨t1,c,k+1⟩:Pr)::o1.ps.drop n) from zo o1.ps n ⟨t1,c,k+1⟩]
 generalize FY:o1.ps.take n++(⟨t1,c,k+1⟩:Pr)::o1.ps.drop n=qu
 have abe:qu.length=o1.ps.length+1:=by rw[<-FY];simp;omega
 have NX: ∀p∈qu,p∈o1.ps\/p=⟨t1,c,k+1⟩:=fun p hp=>by
  rw[<-FY]at hp
  rcases List.mem_append.mp hp with g | g
  ·exact .inl (List.mem_of_mem_take g)
  ·rcases List.mem_cons.mp g with g | g
   ·exact .inr g
   ·exact .inl (List.mem_of_mem_drop g)
 have TB: ∀p∈qu,dF H7 p:=fun p hp=>by
  rcases NX p hp with g | g
  ·exact (NW.ok o1 DU).pr p g
  ·rw[g];exact ⟨yl,by show c<1000;omega,by show k+1<1000;omega⟩
 have LZ:=NW.mut Ej TB (by omega)
 have h8:upd H7 o1.o (HO.lst (bS qu)) o1.o=some (HO.lst (bS qu)):=ae
 have TC:aF o1.o H7 (upd H7 o1.o (HO.lst (bS qu))):=fun a u ea z=>by rw[aq z];exact ea
 generalize upd H7 o1.o (HO.lst (bS qu))=H8 at LZ h8 TC ⊢
 have K4:(LY.set j ⟨o1.o,qu⟩)[j]? =some ⟨o1.o,qu⟩:=List.getElem?_set_self BP
 have dg2:gG H8 d (V.str (S [PyProof.Rows.lo1 x])) (some (.ref o1.o)):=by rw[<-fz hH.nd hb K4];exact gG.k (k:=kS [PyProof.Rows.lo1 x]) LZ.dk
 refine ⟨_,rfl,_,rfl,rfl,x,rfl,rfl,hx.lt,d,_,rfl,dg2, .inl ⟨rfl,_,aT.of h8⟩,?_⟩
 refine ⟨_,rfl,_,rfl,_,rfl,by show 2<=sizeLine;decide,fun t2 L0=>?_⟩
 have lR:=ai.upd (o:=HO.tup [V.int c,V.int k]) L0
 have Ex:upd H8 t2 (HO.tup [V.int c,V.int k]) t2=some (HO.tup [V.int c,V.int k]):=ae
 have TF:=LZ.same lR
 have h9:=lR _ _ h8
 generalize upd H8 t2 (HO.tup [V.int c,V.int k])=H9 at lR Ex TF h9 ⊢
 refine ⟨o1.o,_,n,_,rfl,rfl,h9,by rw[aZ];omega,by rw[aZ];omega,?_⟩
 rw[show (bS qu).take n++V.ref t2::(bS qu).drop n=bS (qu.take n++(⟨t2,c,k⟩:Pr)::qu.drop n) from zo qu n ⟨t2,c,k⟩]
 have FZ: ∀p∈qu.take n++(⟨t2,c,k⟩:Pr)::qu.drop n,dF H9 p:=fun p hp=>by
  have old: ∀p∈qu,dF H9 p:=fun p hp=>(TF.ok ⟨o1.o,qu⟩ (List.mem_of_getElem? K4)).pr p hp
  rcases List.mem_append.mp hp with g | g
  ·exact old p (List.mem_of_mem_take g)
  ·rcases List.mem_cons.mp g with g | g
   ·rw[g];exact ⟨Ex,by show c<1000;omega,by show k<1000;omega⟩
   ·exact old p (List.mem_of_mem_drop g)
 have hOA:=TF.mut K4 FZ (by simp;omega)
 rw[List.set_set]at hOA
 have e1:qu.take n=o1.ps.take n:=by rw[<-FY,List.take_append_of_le_length (by rw[List.length_take];omega),List.take_take,Nat.min_self]
 have e2:qu.drop n=(⟨t1,c,k+1⟩:Pr)::o1.ps.drop n:=by
  rw[<-FY,List.drop_append_of_le_length (by rw[List.length_take];omega),List.drop_of_length_le (by rw[List.length_take];omega)]
  rfl
 have NY:wl≠o1.o:=fun z=>by have:=f2 o1 DU;rw[<-z,hH.wd]at this;cases this
 refine q _ _ hOA ?_ ?_ (fun o' jN=>?_) fun a u ea za zb=>?_
 ·rw[List.map_set,AN]
  congr 1
  unfold bj
  show (qu.take n++(⟨t2,c,k⟩:Pr)::qu.drop n).map Pr.pair=put2 n (c,k) (c,k+1) (dG c (nA k) (bj o))
  rw[<-fi,e1,e2]
  unfold put2 bj
  rw[List.map_append,List.map_cons,List.map_cons,List.map_take,List.map_drop]
  rfl
 ·rw[aq NY];exact lR _ _ (TC _ _ (vf _ _ f1) NY)
 ·rcases List.mem_or_eq_of_mem_set jN with g | g
  ·exact f2 o' g
  ·rw[g];exact f2 o1 DU
 ·have lU:a≠o1.o:=ak ea (f2 o1 DU)
  rw[aq lU]
  exact lR _ _ (TC _ _ (vf _ _ (f3 a u ea za zb)) lU)
theorem ym:bE P w K mg base eI 3 Hj Qz ["yard","words","orders","deed"] (pM K):=by
 have Bv:=yg (P:=P) (w:=w) (base:=base) T
 have DV:=Bu (P:=P) (w:=w) (base:=base) T
 have Bw:=yk (P:=P) (w:=w) (base:=base) T
 have F_:=DT (P:=P) (w:=w) (base:=base) T
 refine T.Ky.fn.ok ye (fun vs H Q E h=>v5 h) (fun cM A outer s H vs Q E hr h=>?_)
 refine ⟨_,(af (bC (aB eQ (az (ax K rfl) (pv 3) ag (fun _ _=>rfl)) (dh [115,119,97,112] (by decide+kernel)) (aM _)) (ah (aD (ao Bv (hr.mono (by decide)) rfl T.Ku.mg T.Ku.fn.kp T.Ku.bd .nil aA (aa (pv 2) (aa (az (ax K rfl) (pv 3) ag (fun _ _=>rfl)) (aa (az (ax K rfl) (pv 3) ag (fun _ _=>rfl)) ab)))))) aV)
   (af (bC (j9 (i9 oh gY ag (az (ax K rfl) (pv 3) ag (fun _ _=>rfl)) (ar (ay K rfl) rfl T.z_len PySem.boot_len (aa (pv 1) ab)))) (ah (aD gI)) aV)
   (af (bC (aB eQ (az (ax K rfl) (pv 3) ag (fun _ _=>rfl)) (dh [111,117,116] (by decide+kernel)) (aM _)) (ah (aD (ao DV (hr.mono (by decide)) rfl T.Kv.mg T.Kv.fn.kp T.Kv.bd .nil aA (aa (pv 1) (aa (pv 2) (aa (az (ax K rfl) (pv 3) ag (fun _ _=>rfl)) (aa (az (ax K rfl) (pv 3) ag (fun _ _=>rfl)) ab))))))) aV)
   (af (bC (aB eQ (az (ax K rfl) (pv 3) ag (fun _ _=>rfl)) (dh [116,117,114,110] (by decide+kernel)) (aM _)) (ah (aD (ao Bw (hr.mono (by decide)) rfl T.Kx.mg T.Kx.fn.kp T.Kx.bd .nil aA (aa (pv 1) (aa (pv 2) (aa (az (ax K rfl) (pv 3) ag (fun _ _=>rfl)) ab)))))) aV)
   (af (bC (PW.pt (i5 (aB eQ (az (ax K rfl) (pv 3) ag (fun _ _=>rfl)) (dh [105,110] (by decide+kernel)) (aM _)) (jw (aB (xr K rfl) (az (ax K rfl) (pv 3) ag (fun _ _=>rfl)) (bh (kc rfl) rfl T.z_list boot_list (aa (pv 0) ab)) (by with_unfolding_all rfl))))) (ah (aD (ao F_ (hr.mono (by decide)) rfl T.Kw.mg T.Kw.fn.kp T.Kw.bd .nil aA (aa (pv 1) (aa (pv 2) (aa (az (ax K rfl) (pv 3) ag (fun _ _=>rfl)) (aa (az (ax K rfl) (pv 3) ag (fun _ _=>rfl)) (aa (az (ax K rfl) (pv 3) ag (fun _ _=>rfl)) (aa (az (ax K rfl) (pv 3) ag (fun _ _=>rfl)) ab))))))))) aV)
   (ah (aD gI))))))),?_⟩
 obtain ⟨y,d,wl,a,os,ws,e,rfl,hy,hz,hH,hlen,ha,bu,q⟩:=h
 have hs:(100000:Nat)<sizeLine:=by decide
 have Tx:=hH.wz
 cases e with
 | swap b n=>
  have h:H a=some (.tup [.str (S G4), .str (S [b]), .int n]):=ha
  obtain ⟨hb,hn⟩:=bu
  have hj:=List.idxOf_lt_length_of_mem hb
  have TH:(aC y)[(aC y).idxOf b]? =some b:=by rw[List.getElem?_eq_getElem hj,List.getElem_idxOf hj]
  have TJ:(aC y).idxOf b<os.length:=by rw[hH.od.ln];exact hj
  have ho:os[(aC y).idxOf b]? =some (os[(aC y).idxOf b]):=List.getElem?_eq_getElem TJ
  generalize os[(aC y).idxOf b]=o at ho
  have eL:(os.map bj).getD ((aC y).idxOf b) []=bj o:=bM (by rw[List.getElem?_map,ho];rfl)
  rw[eL]at hn
  refine ⟨_,rfl,a,_,0,_,rfl,rfl,aW.of h,rfl,_,_,rfl,rfl,_,rfl,gH (by decide) ?_⟩
  refine ⟨_,rfl,_,rfl,a,_,1,_,rfl,rfl,aW.of h,rfl,_,rfl,a,_,2,_,rfl,rfl,aW.of h,rfl,?_⟩
  refine ⟨d,aC y,os,b,_,n,o,rfl,hH.od,hH.nd,hH.bl,TH,ho,by unfold bj at hn;rwa [List.length_map]at hn,fun H' hO' s'=>?_⟩
  have kr:=List.mem_of_getElem? ho
  refine q _ H' hO' ?_ (s' _ _ hH.wd (Ne.symm (hH.ne o kr))) (fun o' jN=> .inr ?_) fun x u ex _ _ zx=>s' x u ex fun z=>zx (by rw[z];exact List.mem_map.mpr ⟨o,kr,rfl⟩)
  ·rw[List.map_set]
   show (os.map bj).set _ ((swapAt n o.ps).map Pr.pair)=(os.map bj).set _ (iQ n ((os.map bj).getD _ []))
   rw[eL,Dj]
   rfl
  ·rcases List.mem_or_eq_of_mem_set jN with g | g
   ·exact List.mem_map.mpr ⟨o',g,rfl⟩
   ·rw[g];exact List.mem_map.mpr ⟨o,kr,rfl⟩
 | out c k=>
  have h:H a=some (.tup [.str (S NF), .int c, .int k]):=ha
  obtain ⟨hc,x,hx0,hx1⟩:=bu
  have hw:ws[c]? =some ws[c]:=List.getElem?_eq_getElem hc
  have ew:=bM (x:=[]) hw
  generalize hwe:ws[c]=w at hw ew
  rw[ew]at hx0 hx1
  refine ⟨_,rfl,a,_,0,_,rfl,rfl,aW.of h,rfl,_,_,rfl,rfl,_,rfl,cO (by decide) ?_⟩
  refine ⟨_,rfl,a,_,1,_,rfl,rfl,aW.of h,rfl,_,_,rfl,rfl,_,rfl,gH (decide_eq_true (by omega)) ⟨_,rfl,wl,_,rfl, .inl (aT.of hH.wd),_,_,rfl,rfl,_,rfl,cO (by rw[aN,decide_eq_true (by omega)];rfl) ?_⟩⟩
  refine ⟨_,rfl,a,_,0,_,rfl,rfl,aW.of h,rfl,_,_,rfl,rfl,_,rfl,gH (by decide) ?_⟩
  refine ⟨_,rfl,_,rfl,_,rfl,a,_,1,_,rfl,rfl,aW.of h,rfl,_,rfl,a,_,2,_,rfl,rfl,aW.of h,rfl,?_⟩
  refine ⟨d,wl,aC y,os,ws,c,k,w,x,rfl,hH,hw,hx0,hx1,fun os' H' g1 g2 g3 g4 g5=>?_⟩
  refine q os' H' g1 ?_ ?_ (fun o ho=> .inl (g4 o ho)) fun x u ex z1 z2 _=>g5 x u ex z1 z2
  ·rw[g2];show _=(os.map bj).map (dG c (outF k));rw[List.map_map];rfl
  ·show _=some (HO.lst (bw (ws.set c ((ws.getD c []).take k++(ws.getD c []).drop (k+2)))));rw[ew];exact g3
 | turn c=>
  have h:H a=some (.tup [.str (S G5), .int c]):=ha
  have hc:c<ws.length:=bu
  have hw:ws[c]? =some ws[c]:=List.getElem?_eq_getElem hc
  have ew:=bM (x:=[]) hw
  generalize hwe:ws[c]=w at hw ew
  refine ⟨_,rfl,a,_,0,_,rfl,rfl,aW.of h,rfl,_,_,rfl,rfl,_,rfl,cO (by decide) ?_⟩
  refine ⟨_,rfl,a,_,1,_,rfl,rfl,aW.of h,rfl,_,_,rfl,rfl,_,rfl,gH (decide_eq_true (by omega)) ⟨_,rfl,wl,_,rfl, .inl (aT.of hH.wd),_,_,rfl,rfl,_,rfl,cO (by rw[aN,decide_eq_true (by omega)];rfl) ?_⟩⟩
  refine ⟨_,rfl,a,_,0,_,rfl,rfl,aW.of h,rfl,_,_,rfl,rfl,_,rfl,cO (by decide) ?_⟩
  refine ⟨_,rfl,a,_,0,_,rfl,rfl,aW.of h,rfl,_,_,rfl,rfl,_,rfl,gH (by decide) ?_⟩
  refine ⟨_,rfl,_,rfl,_,rfl,a,_,1,_,rfl,rfl,aW.of h,rfl,?_⟩
  refine ⟨d,wl,aC y,os,ws,c,w,rfl,hH,hw,fun os' H' g1 g2 g3 g4 g5=>?_⟩
  refine q os' H' g1 ?_ ?_ (fun o ho=> .inl (g4 o ho)) fun x u ex z1 z2 _=>g5 x u ex z1 z2
  ·rw[g2];show _=(os.map bj).map (dG c (iP (ws.getD c []).length));rw[ew,List.map_map];rfl
  ·show _=some (HO.lst (bw (ws.set c ((ws.getD c []).drop 1++(ws.getD c []).take 1))));rw[ew];exact g3
 | ins c k x n=>
  have h:H a=some (.tup [.str (S wIn), .int c, .int k, .str (S [x]), .int n]):=ha
  obtain ⟨hc,hk,NH,Bc,hn⟩:=bu
  have hw:ws[c]? =some ws[c]:=List.getElem?_eq_getElem hc
  have ew:=bM (x:=[]) hw
  generalize hwe:ws[c]=w at hw ew
  rw[ew]at hk NH
  have hb:=rX hy Bc
  have hj:=List.idxOf_lt_length_of_mem hb
  have TH:(aC y)[(aC y).idxOf (PyProof.Rows.lo1 x)]? =some (PyProof.Rows.lo1 x):=by rw[List.getElem?_eq_getElem hj,List.getElem_idxOf hj]
  have TJ:(aC y).idxOf (PyProof.Rows.lo1 x)<os.length:=by rw[hH.od.ln];exact hj
  have ho:os[(aC y).idxOf (PyProof.Rows.lo1 x)]? =some (os[(aC y).idxOf (PyProof.Rows.lo1 x)]):=List.getElem?_eq_getElem TJ
  generalize os[(aC y).idxOf (PyProof.Rows.lo1 x)]=o at ho
  have eL:(os.map bj).getD ((aC y).idxOf (PyProof.Rows.lo1 x)) []=bj o:=bM (by rw[List.getElem?_map,ho];rfl)
  rw[eL]at hn
  refine ⟨_,rfl,a,_,0,_,rfl,rfl,aW.of h,rfl,_,_,rfl,rfl,_,rfl,cO (by decide) ?_⟩
  refine ⟨_,rfl,a,_,1,_,rfl,rfl,aW.of h,rfl,_,_,rfl,rfl,_,rfl,gH (decide_eq_true (by omega)) ⟨_,rfl,wl,_,rfl, .inl (aT.of hH.wd),_,_,rfl,rfl,_,rfl,cO (by rw[aN,decide_eq_true (by omega)];rfl) ?_⟩⟩
  refine ⟨_,rfl,a,_,0,_,rfl,rfl,aW.of h,rfl,_,_,rfl,rfl,_,rfl,cO (by decide) ?_⟩
  refine ⟨_,rfl,a,_,0,_,rfl,rfl,aW.of h,rfl,_,_,rfl,rfl,_,rfl,cO (by decide) ?_⟩
  refine ⟨_,rfl,a,_,0,_,rfl,rfl,aW.of h,rfl,_,_,rfl,rfl,_,rfl,gH (by decide) ?_⟩
  refine ⟨_,rfl,a,_,3,_,rfl,rfl,aW.of h,rfl,_,rfl,y,rfl,by omega,fun p np=>?_⟩
  refine ⟨p,_,rfl, .inl (aT.of ae),rfl,CB _,_,rfl,gH (by show EU (.str (S [x])) (cq y)=true;rw[E_];exact decide_eq_true Bc) ?_⟩
  have sP:=ai.upd (o:=HO.lst (cq y)) np
  have h1:=sP _ _ h
  have hH1:=hH.same sP
  refine ⟨_,rfl,_,rfl,_,rfl,a,_,1,_,rfl,rfl,aW.of h1,rfl,_,rfl,a,_,2,_,rfl,rfl,aW.of h1,rfl,_,rfl,a,_,3,_,rfl,rfl,aW.of h1,rfl,_,rfl,a,_,4,_,rfl,rfl,aW.of h1,rfl,?_⟩
  have wY:=hlen o (List.mem_of_getElem? ho)
  refine ⟨d,wl,aC y,os,ws,c,k,n,_,w,x,o,rfl,hH1,hw,hk,hy.lt x Bc,TH,ho,by unfold bj at hn;rwa [List.length_map]at hn,wY,fun os' H' g1 g2 g3 g4 g5=>?_⟩
  refine q os' H' g1 ?_ ?_ (fun o ho=> .inl (ai.free sP (g4 o ho))) fun x u ex z1 z2 _=>g5 x u (sP x u ex) z1 z2
  ·rw[g2]
   show _=((os.map bj).map (dG c (nA k))).set _ (put2 n (c,k) (c,k+1) (dG c (nA k) ((os.map bj).getD _ [])))
   rw[eL,List.map_map]
   rfl
  ·show _=some (HO.lst (bw (ws.set c ((ws.getD c []).take k++[x]++[bb x]++(ws.getD c []).drop k))));rw[ew];exact g3
theorem ju:bE P w K mg base eI 1 HQ QP ["_law_box_here","_law_many"] (vJ K):=by
 refine T.fE.fn.ok qi (fun vs H Q E h=>AV h) (fun cM A outer s H vs Q E hr h=>?_)
 refine ⟨_,(af (bC (aB kE (az (ba K rfl) (pv 0) ag (fun _ _=>rfl)) ag (aM _)) (af (au (i:=2) qi.nd rfl (Or.inl rfl) (aK gP (az (ba K rfl) (pv 0) ag (fun _ _=>rfl)) (pv 1)))
   (af (i7 (aK tm (az (ba K rfl) (pv 0) ag (fun _ _=>rfl)) (pv 1)) (j_ (pv 0) ag set_list))
   (ah (aD (pv 2))))) aV)
   (af (au (i:=3) qi.nd rfl (Or.inl rfl) (aK gP (aK lZ (az (ba K rfl) (pv 0) ag (fun _ _=>rfl)) ag) ag))
   (af (i7 (aK bV (aK gP (aK bV (aK lZ (pv 3) ag) ag) ag) ag) (j_ (pv 0) ag set_list))
   (ah (aD (aK gP (aK tm (aK bV (aK lZ (pv 3) ag) (az (ba K rfl) (pv 0) ag (fun _ _=>rfl))) ag) (pv 1))))))),?_⟩
 obtain ⟨b,m,rfl,⟨x,y,hb⟩,h1,h2,q⟩:=h
 have fin: ∀(r x' y':Int),0<=r->r<m->Q (.int r) (upd H b (.lst [.int x', .int y'])):=fun r x' y' h3 h4=>by
  have e:r=((r.toNat:Nat):Int):=by omega
  rw[e]
  exact q r.toNat _ (by omega) ⟨x',y',ae⟩ (aF.upd b H _)
 refine ⟨_,rfl,b,_,0,_,rfl,rfl,aT.of hb,rfl,_,_,rfl,rfl,_,rfl,cB (fun e=>?_) (fun e=>?_)⟩
 ·refine ⟨_,rfl,b,_,0,_,rfl,rfl,aT.of hb,rfl,_,rfl,_,_,rfl,rfl,(by omega:0<m),?_⟩
  refine ⟨_,rfl,b,_,0,_,rfl,rfl,aT.of hb,rfl,_,rfl,_,_,rfl,rfl,⟨by omega,by omega⟩,_,rfl,b,_,0,0,rfl,rfl,hb,rfl,_,rfl,?_⟩
  exact fin (x%m) (x / m) y (Int.emod_nonneg _ (by omega)) (Int.emod_lt_of_pos _ (by omega))
 ·refine ⟨_,rfl,b,_,1,_,rfl,rfl,aT.of hb,rfl,_,_,rfl,rfl, .inr ⟨by decide,by decide⟩,_,_,rfl,rfl,(by decide:(0:Int)<2147483647),?_⟩
  refine ⟨_,rfl,_,_,rfl,rfl, .inr ⟨by decide,by decide⟩,_,_,rfl,rfl,_,_,rfl,rfl,(by decide:(0:Int)<2147483629),_,_,rfl,rfl,_,rfl,b,_,1,1,rfl,rfl,hb,rfl,?_⟩
  refine ⟨_,rfl,_,_,rfl,rfl, .inr ⟨by decide,by decide⟩,_,rfl,b,_,1,_,rfl,rfl,aT.of ae,rfl,_,_,rfl,rfl,_,_,rfl,rfl,⟨by decide,by decide⟩,_,rfl,_,_,rfl,rfl,(by omega:0<m),?_⟩
  exact fin _ _ _ (Int.emod_nonneg _ (by omega)) (Int.emod_lt_of_pos _ (by omega))
theorem DW:bE P w K mg base eI 2 HU QS ["_law_box_here","_law_yard_here","_law_top"] (vL K):=by
 have bN:=ju (P:=P) (w:=w) (base:=base) T
 refine T.KS.fn.ok DQ (fun vs H Q E h=>AX h) (fun cM A outer s H vs Q E hr h=>?_)
 refine ⟨_,(ah (aD (aX K rfl PySem.F.plainAttrs_str PySem.F.slot_str_join PySem.F.type_str_join (oP K rfl) (dh [] (by decide+kernel)) (aa (cY ["_law_k","_law_yard_here","_law_box_here"] [none,some 1,some 0] (fQ rfl T.z_range (aa (ao bN (hr.mono (by decide)) rfl T.fE.mg T.fE.fn.kp T.fE.bd .nil aA (aa (pv 0) (aa (aK bV (pv 2) ag) ab))) ab)) ⟨⟨rfl,rfl,by first | exact .inl rfl | exact .inr rfl⟩,⟨⟨rfl,rfl,by first | exact .inl rfl | exact .inr rfl⟩,trivial⟩⟩ (fun _ _ _ _=>(aw (i:=0) (by decide+kernel:List.Nodup (["_law_k","_law_yard_here","_law_box_here"]:List Str)) rfl (Or.inl rfl))) (fun _ _ _ _=>ip) (fun _ _ _ _=>(az ka (pv 1) (ao bN (hr.mono (by decide)) rfl T.fE.mg T.fE.fn.kp T.fE.bd .nil aA (aa (pv 2) (aa (ar a_ rfl T.z_len PySem.boot_len (aa (pv 1) ab)) ab))) (fun _ _=>rfl)))) ab)))),?_⟩
 obtain ⟨b,y,top,rfl,hb,hy,hyl,ht,q⟩:=h
 have hs:(100000:Nat)<sizeLine:=by decide
 walk_at "rd"
 refine ⟨b,_,rfl,hb,by omega,by omega,fun n H1 hn Ga s1=>?_⟩
 walk_at "rd"
 refine oN (fun i acc H'=>cb H' b/\aF b H H'/\ ∃l:List Nat,acc=cq l/\l.length=i/\ ∀c∈l,c∈y) (by simp;omega) ⟨Ga,s1,[],rfl,rfl,by simp⟩ ?_ ?_
 ·rintro i acc H2 Nx hi hl ⟨ke,s2,l,rfl,tM,hm⟩ nx
  have abf:0<y.length:=List.length_pos_iff.mpr hy
  refine ⟨⟨rfl,rfl,trivial⟩,gJ ?_⟩
  walk_at "rd"
  refine ⟨b,_,rfl,ke,by omega,by omega,fun r H3 TK qv s3=>?_⟩
  have Ey:r<y.length:=by omega
  refine ⟨y,_,y[r],rfl,rfl,by omega,aR (List.getElem?_eq_getElem Ey),?_⟩
  refine nx _ _ (by simpa using hl) ⟨qv,s2.trans s3,l++[y[r]],gi _ _,by simp[tM],fun c hc=>?_⟩
  rcases List.mem_append.mp hc with z | z
  ·exact hm c z
  ·rw[List.mem_singleton.mp z];exact List.getElem_mem Ey
 ·rintro acc H2 D hl ⟨ke,s2,l,rfl,tM,hm⟩ hD
  have BN:l.length<=top:=by simp at tM;omega
  refine ⟨D,l.map fun c=>[c],rfl,rfl,aT.of ?_,?_,?_⟩
  ·rw[ae, <-g8]
  ·rw[Fv];omega
  ·rw[zd]
   exact q l _ hm BN (ke.same (ai.upd hD)) (s2.trans (aF.of (ai.upd hD)))
theorem Bx:bE P w K mg base eI 3 HY QW ["_law_box_here","_law_yard_here"] (sy K):=by
 have bN:=ju (P:=P) (w:=w) (base:=base) T
 have Gb:=DW (P:=P) (w:=w) (base:=base) T
 refine T.KY.fn.ok fZ (fun vs H Q E h=>yb h) (fun cM A outer s H vs Q E hr h=>?_)
 refine ⟨_,(af (au (i:=2) fZ.nd rfl (Or.inl rfl) ag)
   (af (au (i:=3) fZ.nd rfl (Or.inl rfl) (bz ab))
   (af (bp PassesOwn.never rfl (fQ rfl T.z_range (aa (ao bN (hr.mono (by decide)) rfl T.fE.mg T.fE.fn.kp T.fE.bd .nil aA (aa (pv 0) (aa ag ab))) ab)) (aw (i:=4) fZ.nd rfl (Or.inl rfl)) (af (au (i:=5) fZ.nd rfl (Or.inl rfl) (ao Gb (hr.mono (by decide)) rfl T.KS.mg T.KS.fn.kp T.KS.bd .nil aA (aa (pv 0) (aa (pv 1) (aa (ar (l_ rfl) rfl T.z_min boot_min (aa (pv 2) (aa (az (ba K rfl) (bz (aa ag (aa ag (aa ag ab)))) (ao bN (hr.mono (by decide)) rfl T.fE.mg T.fE.fn.kp T.fE.bd .nil aA (aa (pv 0) (aa ag ab))) (fun _ _=>rfl)) ab))) ab)))))
   (af (au (i:=2) fZ.nd rfl (Or.inl rfl) (aK cX (pv 2) (ar a_ rfl T.z_len PySem.boot_len (aa (pv 5) ab))))
   (ah (aY (aX K rfl PySem.F.plainAttrs_list PySem.F.slot_list_append PySem.F.type_list_append bf (pv 3) (aa (pv 5) ab)))))))
   (ah (aD (bh (bA K rfl) rfl T.z_tuple boot_tuple (aa (pv 3) ab))))))),?_⟩
 obtain ⟨b,y,rfl,hb,TL,hz,q⟩:=h
 have hs:(100000:Nat)<sizeLine:=by decide
 walk_at "wk"
 intro p1 n1
 have wI:p1≠b:=hb.ne n1
 walk_at "wk"
 refine ⟨b,5,rfl,hb.same (ai.upd n1),by decide,by decide,fun n H1 hn Ga s1=>?_⟩
 walk_at "wk"
 refine gX (fun i σ H'=> ∃(ws:List (List Nat)) (lf:Nat) (kv wv:Option V),σ=[some (.ref b),some (.str (S y)),some (.int lf),some (.ref p1),kv,wv]/\H' p1=some (.lst (bw ws))/\ws.length=i/\(∀w∈ws,(∀c∈w,c∈y)/\w.length<=12)/\lf<=24/\cb H' b/\aF b H H')
  ⟨[],16,none,none,rfl,s1 _ _ ae wI,rfl,fun _ h=>absurd h List.not_mem_nil,by decide,Ga,(aF.of (ai.upd n1)).trans s1⟩ ?_ ?_
 ·rintro i σ H2 hi ⟨ws,lf,kv,wv,rfl,fi,va,hw,hlf,ke,s2⟩
  have hi5:i<5:=by omega
  refine ⟨_,rfl,_,rfl,_,rfl,by decide,fun p2 n2=>?_⟩
  have By:p2≠b:=ke.ne n2
  refine ⟨_,rfl,b,3,rfl,ke.same (ai.upd n2),by decide,by decide,fun r H3 TK qv s3=>?_⟩
  obtain ⟨v,hv,TM⟩: ∃v:Nat,rl [V.int 3,V.int 6,V.int 12] ((r:Nat):Int)=some (V.int v)/\v<=12:=by
   have h3:r=0\/r=1\/r=2:=by omega
   rcases h3 with rfl | rfl | rfl
   ·exact ⟨3,aR (xs:=[V.int 3,V.int 6,V.int 12]) (j:=0) rfl,by decide⟩
   ·exact ⟨6,aR (xs:=[V.int 3,V.int 6,V.int 12]) (j:=1) rfl,by decide⟩
   ·exact ⟨12,aR (xs:=[V.int 3,V.int 6,V.int 12]) (j:=2) rfl,by decide⟩
  refine ⟨p2,_,_,_,rfl,rfl,aT.of (s3 _ _ ae By),hv,_,_,rfl,?_⟩
  obtain ⟨top,ht,yl,Ex⟩: ∃top:Nat,(if (v:Int)<(lf:Int) then (v:Int) else (lf:Int))=(top:Int)/\top<=lf/\top<=12:=by
   split
   ·exact ⟨v,rfl,by omega,TM⟩
   ·exact ⟨lf,rfl,Nat.le_refl _,by omega⟩
  rw[ht]
  refine ⟨b,y,top,rfl,qv,TL,by omega,by omega,fun w H4 NZ uE Bz s4=>?_⟩
  have s24:aF b H2 H4:=((aF.of (ai.upd n2)).trans s3).trans s4
  have nF:=s24 _ _ fi wI
  refine ⟨_,rfl,_,rfl,w,rfl,by omega,_,_,rfl,rfl,?_⟩
  refine ⟨_,rfl, .inl ⟨rfl,_,aT.of nF⟩,_,rfl,p1,_,_,rfl,rfl,nF,by rw[aN];omega,?_⟩
  rw[gk]
  have elf:((lf:Int) - (w.length:Int))=((lf - w.length:Nat):Int):=by omega
  refine ⟨ws++[w],lf - w.length,_,_,by rw[<-elf];rfl,ae,by simp[va],fun u hu=>?_,by omega,Bz.eS wI,(s2.trans s24).eS n1⟩
  rcases List.mem_append.mp hu with z | z
  ·exact hw u z
  ·rw[List.mem_singleton.mp z];exact ⟨NZ,by omega⟩
 ·rintro σ H2 ⟨ws,lf,kv,wv,rfl,fi,va,hw,hlf,ke,s2⟩
  refine ⟨_,rfl,p1,_,rfl, .inl ⟨aT.of fi,fun t nt=>?_⟩⟩
  have N0:H t=none:=s2.none nt (ke.ne nt)
  exact q t ws _ N0 (hb.ne N0) ae ⟨by omega,hw⟩ (ke.eS (hb.ne N0)) (s2.eS N0)
theorem j8:bE P w K mg base eI 1 f3 d3 ["words","band"] (jZ K):=by
 refine T.F3.fn.ok cT (fun vs H Q E h=>pH h) (fun cM A outer s H vs Q E hr h=>?_)
 refine ⟨_,(af (au (i:=2) cT.nd rfl (Or.inl rfl) (bz ab))
   (af (bp PassesOwn.never rfl (gf K rfl rfl T.z_enumerate (aa (pv 0) ab)) (bW (n:=2) K rfl rfl (aP (aw (i:=3) cT.nd rfl (Or.inl rfl)) (aP (aw (i:=4) cT.nd rfl (Or.inl rfl)) bU))) (ah (bp PassesOwn.never rfl (jf rfl T.z_enumerate (aa (pv 4) ab)) (bW (n:=2) K rfl rfl (aP (aw (i:=5) cT.nd rfl (Or.inl rfl)) (aP (aw (i:=6) cT.nd rfl (Or.inl rfl)) bU))) (ah (bC (aB eQ (dN K rfl PySem.F.plainAttrs_str PySem.F.slot_str_lower PySem.F.type_str_lower gZ (pv 6)) (pv 1) (aM _)) (ah (aY (aX K rfl PySem.F.plainAttrs_list PySem.F.slot_list_append PySem.F.type_list_append bf (pv 2) (aa (bD (aa (pv 3) (aa (pv 5) ab))) ab)))) aV)))))
   (ah (aD (pv 2))))),?_⟩
 obtain ⟨wt,ws,band,rfl,qj,hf,hw,hb,q⟩:=h
 have hs:(100000:Nat)<sizeLine:=by decide
 walk_at "wk"
 intro p1 n1
 refine ⟨_,rfl,wt,rfl,⟨_,aW.of ((ai.upd n1) _ _ qj)⟩,?_⟩
 refine eR (K:=K) (a:=wt) (xs:=bw ws) (fun j σ H'=> ∃(ps:List Pr) (cv wv pv lv:Option V),σ=[some (.ref wt),some (.str (S [band])),some (.ref p1),cv,wv,pv,lv]/\H' p1=some (.lst (bS ps))/\(∀p∈ps,dF H' p)/\ps.map Pr.pair=bt band ws j/\ps.length<=12*j/\ai H H')
  ⟨[],none,none,none,none,rfl,ae,fun _ h=>absurd h List.not_mem_nil,rfl,Nat.zero_le _,ai.upd n1⟩ (fun j σ H' _ ⟨_,_,_,_,_,_,_,_,_,_,h⟩=>aW.of (h _ _ qj)) ?_ ?_
 ·rintro j x σ H1 T hx ⟨ps,cv,wv,pv,lv,rfl,hp,iN,gE,fJ,s1⟩ nT
  have hj:j<ws.length:=by
   have:=(List.getElem?_eq_some_iff.mp hx).1
   rwa [aN]at this
  rw[jj hj]at hx
  cases hx
  have uQ:ws[j]? =some ws[j]:=List.getElem?_eq_getElem hj
  obtain ⟨va,uE⟩:=hw _ (List.getElem_mem hj)
  generalize ws[j]=w at uQ va uE ⊢
  refine ⟨T,_,rfl,aW.of ae,rfl,_,_,rfl,_,_,rfl,rfl,?_⟩
  have sT:=ai.upd (o:= .tup [.int j, .str (S w)]) nT
  refine ⟨_,rfl,w,rfl,?_⟩
  refine kT (l:=w) (fun m σ H'=> ∃(us:List Pr) (pv lv:Option V),σ=[some (.ref wt),some (.str (S [band])),some (.ref p1),some (.int j),some (.str (S w)),pv,lv]/\H' p1=some (.lst (bS us))/\(∀p∈us,dF H' p)/\us.map Pr.pair=bt band ws j++dX band j w m/\us.length<=12*j+m/\ai H H')
   ⟨ps,pv,lv,rfl,sT _ _ hp,fun p uP=>(iN p uP).same sT,by rw[gE];show _=_++[];rw[List.append_nil],by omega,s1.trans sT⟩ ?_ ?_
  ·rintro m l σ H2 T2 hm ⟨us,pv2,lv2,rfl,iY,oA,ni,zK,s2⟩ TN
   have hmw:m<w.length:=(List.getElem?_eq_some_iff.mp hm).1
   have Ib:=va l (List.mem_of_getElem? hm)
   have es:=pB (band:=band) (c:=j) hm
   have Q5:=ai.upd (o:= .tup [.int m, .str (S [l])]) TN
   refine ⟨T2,_,rfl,aW.of ae,rfl,_,_,rfl,_,_,rfl,rfl,?_⟩
   refine ⟨_,rfl,rfl,l,rfl,rfl,Ib.lt,_,rfl,[PyProof.Rows.lo1 l],[band],rfl,rfl,_,rfl,?_⟩
   have ev:decide ([PyProof.Rows.lo1 l]=[band])=uO band l:=by rw[<-ui hb Ib];simp
   rw[ev]
   have K5:=Q5 _ _ iY
   refine cB (fun z=>?_) (fun z=>?_)
   ·rw[if_pos z]at es
    refine ⟨_,rfl, .inl ⟨rfl,_,aT.of K5⟩,_,rfl,_,rfl,by show 2<=sizeLine;decide,fun t nt=>?_⟩
    have nW:=(ai.upd (o:= .tup [.int j, .int m]) nt) _ _ K5
    have s3:=Q5.trans (ai.upd (o:= .tup [.int j, .int m]) nt)
    refine ⟨p1,_,_,rfl,rfl,nW,by rw[aZ];omega,?_⟩
    refine ⟨us++[⟨t,j,m⟩],_,_,rfl,by rw[ae];exact congrArg (fun x=>some (HO.lst x)) (g_ us ⟨t,j,m⟩),fun p uP=>?_,by rw[List.map_append,ni,es,List.append_assoc];rfl,by rw[List.length_append];show us.length+1<=_;omega,fun a o ea=>by rw[aq (ak ea n1)];exact s3 _ _ (s2 a o ea)⟩
    rcases List.mem_append.mp uP with g | g
    ·exact ((oA p g).same s3).ts (aJ.fL nW)
    ·have e2:=List.mem_singleton.mp g
     subst e2
     exact dF.ts (H:=upd (upd H2 T2 (.tup [.int m, .str (S [l])])) t (.tup [.int j, .int m])) ⟨ae,by show j<1000;omega,by show m<1000;omega⟩ (aJ.fL nW)
   ·rw[if_neg z,List.append_nil]at es
    exact ⟨us,_,_,rfl,K5,fun p uP=>(oA p uP).same Q5,by rw[ni,es],by omega,s2.trans Q5⟩
  ·rintro σ H2 ⟨us,pv2,lv2,rfl,iY,oA,ni,zK,s2⟩
   exact ⟨us,_,_,_,_,rfl,iY,oA,by rw[ni,gK uQ],by omega,s2⟩
 ·rintro σ H1 ⟨ps,cv,wv,pv,lv,rfl,hp,iN,gE,fJ,s1⟩
  rw[aN]at gE
  exact ⟨_,rfl,q p1 ps H1 n1 hp iN gE s1⟩
theorem iJ:bE P w K mg base eI 2 Hs QF ["word"] (lb K):=by
 have bJ:=dc (P:=P) (w:=w) (base:=base) T
 refine T.Br.fn.ok iH (fun vs H Q E h=>qI h) (fun cM A outer s H vs Q E hr h=>?_)
 refine ⟨_,(af (au (i:=1) iH.nd rfl (Or.inl rfl) (bz ab))
   (af (bp PassesOwn.never rfl (mi (pv 0)) (aw (i:=2) iH.nd rfl (Or.inl rfl)) (ah (bC (PW.pt (i5 (E8 K rfl (pv 1)) (jw (aB eQ (az (ba K rfl) (pv 1) (B2 xa ag) (fun _ _=>rfl)) (ao bJ (hr.mono (by decide)) rfl T.F0.mg T.F0.fn.kp T.F0.bd .nil aA (aa (pv 2) ab)) (aM _))))) (ah (aY (dN K rfl PySem.F.plainAttrs_list PySem.F.slot_list_pop PySem.F.type_list_pop Ji (pv 1)))) (ah (aY (aX K rfl PySem.F.plainAttrs_list PySem.F.slot_list_append PySem.F.type_list_append bf (pv 1) (aa (pv 2) ab)))))))
   (ah (aD (aX K rfl PySem.F.plainAttrs_str PySem.F.slot_str_join PySem.F.type_str_join (oP K rfl) (dh [] (by decide+kernel)) (aa (pv 1) ab)))))),?_⟩
 obtain ⟨l,rfl,hl,hz,q⟩:=h
 have hs:(100000:Nat)<sizeLine:=by decide
 walk_at "rd"
 intro p1 n1
 refine ⟨_,rfl,l,rfl,?_⟩
 refine nN (xs:=cq l) (fun i σ H'=> ∃lv,σ=[some (.str (S l)),some (.ref p1),lv]/\H' p1=some (.lst (cq (red (l.take i))))/\aF p1 H H') ⟨none,rfl,ae,aF.of (ai.upd n1)⟩ ?_ ?_
 ·rintro i x σ H1 hx ⟨lv,rfl,hp,s1⟩
  obtain ⟨c,hc,rfl⟩:=di hx
  have hi:i<l.length:=(List.getElem?_eq_some_iff.mp hc).1
  have h8:c<128:=(hl c (List.mem_of_getElem? hc)).lt
  have lT:(red (l.take i)).length<=1000:=Nat.le_trans (iu _) (by rw[List.length_take];omega)
  have fin: ∀st,st=cD (red (l.take i)) c-> ∃lv,[some (V.str (S l)),some (V.ref p1),some (V.str (S [c]))]=[some (V.str (S l)),some (.ref p1),lv]/\(upd H1 p1 (.lst (cq st))) p1=some (.lst (cq (red (l.take (i+1)))))/\aF p1 H (upd H1 p1 (.lst (cq st))):=fun st e=>
   ⟨_,rfl,by rw[ae,CY hc,e],fun b o e z=>by rw[aq z];exact s1 b o e z⟩
  refine ⟨_,rfl,p1,_,rfl,aT.of hp,?_⟩
  rcases snoc_cases (red (l.take i)) with e | ⟨m,a,e⟩
  ·rw[e]at hp ⊢
   refine cO rfl ?_
   refine Aj ?_
   refine ⟨_,rfl, .inl ⟨rfl,_,aT.of hp⟩,_,rfl,p1,_,_,rfl,rfl,hp,by rw[aU];exact (by decide:(0:Nat)<sizeLine),?_⟩
   rw[gi]
   refine fin _ ?_
   rw[e]
   unfold cD
   rw[if_neg (by simp)]
  ·rw[e]at hp lT ⊢
   have JY:m.length<=1000:=by simp at lT;omega
   rw[<-gi]at hp ⊢
   refine gH (by simp) ?_
   refine ⟨_,rfl,_,rfl,p1,_,_,_,rfl,rfl,aT.of hp,Cb _ _,_,rfl,c,rfl,h8,[a],[bb c],rfl,rfl,_,rfl,cB (fun z=>?_) (fun z=>?_)⟩
   ·have ea:a=bb c:=by simpa using of_decide_eq_true z
    refine ⟨_,rfl, .inl ⟨rfl,_,aT.of hp⟩,p1,_,V.str (S [a]),rfl,rfl,hp,by simp,?_⟩
    rw[List.dropLast_concat]
    refine fin _ ?_
    rw[e]
    unfold cD
    rw[if_pos (by simp[ea]),List.dropLast_concat]
   ·have ea:a≠bb c:=fun w=>z (decide_eq_true (by rw[w]))
    refine ⟨_,rfl, .inl ⟨rfl,_,aT.of hp⟩,_,rfl,p1,_,_,rfl,rfl,hp,by rw[List.length_append,aU];show m.length+1<sizeLine;omega,?_⟩
    rw[gi,gi]
    refine fin _ ?_
    rw[e]
    unfold cD
    rw[if_neg (by simpa using ea)]
 ·rintro σ H1 ⟨lv,rfl,hp,s1⟩
  rw[oY]at hp
  refine ⟨rfl,_,rfl,p1,(red l).map fun c=>[c],rfl,rfl,aT.of (by rw[<-g8];exact hp),?_,?_⟩
  ·rw[Fv]
   have:=iu l
   omega
  ·rw[zd]
   exact q _ (fun b o e=>s1 b o e (ak e n1))
theorem iW:bE P w K mg base eI 1 f1 d1 ["yard","text"] (iO K):=by
 refine T.F1.fn.ok fG (fun vs H Q E h=>mx h) (fun cM A outer s H vs Q E hr h=>?_)
 refine ⟨_,(af (bp PassesOwn.never rfl (jf rfl T.z_enumerate (aa (pv 1) ab)) (bW (n:=2) K rfl rfl (aP (aw (i:=2) fG.nd rfl (Or.inl rfl)) (aP (aw (i:=3) fG.nd rfl (Or.inl rfl)) bU))) (ah (bC (aB E3 (pv 3) (pv 0) (by with_unfolding_all rfl)) (ah (aD (pv 2))) aV)))
   (ah (aD eP))),?_⟩
 obtain ⟨y,w,rfl,hw,q⟩:=h
 refine ⟨_,rfl,w,rfl,?_⟩
 refine kT (fun i σ H'=> ∃av sv:Option V,σ=[some (.str (S y)),some (.str (S w)),av,sv]/\ai H H') ⟨none,none,rfl,ai.refl H⟩ ?_ ?_
 ·rintro i c σ H1 T hc ⟨av,sv,rfl,s1⟩ nT
  refine ⟨T,_,rfl,aW.of ae,rfl,_,_,rfl,_,_,rfl,rfl,?_⟩
  refine ⟨_,rfl,_,rfl,c,y,rfl,rfl,_,rfl,cO (by simp[hw c (List.mem_of_getElem? hc)]) ?_⟩
  exact ⟨_,_,rfl,s1.trans (ai.upd nT)⟩
 ·rintro σ H1 ⟨av,sv,rfl,s1⟩
  exact q _ s1
theorem qU:bE P w K mg base eI 2 f4 d4 ["yard","words"] (j0 K):=by
 have gA:=iW (P:=P) (w:=w) (base:=base) T
 refine T.F4.fn.ok gR (fun vs H Q E h=>pI h) (fun cM A outer s H vs Q E hr h=>?_)
 refine ⟨_,(ah (bp PassesOwn.never rfl (gf K rfl rfl T.z_enumerate (aa (pv 1) ab)) (bW (n:=2) K rfl rfl (aP (aw (i:=2) gR.nd rfl (Or.inl rfl)) (aP (aw (i:=3) gR.nd rfl (Or.inl rfl)) bU))) (ah (bC (aB tD (ao gA (hr.mono (by decide)) rfl T.F1.mg T.F1.fn.kp T.F1.bd .nil aA (aa (pv 0) (aa (pv 3) ab))) eP (aM _)) (ah gW) aV)))),?_⟩
 obtain ⟨y,wt,ws,rfl,qj,hw,q⟩:=h
 refine ⟨_,rfl,wt,rfl,⟨_,aW.of qj⟩,?_⟩
 refine eR (K:=K) (a:=wt) (xs:=bw ws) (fun i σ H'=> ∃av sv:Option V,σ=[some (.str (S y)),some (.ref wt),av,sv]/\ai H H') ⟨none,none,rfl,ai.refl H⟩ (fun i σ H' _ ⟨_,_,_,h⟩=>aW.of (h _ _ qj)) ?_ ?_
 ·rintro i x σ H1 T hx ⟨av,sv,rfl,s1⟩ nT
  have hi:i<ws.length:=by
   have:=(List.getElem?_eq_some_iff.mp hx).1
   rwa [aN]at this
  rw[jj hi]at hx
  cases hx
  refine ⟨T,_,rfl,aW.of ae,rfl,_,_,rfl,_,_,rfl,rfl,?_⟩
  refine ⟨_,rfl,_,rfl,y,ws[i],rfl,hw _ (List.getElem_mem hi),fun H2 s2=>?_⟩
  refine ⟨rfl,_,rfl,cO (by simp) ?_⟩
  exact ⟨_,_,rfl,(s1.trans (ai.upd nT)).trans s2⟩
 ·rintro σ H1 ⟨av,sv,rfl,s1⟩
  exact q _ s1
theorem ij:bE P w K mg base eI 1 f2 d2 ["yard"] (vR K):=by
 refine T.F2.fn.ok DP (fun vs H Q E h=>A6 h) (fun cM A outer s H vs Q E hr h=>?_)
 refine ⟨_,(ah (aD (aX K rfl PySem.F.plainAttrs_str PySem.F.slot_str_join PySem.F.type_str_join (oP K rfl) (dh [] (by decide+kernel)) (aa (ar (ir K rfl) rfl T.z_sorted boot_sorted (aa (cY ["letter"] [none] (mi (pv 0)) trivial (fun _ _ _ _=>(aw (i:=0) (by decide+kernel:List.Nodup (["letter"]:List Str)) rfl (Or.inl rfl))) (fun _ _ _ _=>(mf (lW (dN K rfl PySem.F.plainAttrs_str PySem.F.slot_str_islower PySem.F.type_str_islower oF (pv 0))))) (fun _ _ _ _=>(pv 0))) ab)) ab)))),?_⟩
 obtain ⟨l,rfl,hl,hz,q⟩:=h
 have hs:(1000:Nat)<sizeLine:=by decide
 refine ⟨rfl,_,rfl,l,rfl,?_⟩
 refine oM (xs:=cq l) (fun i acc H'=>ai H H'/\acc=cq ((l.take i).filter cN)) (by rw[aU];omega) ⟨ai.refl H,rfl⟩ ?_ ?_
 ·rintro i x acc H1 Nx hi hx fI ⟨s1,rfl⟩ nx
  obtain ⟨c,hc,rfl⟩:=di hx
  have e:=mW (p:=cN) hc
  refine ⟨trivial,?_⟩
  refine ⟨_,rfl,rfl,c,rfl,rfl,hl c (List.mem_of_getElem? hc),_,rfl,?_⟩
  refine cB (fun z=>?_) (fun z=>?_)
  ·rw[if_pos z]at e
   exact ⟨_,rfl,nx _ _ (by simpa using fI) ⟨s1,by rw[e, <-gi]⟩⟩
  ·rw[if_neg z,List.append_nil]at e
   exact nx _ _ (Nat.le_succ_of_le fI) ⟨s1,by rw[e]⟩
 ·rintro acc H1 D fI ⟨s1,rfl⟩ hD
  rw[oY,g8]
  have hfl:(l.filter cN).length<=l.length:=List.length_filter_le _ _
  refine ⟨D,(l.filter cN).map fun c=>[c],rfl,aT.of ae,by rw[List.length_map];omega,fun p ls hp iD En=>?_⟩
  obtain ⟨l',rfl,pl⟩:=yN iD
  have uN:=pl.length_eq
  refine ⟨p,l'.map fun c=>[c],rfl,rfl,aT.of ae,by rw[Fv];omega,?_⟩
  rw[zd]
  exact q l' _ pl (yO En) ((s1.trans (ai.upd hD)).trans (ai.upd hp))
theorem qk:bE P w K mg base eI 2 f5 d5 ["yard","words","orders"] (jl K):=by
 have dQ:=ij (P:=P) (w:=w) (base:=base) T
 have iK:=j8 (P:=P) (w:=w) (base:=base) T
 refine T.F5.fn.ok eG (fun vs H Q E h=>nB h) (fun cM A outer s H vs Q E hr h=>?_)
 refine ⟨_,(af (au (i:=3) eG.nd rfl (Or.inl rfl) (ao dQ (hr.mono (by decide)) rfl T.F2.mg T.F2.fn.kp T.F2.bd .nil aA (aa (pv 0) ab)))
   (af (bC (aB xq (ar (ay K rfl) rfl T.z_len PySem.boot_len (aa (pv 2) ab)) (ar a_ rfl T.z_len PySem.boot_len (aa (pv 3) ab)) (aM _)) (ah gW) aV)
   (ah (bp PassesOwn.never rfl (jf rfl T.z_enumerate (aa (pv 3) ab)) (bW (n:=2) K rfl rfl (aP (aw (i:=4) eG.nd rfl (Or.inl rfl)) (aP (aw (i:=5) eG.nd rfl (Or.inl rfl)) bU))) (ah (bC (aB (kd K rfl hr) (ar (ua K rfl) rfl T.z_sorted boot_sorted (aa (az (ax K rfl) (pv 2) (pv 4) (fun _ _=>rfl)) ab)) (ao iK (hr.mono (by decide)) rfl T.F3.mg T.F3.fn.kp T.F3.bd .nil aA (aa (pv 1) (aa (pv 5) ab))) (aM _)) (ah gW) aV)))))),?_⟩
 obtain ⟨y,wt,ot,ws,os,rfl,hy,hz,ql,qj,L1,tY,hex,q⟩:=h
 have hs:(100000:Nat)<sizeLine:=by decide
 have L3: ∀c∈y,c<128:=zf hy.lt
 have Bd:=cZ hy
 have hlen:os.length=(aC y).length:=hex.1
 have va: ∀w∈ws,(∀c∈w,Lt c)/\w.length<=12:=fun w hw=>⟨fun c hc=>hy.lt c ((ql.all w hw).1 c hc),(ql.all w hw).2⟩
 refine ⟨_,rfl,y,rfl,L3,by omega,fun l' H1 uN Dg s1=>?_⟩
 have el:=fM uN Dg
 subst el
 refine ⟨_,rfl,ot,_,rfl, .inr (aW.of (s1 _ _ L1)),_,rfl,aC y,rfl,by omega,_,_,rfl,rfl,_,rfl,cO (by rw[jD,hlen];simp) ?_⟩
 refine ⟨_,rfl,aC y,rfl,?_⟩
 refine kT (fun i σ H'=> ∃av sv:Option V,σ=[some (.str (S y)),some (.ref wt),some (.ref ot),some (.str (S (aC y))),av,sv]/\ai H H') ⟨none,none,rfl,s1⟩ ?_ ?_
 ·rintro i b σ H2 T hb ⟨av,sv,rfl,s2⟩ nT
  have hi:i<(aC y).length:=(List.getElem?_eq_some_iff.mp hb).1
  have Ke:=lq hy (List.mem_of_getElem? hb)
  have wX:i<os.length:=by omega
  have ho:os[i]? =some os[i]:=List.getElem?_eq_getElem wX
  have kr:=List.getElem_mem wX
  have gE:(os[i].ps.map Pr.pair).Perm (bt b ws ws.length):=hex.2 i _ b ho hb
  generalize os[i]=o at ho kr gE
  have sT:=s2.trans (ai.upd (o:= .tup [.int i, .str (S [b])]) nT)
  refine ⟨T,_,rfl,aW.of ae,rfl,_,_,rfl,_,_,rfl,rfl,?_⟩
  generalize upd H2 T (.tup [.int i, .str (S [b])])=H3 at sT ⊢
  have ok:=(tY o kr).same sT
  have hlz:o.ps.length<=48:=by
   have h1:=gq b (fun w hw=>(ql.all w hw).2) ws.length (Nat.le_refl _)
   rw[<-gE.length_eq,List.length_map]at h1
   have:=ql.g7
   omega
  refine ⟨_,rfl,_,rfl,ot,_,_,_,rfl,rfl,aW.of (sT _ _ L1),aR (ko ho),?_⟩
  refine ⟨o.o,bS o.ps,(o.ps.map Pr.pair).map pz,rfl, .inr (aW.of ok.tp),Df ok.pr,NK (gE.nodup_iff.mpr (iB b ws ws.length)),by rw[aZ];omega,fun qa idx TQ nq=>?_⟩
  obtain ⟨Q6,hir⟩:=TQ
  rw[List.length_map,List.length_map]at Q6
  have hin: ∀i∈idx,i<o.ps.length:=fun i hi=>List.mem_range.mp (Q6.mem_iff.mp hi)
  rw[NJ o.ps idx hin]
  have N1:(pk o.ps idx).map Pr.pair=bt b ws ws.length:=FK (((zw Q6).map Pr.pair).trans gE) (FL hin hir) (mZ b ws ws.length (Nat.le_refl _))
  have Q7: ∀p∈pk o.ps idx,dF H3 p:=fun p hp=>ok.pr p ((zw Q6).mem_iff.mp hp)
  generalize pk o.ps idx=pp at N1 Q7 ⊢
  have sQ:=sT.trans (ai.upd (o:= .lst (bS pp)) nq)
  refine ⟨_,rfl,_,rfl,wt,ws,b,rfl,sQ _ _ qj,ql.g7,va,Ke,fun q2 ps H4 nq2 TR iN Gd s4=>?_⟩
  have hq4:=s4 _ _ (ae (H:=H3) (a:=qa) (o:=HO.lst (bS pp)))
  have TU: ∀p∈pp,dF H4 p:=fun p hp=>(Q7 p hp).same ((ai.upd (o:= .lst (bS pp)) nq).trans s4)
  have ly:PyData.canLayAll0 ((pp.map Pr.pair).map pF)=true:=(jE (k:=0) Q7).ly
  have dp:(PyData.list ((pp.map Pr.pair).map pF)).depth<=60:=Nat.le_trans (Nat.succ_le_succ (jE (k:=0) Q7).dp) (by decide)
  refine ⟨.list ((pp.map Pr.pair).map pF), .list ((pp.map Pr.pair).map pF), .lst (aT.of hq4) (hJ TU), .lst (aT.of TR) (by rw[N1, <-Gd];exact hJ iN),⟨ly,ly⟩,dp,?_⟩
  rw[eqv_refl _ (by show PyData.hasDictAll _=false;exact pG _)]
  refine ⟨_,rfl,cO rfl ?_⟩
  exact ⟨_,_,rfl,sQ.trans s4⟩
 ·rintro σ H2 ⟨av,sv,rfl,s2⟩
  exact q _ s2
theorem nG:bE P w K mg base eI 3 f6 d6 ["yard","drawing"] (iR K):=by
 have uF:=qU (P:=P) (w:=w) (base:=base) T
 have qV:=qk (P:=P) (w:=w) (base:=base) T
 refine T.F6.fn.ok nE (fun vs H Q E h=>mz h) (fun cM A outer s H vs Q E hr h=>?_)
 refine ⟨_,(af (aY (ao uF (hr.mono (by decide)) rfl T.F4.mg T.F4.fn.kp T.F4.bd .nil aA (aa (pv 0) (aa (az (ax K rfl) (pv 1) ag (fun _ _=>rfl)) ab))))
   (af (aY (ao qV (hr.mono (by decide)) rfl T.F5.mg T.F5.fn.kp T.F5.bd .nil aA (aa (pv 0) (aa (az (ax K rfl) (pv 1) ag (fun _ _=>rfl)) (aa (az (ax K rfl) (pv 1) ag (fun _ _=>rfl)) ab)))))
   (ah (aD gI)))),?_⟩
 obtain ⟨y,dr,ws,os,rfl,hy,hz,ql,hd,hex,q⟩:=h
 obtain ⟨⟨wt,ot,d1,d2,d3⟩,dO⟩:=hd
 refine ⟨_,rfl,_,rfl,dr,_,0,_,rfl,rfl,aW.of d1,rfl,?_⟩
 refine ⟨y,wt,ws,rfl,d2,fun w hw=>(ql.all w hw).1,fun H1 s1=>?_⟩
 refine ⟨_,rfl,_,rfl,dr,_,0,_,rfl,rfl,aW.of (s1 _ _ d1),rfl,_,rfl,dr,_,1,_,rfl,rfl,aW.of (s1 _ _ d1),rfl,?_⟩
 refine ⟨y,wt,ot,ws,os,rfl,hy,hz,ql,s1 _ _ d2,s1 _ _ d3,fun o ho=>(dO o ho).same s1,hex,fun H2 s2=>?_⟩
 exact q _ (s1.trans s2)
theorem gO:bE P w K mg base eI 3 Ht QG ["word"] (mV K):=by
 have fD:=iJ (P:=P) (w:=w) (base:=base) T
 have bJ:=dc (P:=P) (w:=w) (base:=base) T
 refine T.uD.fn.ok eh (fun vs H Q E h=>ue h) (fun cM A outer s H vs Q E hr h=>?_)
 refine ⟨_,(af (au (i:=1) eh.nd rfl (Or.inl rfl) (ao fD (hr.mono (by decide)) rfl T.Br.mg T.Br.fn.kp T.Br.bd .nil aA (aa (pv 0) ab)))
   (af (au (i:=2) eh.nd rfl (Or.inl rfl) ag)
   (af (au (i:=3) eh.nd rfl (Or.inl rfl) (ar a_ rfl T.z_len PySem.boot_len (aa (pv 1) ab)))
   (af (fR PassesOwn.never (PW.pt (i5 (aB GG (aK cX (pv 3) (pv 2)) ag (aM _)) (jw (aB eQ (az ka (pv 1) (pv 2) (fun _ _=>rfl)) (ao bJ (hr.mono (by decide)) rfl T.F0.mg T.F0.fn.kp T.F0.bd .nil aA (aa (az ka (pv 1) (aK cX (pv 3) ag) (fun _ _=>rfl)) ab)) (aM _))))) (af (lY (i:=2) eh.nd rfl (Or.inl rfl) ag s_)
   (ah (lY (i:=3) eh.nd rfl (Or.inl rfl) ag B1))))
   (ah (aD (bF kN (pv 1) (bK (pv 2)) (bK (pv 3))))))))),?_⟩
 obtain ⟨l,rfl,hl,hz,q⟩:=h
 have hs:(100000:Nat)<sizeLine:=by decide
 refine ⟨_,rfl,l,rfl,hl,hz,fun H1 s1=>?_⟩
 have hr1:=iu l
 have cy:=ud hl
 generalize red l=r at hr1 cy q ⊢
 have hrz:r.length<=sizeLine:=by omega
 walk_at "rd"
 refine ⟨fun m σ H'=> ∃(a e:Nat),σ=[some (.str (S l)),some (.str (S r)),some (.int a),some (.int e)]/\m=e - a/\a<=e/\e<=r.length/\core (BQ r a e)=core r/\H'=H1,⟨_,0,r.length,rfl,rfl,Nat.zero_le _,Nat.le_refl _,by rw[Fz],rfl⟩,?_⟩
 rintro m σ H2 ⟨a,e,rfl,rfl,h1,h2,hc,rfl⟩
 have fin:core (BQ r a e)=BQ r a e->Q (.str (S (cut r (some (a:Int)) (some (e:Int))))) H2:=fun z=>by
  have e1:cut r (some (a:Int)) (some (e:Int))=BQ r a e:=by
   unfold cut BQ
   rw[HT.nM,HT.nM]
   have e1:min a r.length=a:=by omega
   have e2:min e r.length=e:=by omega
   rw[e1,e2]
  rw[e1, <-z,hc]
  exact q H2 s1
 walk_at "rd"
 refine cB (fun z=>?_) (fun z=>?_)
 ·have z1:(2:Int)<=(e:Int) - (a:Int):=of_decide_eq_true z
  have ha:a<r.length:=by omega
  have he:e - 1<r.length:=by omega
  have g0:rl r (a:Int)=some r[a]:=aR (List.getElem?_eq_getElem ha)
  have g1:rl r ((e:Int) - 1)=some r[e - 1]:=by
   have:(e:Int) - 1=((e - 1:Nat):Int):=by omega
   rw[this];exact aR (List.getElem?_eq_getElem he)
  have h8:r[e - 1]<128:=(cy _ (List.getElem_mem he)).lt
  have hw:=J9 (l:=r) (s:=a) (e:=e) (by omega) h2
  refine ⟨_,rfl,_,rfl,r,_,_,rfl,rfl,hrz,g0,?_⟩
  walk_at "rd"
  refine ⟨r,_,_,rfl,rfl,hrz,g1,?_⟩
  walk_at "rd"
  refine cB (fun y=>?_) (fun y=>?_)
  ·have ey:r[a]=bb r[e - 1]:=by simpa using of_decide_eq_true y
   walk_at "rd"
   refine ⟨(e - 1) - (a+1),by omega,a+1,e - 1,?_,rfl,by omega,by omega,?_,rfl⟩
   ·have e1:(a:Int)+1=((a+1:Nat):Int):=by omega
    have e2:(e:Int) - 1=((e - 1:Nat):Int):=by omega
    rw[<-e1, <-e2]
    rfl
   ·rw[<-hc,hw,jz ey]
  ·have ey:r[a]≠bb r[e - 1]:=fun w=>y (decide_eq_true (by rw[w]))
   walk_at "rd"
   exact fin (by rw[hw,eT ey])
 ·have z1: ¬(2:Int)<=(e:Int) - (a:Int):=fun w=>z (decide_eq_true w)
  walk_at "rd"
  exact fin (eU (by rw[Fy h2];omega))
theorem zN:bE P w K mg base eI 4 Hu QH ["word"] (zg K):=by
 have df:=gO (P:=P) (w:=w) (base:=base) T
 refine T.w4.fn.ok jM (fun vs H Q E h=>C5 h) (fun cM A outer s H vs Q E hr h=>?_)
 refine ⟨_,(af (au (i:=1) jM.nd rfl (Or.inl rfl) (ao df (hr.mono (by decide)) rfl T.uD.mg T.uD.fn.kp T.uD.bd .nil aA (aa (pv 0) ab)))
   (af (au (i:=2) jM.nd rfl (Or.inl rfl) (pv 1))
   (af (bp PassesOwn.never rfl (q_ rfl T.z_range (aa ag (aa (ar a_ rfl T.z_len PySem.boot_len (aa (pv 1) ab)) ab))) (aw (i:=3) jM.nd rfl (Or.inl rfl)) (af (au (i:=4) jM.nd rfl (Or.inl rfl) (aK fK (bF kN (pv 1) (bK (pv 3)) cg) (bF kN (pv 1) cg (bK (pv 3)))))
   (ah (bC (aB Jw (pv 4) (pv 2) (aM _)) (ah (au (i:=2) jM.nd rfl (Or.inl rfl) (pv 4))) aV))))
   (ah (aD (pv 2)))))),?_⟩
 obtain ⟨l,rfl,hl,hz,q⟩:=h
 have hs:(100000:Nat)<sizeLine:=by decide
 refine ⟨_,rfl,l,rfl,hl,hz,fun H1 s1=>?_⟩
 have hc1:(core (red l)).length<=1000:=Nat.le_trans (jk _) (Nat.le_trans (iu l) hz)
 unfold aL g9 at q
 generalize core (red l)=c at hc1 q ⊢
 have hcz:c.length<=sizeLine:=by omega
 walk_at "rd"
 refine ⟨_,_,rfl,⟨by decide,by decide,by omega,by omega⟩,?_⟩
 refine gX (fun i σ H'=>H'=H1/\ ∃sv bv,σ=[some (.str (S l)),some (.str (S c)),some (.str (S (cj c (jQ c i)))),sv,bv]) ⟨rfl,none,none,rfl⟩ ?_ ?_
 ·rintro i σ H2 hi ⟨rfl,sv,bv,rfl⟩
  have e1:(1:Int)+(i:Int)=((i+1:Nat):Int):=by omega
  rw[e1]
  have hlen:(cut c (some ((i+1:Nat):Int)) none).length+(cut c none (some ((i+1:Nat):Int))).length<=sizeLine:=by rw[kj,cE,List.length_drop,List.length_take];omega
  have TV:cut c (some ((i+1:Nat):Int)) none++cut c none (some ((i+1:Nat):Int))=fu c (i+1):=by rw[kj,cE];rfl
  walk_at "rd"
  rw[TV]
  refine cB (fun z=>?_) (fun z=>?_)
  ·have z':fu c (i+1)<cj c (jQ c i):=of_decide_eq_true z
   have hle:cj c (jQ c (i+1))=fu c (i+1):=by rw[rR,iw];unfold cU;rw[if_pos z']
   refine ⟨_,rfl,?_⟩
   rw[hle]
   exact ⟨rfl,_,_,rfl⟩
  ·have z': ¬fu c (i+1)<cj c (jQ c i):=fun y=>z (decide_eq_true y)
   have hle:cj c (jQ c (i+1))=cj c (jQ c i):=by rw[rR,iw];unfold cU;rw[if_neg z']
   rw[hle]
   exact ⟨rfl,_,_,rfl⟩
 ·rintro σ H2 ⟨rfl,sv,bv,rfl⟩
  have e:((c.length:Int) - 1).toNat=c.length - 1:=by omega
  rw[e]
  exact ⟨_,rfl,q _ s1⟩
theorem yn:bE P w K mg base eI 5 Hv QI ["one","other"] (o7 K):=by
 have qm:=zN (P:=P) (w:=w) (base:=base) T
 refine T.KH.fn.ok yf (fun vs H Q E h=>vO h) (fun cM A outer s H vs Q E hr h=>?_)
 refine ⟨_,(ah (aD (kF eQ (ao qm (hr.mono (by decide)) rfl T.w4.mg T.w4.fn.kp T.w4.bd .nil aA (aa (pv 0) ab)) (ao qm (hr.mono (by decide)) rfl T.w4.mg T.w4.fn.kp T.w4.bd .nil aA (aa (pv 1) ab)) (aM _)))),?_⟩
 obtain ⟨a,b,rfl,ha,za,hb,zb,q⟩:=h
 refine ⟨_,rfl,a,rfl,ha,za,fun H1 s1=>?_⟩
 refine ⟨_,rfl,b,rfl,hb,zb,fun H2 s2=>?_⟩
 exact ⟨_,_,rfl,rfl,q _ (s1.trans s2)⟩
theorem qW:bE P w K mg base eI 6 HM QM ["one","other"] (j4 K):=by
 have BA:=yn (P:=P) (w:=w) (base:=base) T
 refine T.KP.fn.ok qR (fun vs H Q E h=>pV h) (fun cM A outer s H vs Q E hr h=>?_)
 refine ⟨_,(ah (aD (IE (kF tQ (ar (ay K rfl) rfl T.z_len PySem.boot_len (aa (pv 0) ab)) (ar (ay K rfl) rfl T.z_len PySem.boot_len (aa (pv 1) ab)) (aM _)) (ID (ar (An K rfl rfl) rfl T.z_all boot_all (aa (cY ["pair"] [none] (AS K rfl rfl T.z_zip (aa (pv 0) (aa (pv 1) ab))) trivial (fun _ _ _ _=>(aw (i:=0) (by decide+kernel:List.Nodup (["pair"]:List Str)) rfl (Or.inl rfl))) (fun _ _ _ _=>ip) (fun _ _ _ _=>(ao BA (hr.mono (by decide)) rfl T.KH.mg T.KH.fn.kp T.KH.bd .nil aA (aa (az (ax K rfl) (pv 0) ag (fun _ _=>rfl)) (aa (az (ax K rfl) (pv 0) ag (fun _ _=>rfl)) ab))))) ab)))))),?_⟩
 obtain ⟨t,u,ws,vs',rfl,ht,hu,N2,hvf,hw,hv,q⟩:=h
 have hs:(100000:Nat)<sizeLine:=by decide
 refine ⟨_,rfl,t,_,rfl, .inr (aW.of ht),_,rfl,u,_,rfl, .inr (aW.of hu),_,_,rfl,rfl,?_⟩
 refine ⟨_,rfl,cB (fun z=>?_) (fun z=>?_)⟩
 rotate_left
 ·have lU:ws.map aL≠vs'.map aL:=fun g=>by
   have hl:=congrArg List.length g
   rw[List.length_map,List.length_map]at hl
   rw[aN,aN,hl]at z
   exact z (decide_eq_true rfl)
  have:=q H (ai.refl H)
  rw[decide_eq_false lU]at this
  exact this
 have hl:ws.length=vs'.length:=by
  have:=of_decide_eq_true z
  rw[aN,aN]at this
  omega
 refine ⟨_,rfl,_,rfl,t,u,rfl,⟨_,aW.of ht⟩,⟨_,aW.of hu⟩,?_⟩
 refine CI (Sq1:=xD K t) (Sq2:=xD K u) (xs:=bw ws) (ys:=bw vs') (fun i acc H'=>acc=((ws.zip vs').take i).map (fun p=>V.bl (decide (aL p.1=aL p.2)))/\ai H H') (by rw[aN,aN];exact hl) (by rw[aN];omega) (fun i acc H' ⟨_,s⟩=>⟨aW.of (s _ _ ht),aW.of (s _ _ hu)⟩) ⟨rfl,ai.refl H⟩ ?_ ?_
 ·rintro i x y acc H' T Nx hx hy hac ⟨rfl,s1⟩ nT hN
  have hi:i<ws.length:=by
   have:=(List.getElem?_eq_some_iff.mp hx).1
   rwa [aN]at this
  have wX:i<vs'.length:=by omega
  rw[jj hi]at hx
  rw[jj wX]at hy
  cases hx
  cases hy
  have sT:=ai.upd (o:=HO.tup [.str (S ws[i]), .str (S vs'[i])]) nT
  refine ⟨trivial,?_⟩
  simp only[Jq,if_true]
  obtain ⟨w1,w2⟩:=hw _ (List.getElem_mem hi)
  obtain ⟨v1,v2⟩:=hv _ (List.getElem_mem wX)
  refine ⟨_,rfl,_,_,0,_,rfl,rfl,aW.of ae,rfl,_,rfl,_,_,1,_,rfl,rfl,aW.of ae,rfl,?_⟩
  refine ⟨ws[i],vs'[i],rfl,w1,by omega,v1,by omega,fun H2 s2=>?_⟩
  refine hN _ _ (by rw[List.length_append,List.length_map,List.length_take];simp only[List.length_cons,List.length_nil];omega) ⟨?_,s1.trans (sT.trans s2)⟩
  have hz:(ws.zip vs')[i]? =some (ws[i],vs'[i]):=by rw[List.getElem?_zip_eq_some];exact ⟨List.getElem?_eq_getElem hi,List.getElem?_eq_getElem wX⟩
  rw[List.take_add_one,hz,List.map_append]
  rfl
 ·rintro acc H' D fI ⟨rfl,s1⟩ nD
  have e1:(ws.zip vs').take (bw ws).length=ws.zip vs':=List.take_of_length_le (by rw[aN,List.length_zip];omega)
  rw[e1]
  refine ⟨D,(ws.zip vs').map (fun p=>decide (aL p.1=aL p.2)),rfl,?_,?_⟩
  ·rw[List.map_map]
   exact aT.of ae
  ·have e2:((ws.zip vs').map (fun p=>decide (aL p.1=aL p.2))).all id=decide (ws.map aL=vs'.map aL):=v9 hl
   rw[e2]
   exact q _ (s1.trans (ai.upd nD))
theorem mP:bE P w K mg base eI 1 Hz Ko ["one","other"] (hR K):=by
 refine T.KL.fn.ok fg (fun vs H Q E h=>lF h) (fun cM A outer s H vs Q E hr h=>?_)
 refine ⟨_,(af (au (i:=2) fg.nd rfl (Or.inl rfl) ag)
   (af (fR PassesOwn.never (aB oO (aK fK (bF kN (pv 0) (bK (pv 2)) cg) (bF kN (pv 0) cg (bK (pv 2)))) (pv 1) (aM _)) (ah (lY (i:=2) fg.nd rfl (Or.inl rfl) ag s_)))
   (ah (aD (pv 2))))),?_⟩
 obtain ⟨a,b,rfl,hz,⟨t0,h0,e0⟩,q⟩:=h
 have hs:(100000:Nat)<sizeLine:=by decide
 walk_at "wk"
 refine ⟨fun m σ H'=> ∃t:Nat,σ=[some (.str (S a)),some (.str (S b)),some (.int t)]/\m=t0 - t/\t<=t0/\H'=H,⟨_,0,rfl,rfl,Nat.zero_le _,rfl⟩,?_⟩
 rintro m σ H2 ⟨t,rfl,rfl,ht,rfl⟩
 have hl:(fu a t).length=a.length:=lg a t
 have haz:a.length<=sizeLine:=by omega
 refine ⟨_,rfl,_,rfl,_,rfl,a,rfl,haz,_,rfl,_,rfl,_,rfl,a,rfl,haz,_,_,rfl,rfl,by rw[cE,kj];unfold fu at hl;rw[<-List.length_append,hl];omega,?_⟩
 rw[cE,kj]
 refine ⟨_,rfl,fu a t,b,rfl,rfl,_,rfl,cB (fun z=>?_) (fun z=>?_)⟩
 ·have z1:fu a t≠b:=by simpa using z
  have yl:t≠t0:=fun g=>z1 (by rw[g];exact e0)
  refine ⟨_,rfl,_,_,rfl,rfl,_,?_,t+1,by rw[show ((t+1:Nat):Int)=(t:Int)+1 by omega];rfl,rfl,by omega,rfl⟩
  omega
 ·have z1:fu a t=b:=by
   by_cases g:fu a t=b
   ·exact g
   ·exact absurd (by simpa using g) z
  exact ⟨_,rfl,q t (by omega) z1⟩
theorem lQ:bE P w K mg base eI 2 Hw QJ ["word"] (lE K):=by
 have bJ:=dc (P:=P) (w:=w) (base:=base) T
 refine T.Es.fn.ok dD (fun vs H Q E h=>qL h) (fun cM A outer s H vs Q E hr h=>?_)
 refine ⟨_,(af (au (i:=1) dD.nd rfl (Or.inl rfl) (bz ab))
   (af (au (i:=2) dD.nd rfl (Or.inl rfl) ag)
   (af (fR PassesOwn.never (aB gY (pv 2) (aK cX (ar a_ rfl T.z_len PySem.boot_len (aa (pv 0) ab)) ag) (aM _)) (ah (bC (aB eQ (az ka (pv 0) (aK bV (pv 2) ag) (fun _ _=>rfl)) (ao bJ (hr.mono (by decide)) rfl T.F0.mg T.F0.fn.kp T.F0.bd .nil aA (aa (az ka (pv 0) (pv 2) (fun _ _=>rfl)) ab)) (aM _)) (af (aY (aX K rfl PySem.F.plainAttrs_list PySem.F.slot_list_append PySem.F.type_list_append bf (pv 1) (aa (bD (aa (pv 2) (aa (az ka (pv 0) (pv 2) (fun _ _=>rfl)) ab))) ab)))
   (af (au (i:=0) dD.nd rfl (Or.inl rfl) (aK fK (bF kN (pv 0) cg (bK (pv 2))) (bF kN (pv 0) (bK (aK bV (pv 2) ag)) cg)))
   (ah (au (i:=2) dD.nd rfl (Or.inl rfl) (ar (jx rfl) rfl T.z_max boot_max (aa (aK cX (pv 2) ag) (aa ag ab))))))) (ah (lY (i:=2) dD.nd rfl (Or.inl rfl) ag s_)))))
   (ah (aD (pv 1)))))),?_⟩
 obtain ⟨w,rfl,hw,hz,q⟩:=h
 have hs:(100000:Nat)<sizeLine:=by decide
 walk_at "wk"
 intro t nt
 have s1:=ai.upd (o:=HO.lst []) nt
 have yl:upd H t (HO.lst []) t=some (HO.lst []):=ae
 generalize upd H t (HO.lst [])=H1 at s1 yl ⊢
 refine ⟨fun m σ H'=> ∃(u:List Nat) (p:Nat) (ps:List Pq),σ=[some (.str (S u)),some (.ref t),some (.int p)]/\m=2*u.length+1 - p/\p<=u.length/\(∀k,k<p-> ¬Spot u k)/\iZ w (ps.map Pq.pr) u/\H' t=some (.lst (sg ps))/\(∀p∈ps,Kg H' p)/\ai H H',
  ⟨_,w,0,[],rfl,rfl,Nat.zero_le _,fun k hk=>by omega, .nil,yl,fun _ h=>absurd h List.not_mem_nil,s1⟩,?_⟩
 rintro m σ H2 ⟨u,p,ps,rfl,rfl,hp,TX,ho,Ex,iN,s2⟩
 have zK:=ho.len
 have TY:=ho.mem
 have N3: ∀c∈u,Lt c:=fun c hc=>hw c (TY c hc)
 have L4:u.length<=sizeLine:=by omega
 have fJ:ps.length<=6:=by rw[List.length_map]at zK;omega
 refine ⟨_,rfl,_,rfl,u,rfl,L4,_,_,rfl,rfl,_,_,rfl,rfl,_,rfl,cB (fun z=>?_) (fun z=>?_)⟩
 ·have z1:(p:Int)<(u.length:Int) - 1:=of_decide_eq_true z
  have fi:p+1<u.length:=by omega
  have e0:u[p]? =some (u[p]'(by omega)):=List.getElem?_eq_getElem (by omega)
  have e1:u[p+1]? =some u[p+1]:=List.getElem?_eq_getElem fi
  generalize (u[p]'(by omega))=a at e0
  generalize u[p+1]=b at e1
  have ha:=N3 a (List.mem_of_getElem? e0)
  have hb:=N3 b (List.mem_of_getElem? e1)
  have ep:(p:Int)+1=((p+1:Nat):Int):=by omega
  refine ⟨_,rfl,_,rfl,_,_,rfl,rfl,u,_,_,rfl,rfl,L4,by rw[ep];exact aR e1,?_⟩
  refine ⟨_,rfl,_,rfl,u,_,_,rfl,rfl,L4,aR e0,a,rfl,ha.lt,[b],[bb a],rfl,rfl,_,rfl,cB (fun y=>?_) (fun y=>?_)⟩
  ·have ey:b=bb a:=by simpa using of_decide_eq_true y
   subst ey
   refine ⟨_,rfl, .inl ⟨rfl,_,aT.of Ex⟩,_,rfl,_,rfl,_,rfl,u,_,_,rfl,rfl,L4,aR e0,by show 2<=sizeLine;decide,fun t1 NV=>?_⟩
   have s3:=ai.upd (o:=HO.tup [V.int p,V.str (S [a])]) NV
   have ht3:=s3 _ _ Ex
   refine ⟨t,_,_,rfl,rfl,ht3,by rw[nU];omega,?_⟩
   rw[show sg ps++[V.ref t1]=sg (ps++[⟨t1,p,a⟩]) from Ds ps ⟨t1,p,a⟩]
   have N4: ∀x∈ps++[(⟨t1,p,a⟩:Pq)],Kg (upd (upd H2 t1 (HO.tup [V.int p,V.str (S [a])])) t (HO.lst (sg (ps++[⟨t1,p,a⟩])))) x:=fun x hx=>by
    have tU:=aJ.fL (o:=HO.lst (sg (ps++[⟨t1,p,a⟩]))) ht3
    rcases List.mem_append.mp hx with g | g
    ·exact tU _ _ (s3 _ _ (iN x g))
    ·rw[List.mem_singleton.mp g];exact tU _ _ ae
   have s4:ai H (upd (upd H2 t1 (HO.tup [V.int p,V.str (S [a])])) t (HO.lst (sg (ps++[⟨t1,p,a⟩])))):=fun x o ex=>by rw[aq (ak ex nt)];exact s3 _ _ (s2 _ _ ex)
   have ht4:upd (upd H2 t1 (HO.tup [V.int p,V.str (S [a])])) t (HO.lst (sg (ps++[⟨t1,p,a⟩]))) t=_:=ae
   generalize upd (upd H2 t1 (HO.tup [V.int p,V.str (S [a])])) t (HO.lst (sg (ps++[⟨t1,p,a⟩])))=H4 at N4 s4 ht4 ⊢
   have ep2:(p:Int)+2=((p+2:Nat):Int):=by omega
   have hl:=uo e1
   refine ⟨_,rfl,_,rfl,_,rfl,u,rfl,L4,_,rfl,_,rfl,_,_,rfl,rfl,_,rfl,u,rfl,L4,_,_,rfl,rfl,?_,?_⟩
   ·rw[lA,ep2,cE, <-List.length_append];omega
   rw[lA,ep2,cE]
   refine ⟨_,rfl,_,_,rfl,rfl,_,_,rfl,?_⟩
   have em:(if (0:Int)>(p:Int) - 1 then (0:Int) else (p:Int) - 1)=((p - 1:Nat):Int):=by split<;>omega
   rw[em]
   refine ⟨_,?_,u.take p++u.drop (p+2),p - 1,ps++[⟨t1,p,a⟩],rfl,rfl,by omega,fun k hk sp=>?_,by rw[List.map_append];exact ho.snoc e0 e1,ht4,N4,s4⟩
   ·omega
   ·obtain ⟨c,d,g1,g2,g3⟩:=sp
    rw[List.getElem?_append_left (by rw[List.length_take];omega),List.getElem?_take,if_pos (by omega)]at g1 g2
    exact TX k (by omega) ⟨c,d,g1,g2,g3⟩
  ·have ey:b≠bb a:=fun g=>y (decide_eq_true (by rw[g]))
   refine ⟨_,rfl,_,_,rfl,rfl,_,?_,u,p+1,ps,by rw[<-ep];rfl,rfl,by omega,fun k hk sp=>?_,ho,Ex,iN,s2⟩
   ·omega
   ·rcases Nat.lt_or_ge k p with g | g
    ·exact TX k g sp
    ·have:k=p:=by omega
     subst this
     obtain ⟨c,d,g1,g2,g3⟩:=sp
     rw[e0]at g1;rw[e1]at g2
     cases g1;cases g2
     exact ey (by rw[g3,bB hb])
 ·have z1: ¬(p:Int)<(u.length:Int) - 1:=fun g=>z (decide_eq_true g)
  have hu:red u=u:=FA fun k sp=>by
   rcases Nat.lt_or_ge k p with g | g
   ·exact TX k g sp
   ·obtain ⟨c,d,g1,g2,g3⟩:=sp
    have:=(List.getElem?_eq_some_iff.mp g2).1
    omega
  refine ⟨_,rfl,q t ps H2 nt Ex iN ?_ s2⟩
  rw[<-ho.red hw,hu]
  exact ho
theorem wJ:bE P w K mg base eI 4 Hx QK ["cord","word"] (m6 K):=by
 have jv:=lQ (P:=P) (w:=w) (base:=base) T
 have fD:=iJ (P:=P) (w:=w) (base:=base) T
 have df:=gO (P:=P) (w:=w) (base:=base) T
 refine T.KI.fn.ok gN (fun vs H Q E h=>uu h) (fun cM A outer s H vs Q E hr h=>?_)
 refine ⟨_,(af (kP (i:=2) ["pair","cord"] [none,some 0] gN.nd rfl (Or.inl rfl) (eB K rfl (ao jv (hr.mono (by decide)) rfl T.Es.mg T.Es.fn.kp T.Es.bd .nil aA (aa (pv 1) ab))) ⟨⟨rfl,rfl,by first | exact .inl rfl | exact .inr rfl⟩,trivial⟩ (fun _ _ _ _=>(aw (i:=0) (by decide+kernel:List.Nodup (["pair","cord"]:List Str)) rfl (Or.inl rfl))) (fun _ _ _ _=>ip) (fun _ _ _ _=>(bD (aa (dh [111,117,116] (by decide+kernel)) (aa (pv 1) (aa (az (ax K rfl) (pv 0) ag (fun _ _=>rfl)) ab))))))
   (af (au (i:=3) gN.nd rfl (Or.inl rfl) (ar a_ rfl T.z_len PySem.boot_len (aa (ao fD (hr.mono (by decide)) rfl T.Br.mg T.Br.fn.kp T.Br.bd .nil aA (aa (pv 1) ab)) ab)))
   (af (fR PassesOwn.never (aB kE (pv 3) (ar a_ rfl T.z_len PySem.boot_len (aa (ao df (hr.mono (by decide)) rfl T.uD.mg T.uD.fn.kp T.uD.bd .nil aA (aa (pv 1) ab)) ab)) (aM _)) (af (aY (aX K rfl PySem.F.plainAttrs_list PySem.F.slot_list_append PySem.F.type_list_append bf (pv 2) (aa (bD (aa (dh [116,117,114,110] (by decide+kernel)) (aa (pv 0) ab))) ab)))
   (af (aY (aX K rfl PySem.F.plainAttrs_list PySem.F.slot_list_append PySem.F.type_list_append bf (pv 2) (aa (bD (aa (dh [111,117,116] (by decide+kernel)) (aa (pv 0) (aa (aK cX (pv 3) ag) ab)))) ab)))
   (ah (lY (i:=3) gN.nd rfl (Or.inl rfl) ag B1)))))
   (ah (aD (pv 2)))))),?_⟩
 obtain ⟨y,c,w,rfl,hw,hz,q⟩:=h
 have hs:(100000:Nat)<sizeLine:=by decide
 refine ⟨_,rfl,w,rfl,hw,hz,fun t ps H1 nt ht iN ho s1=>?_⟩
 have fJ:ps.length<=6:=by have:=ho.len;rw[List.length_map]at this;omega
 refine ⟨t,rfl,⟨_,aT.of ht⟩,?_⟩
 refine rD (K:=K) (a:=t) (xs:=sg ps) (fun i acc H'=>ai H1 H'/\ ∃ds:List Dd,acc=dJ ds/\(∀x∈ds,eV H' x.a x.e)/\ds.map Dd.e=(ps.take i).map fun p=> .out c p.k) (by rw[nU];omega) (fun i acc H' h=>aT.of (h.1 _ _ ht)) ⟨ai.refl _,[],rfl,fun _ h=>absurd h List.not_mem_nil,rfl⟩ ?_ ?_
 ·rintro i x acc H2 Nx hi hx fI ⟨s2,ds,rfl,Ic,sR⟩ nx
  obtain ⟨p,hp,rfl⟩:=Dt hx
  have hpk:H2 p.t=_:=s2 _ _ (iN p (List.mem_of_getElem? hp))
  refine ⟨⟨rfl,trivial⟩,gJ ?_⟩
  refine ⟨_,rfl,_,rfl,p.t,_,0,_,rfl,rfl,aW.of hpk,rfl,by show 3<=sizeLine;decide,fun d nd=>?_⟩
  have s3:=ai.upd (o:=HO.tup [V.str (S [111,117,116]),V.int c,V.int p.k]) nd
  refine nx _ _ (by simpa using fI) ⟨s2.trans s3,ds++[⟨d, .out c p.k⟩],eF ds ⟨d, .out c p.k⟩,fun x hx=>?_,?_⟩
  ·rcases List.mem_append.mp hx with g | g
   ·exact (Ic x g).ts (aJ.of s3)
   ·rw[List.mem_singleton.mp g];exact ae
  ·rw[List.map_append,sR,List.take_succ,hp]
   show _=((ps.take i)++[p]).map _
   rw[List.map_append];rfl
 ·rintro acc H2 D fI ⟨s2,ds,rfl,Ic,sR⟩ hD
  rw[nU,List.take_length]at sR
  have s3:=ai.upd (o:=HO.lst (dJ ds)) hD
  have nD:H D=none:=ai.free (s1.trans s2) hD
  have sS:hU H (upd H2 D (HO.lst (dJ ds))) D ds:=⟨ae,fun x hx=>(Ic x hx).ts (aJ.of s3),(s1.trans s2).trans s3⟩
  have K6:WP y c w (ds.map Dd.e) (red w):=by
   rw[sR]
   have:=ho.down (y:=y) (c:=c)
   rwa [List.map_map]at this
  have Ge:ds.length<=6:=by
   have:=congrArg List.length sR
   rw[List.length_map,List.length_map]at this
   omega
  generalize upd H2 D (HO.lst (dJ ds))=H3 at sS ⊢
  clear s2 Ic hD fI s3
  have lT:=iu w
  refine ⟨_,rfl,w,rfl,hw,by omega,fun H4 s4=>⟨red w,rfl,by omega,?_⟩⟩
  refine ⟨fun m σ H'=> ∃(u:List Nat) (es:List Dd),σ=[some (.int c),some (.str (S w)),some (.ref D),some (.int (u.length:Nat))]/\m=u.length/\core u=core (red w)/\u.length<=12/\hU H H' D es/\WP y c w (es.map Dd.e) u/\es.length+u.length<=20,
   ⟨_,red w,ds,rfl,rfl,rfl,by omega,sS.same s4,K6,by omega⟩,?_⟩
  rintro m σ H5 ⟨u,es,rfl,rfl,hc,hu,zL,DZ,Ie⟩
  have kA:=jk (red w)
  refine ⟨_,rfl,_,rfl,w,rfl,hw,by omega,fun H6 s6=>⟨core (red w),rfl,by omega,_,_,rfl,rfl,_,rfl,cB (fun z=>?_) (fun z=>?_)⟩⟩
  ·have z1:(core u).length<u.length:=by rw[hc];have:(u.length:Int)>((core (red w)).length:Int):=of_decide_eq_true z;omega
   obtain ⟨a,mm,zz,rfl,ez,hcm⟩:=Bh z1
   have Ib:(a::(mm++[zz])).length=mm.length+2:=by simp
   have K7:=zL.same s6
   refine ⟨_,rfl, .inl ⟨rfl,_,aT.of K7.ls⟩,_,rfl,by show 2<=sizeLine;decide,fun d1 n1=>?_⟩
   have e1:=ai.upd (o:=HO.tup [V.str (S [116,117,114,110]),V.int c]) n1
   refine ⟨D,_,_,rfl,rfl,e1 _ _ K7.ls,by rw[cA];omega,?_⟩
   rw[show dJ es++[V.ref d1]=dJ (es++[⟨d1, .turn c⟩]) from eF es ⟨d1, .turn c⟩]
   have Q8:=K7.push (e:= .turn c) nD e1 ae
   generalize upd (upd H6 d1 (HO.tup [V.str (S [116,117,114,110]),V.int c])) D (HO.lst (dJ (es++[⟨d1, .turn c⟩])))=H7 at Q8 ⊢
   have em:(((a::(mm++[zz])).length:Nat):Int) - 2=((mm.length:Nat):Int):=by rw[Ib];omega
   refine ⟨_,rfl, .inl ⟨rfl,_,aT.of Q8.ls⟩,_,rfl,_,rfl,_,_,rfl,rfl,by show 3<=sizeLine;decide,fun d2 n2=>?_⟩
   have e2:=ai.upd (o:=HO.tup [V.str (S [111,117,116]),V.int c,V.int ((((a::(mm++[zz])).length:Nat):Int) - 2)]) n2
   refine ⟨D,_,_,rfl,rfl,e2 _ _ Q8.ls,by rw[cA,List.length_append];show es.length+1<_;omega,?_⟩
   rw[show dJ (es++[⟨d1, .turn c⟩])++[V.ref d2]=dJ ((es++[⟨d1, .turn c⟩])++[⟨d2, .out c mm.length⟩]) from eF _ ⟨d2, .out c mm.length⟩]
   have hd8:=Q8.push (e:= .out c mm.length) nD e2 (by show upd H7 d2 _ d2=_;rw[ae,em];rfl)
   refine ⟨_,rfl,_,_,rfl,rfl,mm.length,by rw[Ib];omega,mm,_,by rw[<-em];rfl,rfl,hcm.trans hc,by rw[Ib]at hu;omega,hd8,?_,by rw[Ib]at Ie;rw[List.length_append,List.length_append];show es.length+1+1+_<=20;omega⟩
   rw[List.map_append,List.map_append,List.append_assoc]
   exact DZ.app (WP.ends ez)
  ·have z1: ¬(core u).length<u.length:=fun g=>z (decide_eq_true (by rw[hc]at g;show (u.length:Int)>_;omega))
   have hcu:core u=u:=by
    by_cases h2:2<=u.length
    ·obtain ⟨a,mm,zz,rfl⟩:=vN h2
     by_cases ez:a=bb zz
     ·have:=jk mm
      rw[jz ez]at z1
      simp at z1
      omega
     ·exact eT ez
    ·exact eU (by omega)
   refine ⟨_,rfl,q D es H6 nD (zL.same s6).ls (zL.same s6).de ?_ (by omega) (zL.same s6).sm⟩
   show WP y c w (es.map Dd.e) (core (red w))
   rw[<-hc,hcu]
   exact DZ
theorem BB:bE P w K mg base eI 4 Hy QL ["cord","word"] (si K):=by
 have fD:=iJ (P:=P) (w:=w) (base:=base) T
 have df:=gO (P:=P) (w:=w) (base:=base) T
 have bJ:=dc (P:=P) (w:=w) (base:=base) T
 have jv:=lQ (P:=P) (w:=w) (base:=base) T
 refine T.KJ.fn.ok ig (fun vs H Q E h=>x8 h) (fun cM A outer s H vs Q E hr h=>?_)
 refine ⟨_,(af (au (i:=2) ig.nd rfl (Or.inl rfl) (bz ab))
   (af (au (i:=3) ig.nd rfl (Or.inl rfl) (ao fD (hr.mono (by decide)) rfl T.Br.mg T.Br.fn.kp T.Br.bd .nil aA (aa (pv 1) ab)))
   (af (bp PassesOwn.never rfl (Ju rfl T.z_reversed (aa (bF kN (pv 3) cg (bK (aK tm (aK cX (ar a_ rfl T.z_len PySem.boot_len (aa (pv 3) ab)) (ar a_ rfl T.z_len PySem.boot_len (aa (ao df (hr.mono (by decide)) rfl T.uD.mg T.uD.fn.kp T.uD.bd .nil aA (aa (pv 1) ab)) ab))) ag))) ab)) (aw (i:=4) ig.nd rfl (Or.inl rfl)) (af (aY (aX K rfl PySem.F.plainAttrs_list PySem.F.slot_list_append PySem.F.type_list_append bf (pv 2) (aa (bD (aa (dh [105,110] (by decide+kernel)) (aa (pv 0) (aa ag (aa (ao bJ (hr.mono (by decide)) rfl T.F0.mg T.F0.fn.kp T.F0.bd .nil aA (aa (pv 4) ab)) (aa ag ab)))))) ab)))
   (ah (aY (aX K rfl PySem.F.plainAttrs_list PySem.F.slot_list_append PySem.F.type_list_append bf (pv 2) (aa (bD (aa (dh [116,117,114,110] (by decide+kernel)) (aa (pv 0) ab))) ab))))))
   (af (bp PassesOwn.never rfl (Fq K rfl rfl T.z_reversed (aa (ao jv (hr.mono (by decide)) rfl T.Es.mg T.Es.fn.kp T.Es.bd .nil aA (aa (pv 1) ab)) ab)) (aw (i:=5) ig.nd rfl (Or.inl rfl)) (ah (aY (aX K rfl PySem.F.plainAttrs_list PySem.F.slot_list_append PySem.F.type_list_append bf (pv 2) (aa (bD (aa (dh [105,110] (by decide+kernel)) (aa (pv 0) (aa (az (ax K rfl) (pv 5) ag (fun _ _=>rfl)) (aa (az (ax K rfl) (pv 5) ag (fun _ _=>rfl)) (aa ag ab)))))) ab)))))
   (ah (aD (pv 2))))))),?_⟩
 obtain ⟨y,c,w,rfl,hy,sV,hz,q⟩:=h
 have hs:(100000:Nat)<sizeLine:=by decide
 have hw: ∀c∈w,Lt c:=fun c hc=>hy.lt c (sV c hc)
 have lT:=iu w
 have kA:=jk (red w)
 walk_at "wk"
 intro D nD
 have s1:=ai.upd (o:=HO.lst []) nD
 have K8:hU H (upd H D (HO.lst [])) D []:=⟨ae,fun _ h=>absurd h List.not_mem_nil,s1⟩
 generalize upd H D (HO.lst [])=H1 at K8 ⊢
 refine ⟨_,rfl,w,rfl,hw,by omega,fun H2 s2=>?_⟩
 have Ig:=K8.same s2
 obtain ⟨p,fJ,gE⟩:=xQ (show AllLt (red w) from ud hw)
 have hlen:(red w).length=2*p.length+(core (red w)).length:=by
  have:=congrArg List.length gE
  rw[List.length_append,List.length_append]at this
  unfold vI at this
  simp at this
  omega
 have TZ:(red w).take p.length=p:=by conv=>lhs;rw[gE];rw[List.append_assoc,List.take_left]
 have iD: ∀x∈p,x∈y:=fun x hx=>sV x (FN (by rw[gE,List.append_assoc];exact List.mem_append_left _ hx))
 refine ⟨_,rfl,_,rfl,red w,rfl,by omega,?_⟩
 refine ⟨_,rfl,w,rfl,hw,by omega,fun H3 s3=>⟨core (red w),rfl,by omega,_,_,rfl,rfl,?_⟩⟩
 have sS:=Ig.same s3
 clear K8 Ig s1 s2 s3
 refine ⟨_,_,rfl,rfl,⟨by decide,by decide⟩,_,rfl,red w,rfl,by omega,?_⟩
 have N5:(((red w).length:Int) - ((core (red w)).length:Int)) / 2=((p.length:Nat):Int):=by omega
 rw[N5,lA,TZ]
 refine ⟨p,rfl,by omega,?_⟩
 have T1:(cq p).reverse=cq p.reverse:=by unfold cq;rw[List.map_reverse]
 rw[T1]
 have Nu: ∀x∈p.reverse,Lt x:=fun x hx=>fJ x (List.mem_reverse.mp hx)
 refine nN (xs:=cq p.reverse) (fun i σ H'=> ∃(ds:List Dd) (lv:Option V),σ=[some (.int c),some (.str (S w)),some (.ref D),some (.str (S (red w))),lv,none]/\hU H H' D ds/\ds.map Dd.e=pS c (p.reverse.take i))
  ⟨[],none,rfl,sS,rfl⟩ ?_ ?_
 ·rintro i v σ H4 hv ⟨ds,lv,rfl,uR,sR⟩
  obtain ⟨x,hx,rfl⟩:=di hv
  have Kd:=Nu x (List.mem_of_getElem? hx)
  have hi:i<p.reverse.length:=(List.getElem?_eq_some_iff.mp hx).1
  have Ge:ds.length<=24:=by
   have:=congrArg List.length sR
   rw[List.length_map,pW,List.length_take]at this
   rw[List.length_reverse]at this hi
   omega
  refine ⟨_,rfl, .inl ⟨rfl,_,aT.of uR.ls⟩,_,rfl,_,rfl,x,rfl,Kd.lt,by show 5<=sizeLine;decide,fun d1 n1=>?_⟩
  have e1:=ai.upd (o:=HO.tup [V.str (S [105,110]),V.int c,V.int 0,V.str (S [bb x]),V.int 0]) n1
  refine ⟨D,_,_,rfl,rfl,e1 _ _ uR.ls,by rw[cA];omega,?_⟩
  rw[show dJ ds++[V.ref d1]=dJ (ds++[⟨d1, .ins c 0 (bb x) 0⟩]) from eF ds ⟨d1, .ins c 0 (bb x) 0⟩]
  have w6:=uR.push (e:= .ins c 0 (bb x) 0) nD e1 ae
  generalize upd (upd H4 d1 (HO.tup [V.str (S [105,110]),V.int c,V.int 0,V.str (S [bb x]),V.int 0])) D (HO.lst (dJ (ds++[⟨d1, .ins c 0 (bb x) 0⟩])))=H5 at w6 ⊢
  refine ⟨_,rfl, .inl ⟨rfl,_,aT.of w6.ls⟩,_,rfl,by show 2<=sizeLine;decide,fun d2 n2=>?_⟩
  have e2:=ai.upd (o:=HO.tup [V.str (S [116,117,114,110]),V.int c]) n2
  refine ⟨D,_,_,rfl,rfl,e2 _ _ w6.ls,by rw[cA,List.length_append];show ds.length+1<_;omega,?_⟩
  rw[show dJ (ds++[⟨d1, .ins c 0 (bb x) 0⟩])++[V.ref d2]=dJ ((ds++[⟨d1, .ins c 0 (bb x) 0⟩])++[⟨d2, .turn c⟩]) from eF _ ⟨d2, .turn c⟩]
  refine ⟨_,_,rfl,w6.push (e:= .turn c) nD e2 ae,?_⟩
  rw[List.map_append,List.map_append,sR,List.take_succ,hx,List.append_assoc]
  show pS c _++_=pS c (p.reverse.take i++[x])
  rw[mB]
  rfl
 ·rintro σ H4 ⟨ds,lv,rfl,uR,sR⟩
  rw[aU,List.take_length]at sR
  have T3:WP y c (core (red w)) (ds.map Dd.e) (red w):=by
   rw[sR]
   have:=WP.G7 (y:=y) (c:=c) p (core (red w)) (fun x hx=>⟨fJ x hx,hy.cl x (iD x hx)⟩) (by omega)
   rw[<-gE]at this
   exact this
  have Ge:ds.length<=24:=by
   have:=congrArg List.length sR
   rw[List.length_map,pW,List.length_reverse]at this
   omega
  refine ⟨_,rfl,w,rfl,hw,hz,fun t ps H5 nt ht iN ho s5=>?_⟩
  have abg:ps.length<=6:=by have:=ho.len;rw[List.length_map]at this;omega
  have w6:=uR.same s5
  refine ⟨t,_,rfl,aT.of ht,?_⟩
  refine CS (K:=K) (a:=t) (xs:=sg ps) (fun i σ H'=> ∃(es:List Dd) (pv:Option V),σ=[some (.int c),some (.str (S w)),some (.ref D),some (.str (S (red w))),lv,pv]/\hU H H' D es/\es.map Dd.e=ds.map Dd.e++((ps.reverse.take i).map fun p=> .ins c p.k p.x 0)/\aF D H5 H')
   ⟨ds,none,rfl,w6,by simp,aF.refl _ _⟩ (fun i σ H' _ ⟨_,_,_,_,_,h⟩=>aT.of (h _ _ ht (ak uR.ls nt).symm)) ?_ ?_
  ·rintro i v σ H6 hv ⟨es,pv,rfl,Gf,BV,s6⟩
   have T4:(sg ps.reverse)[i]? =some v:=by unfold sg at hv ⊢; rw[<-List.map_reverse]at hv;exact hv
   obtain ⟨r,K9,rfl⟩:=Dt T4
   have hrm:r∈ps:=List.mem_reverse.mp (List.mem_of_getElem? K9)
   have hrk:=iN r hrm
   have Q9:H6 r.t=_:=s6 _ _ hrk (fun z=>by have:=w6.ls;rw[<-z,show H5 r.t=_ from hrk]at this;cases this)
   have A4:es.length<=30:=by
    have:=congrArg List.length BV
    rw[List.length_map,List.length_append,List.length_map,List.length_map,List.length_take,List.length_reverse]at this
    omega
   refine ⟨_,rfl, .inl ⟨rfl,_,aT.of Gf.ls⟩,_,rfl,_,rfl,r.t,_,0,_,rfl,rfl,aW.of Q9,rfl,_,rfl,r.t,_,1,_,rfl,rfl,aW.of Q9,rfl,by show 5<=sizeLine;decide,fun d1 n1=>?_⟩
   have e1:=ai.upd (o:=HO.tup [V.str (S [105,110]),V.int c,V.int r.k,V.str (S [r.x]),V.int 0]) n1
   refine ⟨D,_,_,rfl,rfl,e1 _ _ Gf.ls,by rw[cA];omega,?_⟩
   rw[show dJ es++[V.ref d1]=dJ (es++[⟨d1, .ins c r.k r.x 0⟩]) from eF es ⟨d1, .ins c r.k r.x 0⟩]
   refine ⟨_,_,rfl,Gf.push (e:= .ins c r.k r.x 0) nD e1 ae,?_,fun a u ea na=>by rw[aq na];exact e1 _ _ (s6 a u ea na)⟩
   rw[List.map_append,BV,List.take_succ,K9,List.append_assoc]
   show _=_++((ps.reverse.take i++[r]).map _)
   rw[List.map_append]
   rfl
  ·rintro σ H6 ⟨es,pv,rfl,Gf,BV,s6⟩
   rw[nU, <-List.length_reverse,List.take_length]at BV
   have A4:es.length<=100:=by
    have:=congrArg List.length BV
    rw[List.length_map,List.length_append,List.length_map,List.length_map,List.length_reverse]at this
    omega
   refine ⟨_,rfl,q D es H6 nD Gf.ls Gf.de ?_ A4 Gf.sm⟩
   show WP y c (core (red w)) (es.map Dd.e) w
   rw[BV]
   refine T3.app ?_
   have:=ho.up (y:=y) (c:=c) sV hz
   rw[<-List.map_reverse,List.map_map]at this
   exact this
theorem uG:bE P w K mg base eI 5 HK Kp ["cord","one","other"] (lG K):=by
 have nH:=mP (P:=P) (w:=w) (base:=base) T
 have df:=gO (P:=P) (w:=w) (base:=base) T
 have yo:=wJ (P:=P) (w:=w) (base:=base) T
 have D0:=BB (P:=P) (w:=w) (base:=base) T
 refine T.KN.fn.ok lO (fun vs H Q E h=>qM h) (fun cM A outer s H vs Q E hr h=>?_)
 refine ⟨_,(af (bC (aB eQ (pv 1) (pv 2) (aM _)) (ah (aD (bz ab))) aV)
   (af (au (i:=3) lO.nd rfl (Or.inl rfl) (ao nH (hr.mono (by decide)) rfl T.KL.mg T.KL.fn.kp T.KL.bd .nil aA (aa (ao df (hr.mono (by decide)) rfl T.uD.mg T.uD.fn.kp T.uD.bd .nil aA (aa (pv 1) ab)) (aa (ao df (hr.mono (by decide)) rfl T.uD.mg T.uD.fn.kp T.uD.bd .nil aA (aa (pv 2) ab)) ab))))
   (ah (aD (aK i_ (aK i_ (ao yo (hr.mono (by decide)) rfl T.KI.mg T.KI.fn.kp T.KI.bd .nil aA (aa (pv 0) (aa (pv 1) ab))) (aK Jk (bz (aa (bD (aa (dh [116,117,114,110] (by decide+kernel)) (aa (pv 0) ab))) ab)) (pv 3))) (ao D0 (hr.mono (by decide)) rfl T.KJ.mg T.KJ.fn.kp T.KJ.bd .nil aA (aa (pv 0) (aa (pv 2) ab)))))))),?_⟩
 obtain ⟨y,c,w,v,rfl,hy,sV,uE,N6,Q_,zO,q⟩:=h
 have hs:(100000:Nat)<sizeLine:=by decide
 have hw: ∀c∈w,Lt c:=fun c hc=>hy.lt c (sV c hc)
 have hv: ∀c∈v,Lt c:=fun c hc=>hy.lt c (N6 c hc)
 refine ⟨_,rfl,_,rfl,w,v,rfl,rfl,_,rfl,cB (fun z=>?_) (fun z=>?_)⟩
 ·have e:w=v:=of_decide_eq_true z
  subst e
  refine ⟨Nat.zero_le _,fun t nt=>?_⟩
  exact q t [] _ nt ae (fun _ h=>absurd h List.not_mem_nil) .nil (Nat.zero_le _) (ai.upd nt)
 ·refine ⟨_,rfl,w,rfl,hw,by omega,fun H1 s1=>?_⟩
  refine ⟨_,rfl,v,rfl,hv,by omega,fun H2 s2=>?_⟩
  have kA:(core (red w)).length<=12:=Nat.le_trans (jk _) (Nat.le_trans (iu w) uE)
  refine ⟨core (red w),core (red v),rfl,by omega,x5 zO,fun t ht et=>?_⟩
  refine ⟨_,rfl,_,rfl,y,c,w,rfl,hw,uE,fun a ds H3 na ha Ic K6 Ge s3=>?_⟩
  refine ⟨_,rfl,by show 2<=sizeLine;decide,fun d1 n1=>?_⟩
  have e1:=ai.upd (o:=HO.tup [V.str (S [116,117,114,110]),V.int c]) n1
  refine ⟨by show 1<=sizeLine;decide,fun l1 nl1=>?_⟩
  have e2:=ai.upd (o:=HO.lst [V.ref d1]) nl1
  refine ⟨_,rfl,l1,(t:Int),[V.ref d1],rfl,rfl,ae,by omega,by omega,by simp;omega,fun l2 nl2=>?_⟩
  rw[Int.toNat_natCast,wa d1 c t]
  have e3:=ai.upd (o:=HO.lst (dJ (List.replicate t ⟨d1, .turn c⟩))) nl2
  have K_:=(e1.trans e2).trans e3
  refine ⟨a,l2,_,_,rfl,rfl,K_ _ _ ha,ae,by rw[cA,cA,List.length_replicate];omega,fun l3 nl3=>?_⟩
  rw[nV]
  have e4:=ai.upd (o:=HO.lst (dJ (ds++List.replicate t ⟨d1, .turn c⟩))) nl3
  have D3:=K_.trans e4
  have BN:upd (upd (upd (upd H3 d1 (HO.tup [V.str (S [116,117,114,110]),V.int c])) l1 (HO.lst [V.ref d1])) l2 (HO.lst (dJ (List.replicate t ⟨d1, .turn c⟩)))) l3 (HO.lst (dJ (ds++List.replicate t ⟨d1, .turn c⟩))) l3=some (HO.lst (dJ (ds++List.replicate t ⟨d1, .turn c⟩))):=ae
  have N7:upd (upd (upd (upd H3 d1 (HO.tup [V.str (S [116,117,114,110]),V.int c])) l1 (HO.lst [V.ref d1])) l2 (HO.lst (dJ (List.replicate t ⟨d1, .turn c⟩)))) l3 (HO.lst (dJ (ds++List.replicate t ⟨d1, .turn c⟩))) d1=some (HO.tup [V.str (S [116,117,114,110]),V.int c]):=((e2.trans e3).trans e4) _ _ ae
  generalize upd (upd (upd (upd H3 d1 (HO.tup [V.str (S [116,117,114,110]),V.int c])) l1 (HO.lst [V.ref d1])) l2 (HO.lst (dJ (List.replicate t ⟨d1, .turn c⟩)))) l3 (HO.lst (dJ (ds++List.replicate t ⟨d1, .turn c⟩)))=H4 at D3 BN N7 ⊢
  clear e1 e2 e3 e4 K_
  have La:=((s1.trans s2).trans s3).trans D3
  refine ⟨_,rfl,_,rfl,y,c,v,rfl,hy,N6,Q_,fun b es H5 nb hb N8 T3 A4 s5=>?_⟩
  refine ⟨l3,b,_,_,rfl,rfl,s5 _ _ BN,hb,by rw[cA,cA,List.length_append,List.length_replicate];omega,fun r nr=>?_⟩
  rw[nV]
  have e6:=ai.upd (o:=HO.lst (dJ (ds++List.replicate t ⟨d1, .turn c⟩++es))) nr
  refine q r (ds++List.replicate t ⟨d1, .turn c⟩++es) _ (ai.free (La.trans s5) nr) ae (fun x hx=>?_) ?_ (by rw[List.length_append,List.length_append,List.length_replicate];omega) ((La.trans s5).trans e6)
  ·rcases List.mem_append.mp hx with g | g
   ·rcases List.mem_append.mp g with g | g
    ·exact (Ic x g).ts (aJ.of ((D3.trans s5).trans e6))
    ·rw[(List.mem_replicate.mp g).2]
     exact (s5.trans e6) _ _ N7
   ·exact (N8 x g).ts (aJ.of e6)
  ·show WP y c w ((ds++List.replicate t (⟨d1, .turn c⟩:Dd)++es).map Dd.e) v
   rw[List.map_append,List.map_append,List.map_replicate]
   refine (K6.app ?_).app T3
   rw[<-et]
   exact WP.turns t ht
theorem zP:bE P w K mg base eI 4 Hk QA ["yard","drawing","deeds"] (zu K):=by
 have dQ:=ij (P:=P) (w:=w) (base:=base) T
 have BC:=ym (P:=P) (w:=w) (base:=base) T
 refine T.wZ.fn.ok iG (fun vs H Q E h=>Dn h) (fun cM A outer s H vs Q E hr h=>?_)
 refine ⟨_,(af (au (i:=3) iG.nd rfl (Or.inl rfl) (bh (cQ K rfl) rfl T.z_list boot_list (aa (az (ax K rfl) (pv 1) ag (fun _ _=>rfl)) ab)))
   (af (au (i:=4) iG.nd rfl (Or.inr rfl) vn)
   (af (bp PassesOwn.never rfl (vw K rfl rfl T.z_zip (aa (ao dQ (hr.mono (by decide)) rfl T.F2.mg T.F2.fn.kp T.F2.bd .nil aA (aa (pv 0) ab)) (aa (az (ax K rfl) (pv 1) ag (fun _ _=>rfl)) ab))) (bW (n:=2) K rfl rfl (aP (aw (i:=5) iG.nd rfl (Or.inl rfl)) (aP (aw (i:=6) iG.nd rfl (Or.inl rfl)) bU))) (ah (nQ (gc hr) (pv 4) (pv 5) (bh (cQ K rfl) rfl T.z_list boot_list (aa (pv 6) ab)) rfl)))
   (af (bp PassesOwn.never rfl (kU K rfl rfl T.z_enumerate (aa (pv 2) ab)) (bW (n:=2) K rfl rfl (aP (aw (i:=7) iG.nd rfl (Or.inl rfl)) (aP (aw (i:=8) iG.nd rfl (Or.inl rfl)) bU))) (ah (bC (j9 (lW (ao BC (hr.mono (by decide)) rfl T.Ky.mg T.Ky.fn.kp T.Ky.bd .nil aA (aa (pv 0) (aa (pv 3) (aa (pv 4) (aa (pv 8) ab))))))) (ah gW) aV)))
   (ah (aD (bD (aa (bh (bA K rfl) rfl T.z_tuple boot_tuple (aa (pv 3) ab)) (aa (bh (bA K rfl) rfl T.z_tuple boot_tuple (aa (cY ["band","orders"] [none,some 4] (mi (ao dQ (hr.mono (by decide)) rfl T.F2.mg T.F2.fn.kp T.F2.bd .nil aA (aa (pv 0) ab))) ⟨⟨rfl,rfl,by first | exact .inl rfl | exact .inr rfl⟩,trivial⟩ (fun _ _ _ _=>(aw (i:=0) (by decide+kernel:List.Nodup (["band","orders"]:List Str)) rfl (Or.inl rfl))) (fun _ _ _ _=>ip) (fun _ _ _ _=>(bh (bA K rfl) rfl T.z_tuple boot_tuple (aa (fh (gc hr) (pv 1) (pv 0) (fun _ _=>rfl)) ab)))) ab)) ab))))))))),?_⟩
 obtain ⟨y,dr,ws,os,ep,ds,rfl,hy,hz,hg,hd,T5,Ic,Ge,N9,q⟩:=h
 have hs:(100000:Nat)<sizeLine:=by decide
 have Bd:=cZ hy
 have zr:=v7 hy
 have wY:os.length=(aC y).length:=by have:=hg.lk.1;rwa [List.length_map]at this
 obtain ⟨⟨wt,ot,d1,d2,d3⟩,dO⟩:=id hd
 refine ⟨_,rfl,dr,_,0,_,rfl,rfl,aW.of d1,rfl,wt,_,rfl, .inr (aW.of d2),fun wl nwl=>?_⟩
 have s1:=ai.upd (o:=HO.lst (bw ws)) nwl
 have va:upd H wl (HO.lst (bw ws)) wl=some (HO.lst (bw ws)):=ae
 generalize upd H wl (HO.lst (bw ws))=H1 at s1 va ⊢
 intro d nd
 have s2:=ai.upd (o:=HO.dK []) nd
 have hd2:upd H1 d (HO.dK []) d=some (HO.dK []):=ae
 have N_:=s2 _ _ va
 have L5:H d=none:=ai.free s1 nd
 have hdw:d≠wl:=Ne.symm (ak va nd)
 have L6:=s1.trans s2
 generalize upd H1 d (HO.dK [])=H2 at s2 hd2 N_ L6 ⊢
 refine ⟨_,rfl,y,rfl,fun c hc=>(hy.lt c hc).lt,by omega,fun l0 H3 sf G0 s3=>?_⟩
 have el:=fM sf G0
 subst el
 have zM:=L6.trans s3
 have Lb:=s3 _ _ hd2
 have Oa:=s3 _ _ N_
 refine ⟨_,rfl,dr,_,1,_,rfl,rfl,aW.of (zM _ _ d1),rfl,?_⟩
 refine ⟨_,ot,rfl,⟨_,aW.of (zM _ _ d3)⟩,?_⟩
 refine yV (Sq1:=JR (aC y)) (Sq2:=xD K ot) (xs:=cq (aC y)) (ys:=mX os) (fun i σ H'=> ∃(bv ov:Option V) (cur:List Od),σ=[some (.str (S y)),some (.ref dr),some (.ref ep),some (.ref wl),some (.ref d),bv,ov,none,none]/\cur.length=i/\H' d=some (.dK (eA ((aC y).take i) cur))/\(cur.map Od.o).Nodup/\(∀o∈cur,kq H' o)/\cur.map bj=(os.take i).map bj/\(∀o∈cur,H3 o.o=none)/\aF d H3 H') (by rw[aU,jD];exact wY.symm)
  ⟨none,none,[],rfl,rfl,Lb,List.nodup_nil,by simp,rfl,by simp,aF.refl _ _⟩ (fun i σ H' _ ⟨_,_,_,_,_,_,_,_,_,_,s⟩=>⟨rfl,aW.of (s _ _ (zM _ _ d3) (ak d3 L5))⟩) ?_ ?_
 ·rintro i x z σ H4 T hx hzi ⟨bv,ov,cur,rfl,kA,Lc,Ob,Oc,BW,Oe,s4⟩ nT
  obtain ⟨b,hb,rfl⟩:=di hx
  have hi:i<(aC y).length:=(List.getElem?_eq_some_iff.mp hb).1
  have BU:i<os.length:=by omega
  have wH:os[i]? =some os[i]:=List.getElem?_eq_getElem BU
  have Qb:z=V.ref os[i].o:=by rw[ko wH]at hzi;exact (Option.some.inj hzi).symm
  subst Qb
  have kr:os[i]∈os:=List.getElem_mem BU
  generalize os[i]=o at wH kr
  have bu:=dO o kr
  have sT:=ai.upd (o:=HO.tup [V.str (S [b]),V.ref o.o]) nT
  have hTd:T≠d:=Ne.symm (ak Lc nT)
  refine ⟨T,_,rfl,aW.of ae,rfl,_,_,rfl,_,_,rfl,rfl,?_⟩
  have TU:gp H4 o:=⟨s4 _ _ (zM _ _ bu.tp) (ak bu.tp L5),fun p hp=>⟨s4 _ _ (zM _ _ (bu.pr p hp).tp) (ak (bu.pr p hp).tp L5),(bu.pr p hp).cz,(bu.pr p hp).iz⟩,bu.fw⟩
  have T6:=TU.same sT
  have zL:=sT _ _ Lc
  have abh: ∀o∈cur,kq (upd H4 T (HO.tup [V.str (S [b]),V.ref o.o])) o->True:=fun _ _ _=>trivial
  refine ⟨_,rfl,o.o,_,rfl, .inr (aW.of T6.tp),fun p6 n6=>?_⟩
  have s6:=ai.upd (o:=HO.lst (bS o.ps)) n6
  have T7:=sT.trans s6
  have K7:=s6 _ _ zL
  have n64:H4 p6=none:=ai.free sT n6
  have h6d:p6≠d:=Ne.symm (ak zL n6)
  have Of:kq (upd (upd H4 T (HO.tup [V.str (S [b]),V.ref o.o])) p6 (HO.lst (bS o.ps))) ⟨p6,o.ps⟩:=⟨ae,fun p hp=>(T6.pr p hp).same s6,T6.fw⟩
  generalize upd (upd H4 T (HO.tup [V.str (S [b]),V.ref o.o])) p6 (HO.lst (bS o.ps))=H6 at s6 T7 K7 Of ⊢
  have Ci:cV (eA ((aC y).take i) cur) (kS [b])=none:=r9 fun m=>by
   obtain ⟨k,hk,e⟩:=List.mem_iff_getElem.mp m
   rw[List.length_take]at hk
   rw[List.getElem_take]at e
   have:=List.pairwise_iff_getElem.mp zr k i (by omega) hi (by omega)
   rw[e,(List.getElem?_eq_some_iff.mp hb).2]at this
   exact this rfl
  have htl:((aC y).take i).length=i:=by rw[List.length_take];omega
  refine ⟨_,rfl,_,rfl,d,_,rfl,qF.k (k:=kS [b]) K7 (by rw[pJ (by omega)];omega),?_⟩
  rw[vk _ Ci]
  have eo:eA ((aC y).take i) cur++[(kS [b],V.ref p6)]=eA ((aC y).take (i+1)) (cur++[⟨p6,o.ps⟩]):=by
   rw[<-take_snoc hb]
   exact Be (o:=⟨p6,o.ps⟩) (by omega)
  rw[eo]
  have up: ∀{x:Od},kq H6 x->x.o≠d->kq (upd H6 d (.dK (eA ((aC y).take (i+1)) (cur++[⟨p6,o.ps⟩])))) x:=fun {x} hx lU=>
   ⟨by rw[aq lU];exact hx.tp,fun p hp=>⟨by rw[aq (fun z=>by have:=(hx.pr p hp).tp;rw[z,K7]at this;cases this)];exact (hx.pr p hp).tp,(hx.pr p hp).cz,(hx.pr p hp).iz⟩,hx.fw⟩
  refine ⟨_,_,cur++[⟨p6,o.ps⟩],rfl,by simp[kA],ae,?_,fun x hx=>?_,?_,fun x hx=>?_,fun a u ea zz=>?_⟩
  ·rw[List.map_append,List.nodup_append]
   refine ⟨Ob,by simp,fun a ha b' G3 e=>?_⟩
   obtain ⟨o',jN,rfl⟩:=List.mem_map.mp ha
   have e2:b'=p6:=by simpa using G3
   have:=(Oc o' jN).tp
   rw[e,e2,n64]at this
   cases this
  ·rcases List.mem_append.mp hx with g | g
   ·exact up ((Oc x g).same T7) (fun zz=>by have:=(Oc x g).tp;rw[zz,Lc]at this;cases this)
   ·rw[List.mem_singleton.mp g];exact up Of h6d
  ·rw[List.map_append,BW, <-take_snoc wH,List.map_append];rfl
  ·rcases List.mem_append.mp hx with g | g
   ·exact Oe x g
   ·rw[List.mem_singleton.mp g];exact s4.none n64 h6d
  ·rw[aq zz];exact T7 _ _ (s4 a u ea zz)
 ·rintro σ H4 ⟨bv,ov,cur,rfl,kA,Lc,Ob,Oc,BW,Oe,s4⟩
  rw[aU]at kA Lc BW
  rw[List.take_length]at Lc
  rw[<-wY,List.take_length]at BW
  have hO4:cf H4 d (aC y) cur:=⟨Lc,kA,Ob,Oc⟩
  have T8:H4 ep=some (.lst (dJ ds)):=s4 _ _ (zM _ _ T5) (ak T5 L5)
  have sH4:ai H H4:=fun a u ea=>s4 _ _ (zM _ _ ea) (ak ea L5)
  have T9:=s4 _ _ Oa (Ne.symm hdw)
  have T_: ∀o∈cur,H o.o=none:=fun o ho=>ai.free zM (Oe o ho)
  refine ⟨_,rfl,ep,rfl,⟨_,aT.of T8⟩,?_⟩
  refine mj (K:=K) (a:=ep) (xs:=dJ ds) (fun i σ H'=> ∃(nv dv:Option V) (cu:List Od) (zQ:List (List Nat)),σ=[some (.str (S y)),some (.ref dr),some (.ref ep),some (.ref wl),some (.ref d),bv,ov,nv,dv]/\cf H' d (aC y) cu/\H' wl=some (.lst (bw zQ))/\Good y zQ (cu.map bj)/\(∀o∈cu,o.o≠wl)/\(∀o∈cu,H o.o=none)/\Path y zQ (cu.map bj) ((ds.drop i).map Dd.e)/\dS y zQ (cu.map bj) ((ds.drop i).map Dd.e)=dS y ws (os.map bj) (ds.map Dd.e)/\ai H H')
   ⟨none,none,cur,ws,rfl,hO4,T9,by rw[BW];exact hg,fun o ho zz=>absurd (Oe o ho) (by rw[zz,Oa];exact Option.some_ne_none _),T_,by rw[BW];exact N9,by rw[BW];rfl,sH4⟩ (fun i σ H' _ ⟨_,_,_,_,_,_,_,_,_,_,_,_,s⟩=>aT.of (s _ _ T5)) ?_ ?_
  ·rintro i x σ H5 T hx ⟨nv,dv,cu,zQ,rfl,DR,DZ,Ld,Le,Ua,nX,sW,s5⟩ nT
   obtain ⟨dd,hdd,rfl⟩:=Kf hx
   have Ub:=List.mem_of_getElem? hdd
   have hi:=List.getElem?_eq_some_iff.mp hdd
   have edr:(ds.drop i).map Dd.e=dd.e::(ds.drop (i+1)).map Dd.e:=by rw[List.drop_eq_getElem_cons hi.1,hi.2];rfl
   rw[edr]at nX sW
   obtain ⟨bu,qT⟩:=nX
   have sT:=ai.upd (o:=HO.tup [V.int i,V.ref dd.a]) nT
   refine ⟨T,_,rfl,aW.of ae,rfl,_,_,rfl,_,_,rfl,rfl,?_⟩
   have hold:=(Ld.hold hy hz DR DZ Le).same sT
   refine ⟨_,rfl,_,rfl,_,rfl,_,rfl,y,d,wl,dd.a,cu,zQ,dd.e,rfl,hy,hz,hold,fun o ho=>Nat.le_trans (Ld.len o ho) (by decide),(Ic dd Ub).ts (aJ.of (s5.trans sT)),bu,fun os' H' g1 g2 g3 g4 g5=>?_⟩
   refine ⟨_,rfl,cO rfl ?_⟩
   have hwH:H wl=none:=nwl
   have hg6:Good y (dW zQ dd.e) (os'.map bj):=by rw[g2];exact Ld.step hy bu
   have tO: ∀o∈os',H o.o=none:=fun o ho=>by
    rcases g4 o ho with g | g
    ·exact ai.free (s5.trans sT) g
    ·obtain ⟨o',jN,e⟩:=List.mem_map.mp g
     rw[<-e];exact Ua o' jN
   refine ⟨_,_,os',dW zQ dd.e,rfl,g1,g3,hg6,fun o ho zz=>?_,tO,by rw[g2];exact qT,by rw[g2];exact sW,fun a u ea=>?_⟩
   ·rcases g4 o ho with g | g
    ·rw[zz,hold.wd]at g;cases g
    ·obtain ⟨o',jN,e⟩:=List.mem_map.mp g
     exact Le o' jN (e.trans zz)
   ·refine g5 a u (sT _ _ (s5 a u ea)) (ak ea L5) (ak ea hwH) fun zz=>?_
    obtain ⟨o',jN,e⟩:=List.mem_map.mp zz
    have:=Ua o' jN
    rw[e,ea]at this
    cases this
  ·rintro σ H5 ⟨nv,dv,cu,zQ,rfl,DR,DZ,Ld,Le,Ua,nX,sW,s5⟩
   rw[cA,List.drop_length]at sW
   have hr6:(zQ,cu.map bj)=dS y ws (os.map bj) (ds.map Dd.e):=sW
   rw[<-hr6]at q
   have Uc:=DR.ln
   refine ⟨_,rfl,wl,_,rfl, .inl ⟨aT.of DZ,fun tw ntw=>?_⟩⟩
   have sw:=ai.upd (o:=HO.tup (bw zQ)) ntw
   have htw:upd H5 tw (HO.tup (bw zQ)) tw=some (HO.tup (bw zQ)):=ae
   have Eu:=DR.same sw
   have s6:=s5.trans sw
   generalize upd H5 tw (HO.tup (bw zQ))=H6 at sw htw Eu s6 ⊢
   refine ⟨_,rfl,y,rfl,fun c hc=>(hy.lt c hc).lt,by omega,fun l0 H7 sf G0 s7=>?_⟩
   have el:=fM sf G0
   subst el
   have NW:=Eu.same s7
   have Ud:=s7 _ _ htw
   have s67:=s6.trans s7
   refine ⟨_,rfl,?_⟩
   refine oM (xs:=cq (aC y)) (fun i acc H'=>ai H7 H'/\ ∃oo:List Od,acc=mX oo/\(∀o∈oo,gp H' o)/\oo.map bj=(cu.take i).map bj) (by rw[aU];omega) ⟨ai.refl _,[],rfl,fun _ h=>absurd h List.not_mem_nil,rfl⟩ ?_ ?_
   ·rintro i x acc H8 Nx hi hx fI ⟨s8,oo,rfl,tY,Ay⟩ nx
    obtain ⟨b,hb,rfl⟩:=di hx
    have hib:i<(aC y).length:=(List.getElem?_eq_some_iff.mp hb).1
    have wH:cu[i]? =some cu[i]:=List.getElem?_eq_getElem (by omega)
    have kr:cu[i]∈cu:=List.getElem_mem (by omega)
    generalize cu[i]=o at wH kr
    have LZ:=NW.same s8
    refine ⟨⟨rfl,trivial⟩,gJ ?_⟩
    refine ⟨_,rfl,_,rfl,d,_,rfl,by rw[<-fz zr hb wH];exact gG.k (k:=kS [b]) LZ.dk,?_⟩
    have GL:=LZ.ok o kr
    refine ⟨o.o,_,rfl, .inl ⟨aT.of GL.tp,fun t nt=>?_⟩⟩
    refine nx _ _ (by simpa using fI) ⟨s8.trans (ai.upd nt),oo++[⟨t,o.ps⟩],pq oo ⟨t,o.ps⟩,fun o' ho=>?_,?_⟩
    ·rcases List.mem_append.mp ho with g | g
     ·exact (tY o' g).same (ai.upd nt)
     ·have e:=List.mem_singleton.mp g
      subst e
      exact ⟨ae,fun p hp=>(GL.pr p hp).same (ai.upd nt),GL.fw⟩
    ·rw[List.map_append,Ay, <-take_snoc wH,List.map_append]
     rfl
   ·rintro acc H8 D fI ⟨s8,oo,rfl,tY,Ay⟩ hD
    rw[aU, <-Uc,List.take_length]at Ay
    refine ⟨D,_,rfl, .inl ⟨aT.of ae,fun t nt=>?_⟩⟩
    refine ⟨by show 2<=sizeLine;decide,fun NI Lf=>?_⟩
    have sA:=(ai.upd (o:= .lst (mX oo)) hD).trans ((ai.upd (o:= .tup (mX oo)) nt).trans (ai.upd (o:= .tup [.ref tw, .ref t]) Lf))
    have Ih:t≠NI:=fun z=>by rw[<-z,ae]at Lf;cases Lf
    exact q NI oo _ ⟨⟨tw,t,ae,sA _ _ (s8 _ _ Ud),by rw[aq Ih,ae]⟩,fun o ho=>(tY o ho).same sA⟩ Ay (by rw[Ay];exact Ld) ((s67.trans s8).trans sA)
theorem qX:bE P w K mg base eI 1 HL Kq ["band","one","other"] (j3 K):=by
 refine T.KO.fn.ok cx (fun vs H Q E h=>pU h) (fun cM A outer s H vs Q E hr h=>?_)
 refine ⟨_,(af (au (i:=3) cx.nd rfl (Or.inl rfl) (bz ab))
   (af (au (i:=4) cx.nd rfl (Or.inl rfl) (bh (cQ K rfl) rfl T.z_list boot_list (aa (pv 1) ab)))
   (af (bp PassesOwn.never rfl (gf K rfl rfl T.z_enumerate (aa (pv 2) ab)) (bW (n:=2) K rfl rfl (aP (aw (i:=5) cx.nd rfl (Or.inl rfl)) (aP (aw (i:=6) cx.nd rfl (Or.inl rfl)) bU))) (af (au (i:=7) cx.nd rfl (Or.inl rfl) (aX K rfl PySem.F.plainAttrs_list PySem.F.slot_list_index PySem.F.type_list_index (AM K rfl hr) (pv 4) (aa (pv 6) ab)))
   (af (bp PassesOwn.never rfl (AK rfl T.z_range (aa (pv 7) (aa (pv 5) (aa (B2 xa ag) ab)))) (aw (i:=8) cx.nd rfl (Or.inl rfl)) (ah (aY (aX K rfl PySem.F.plainAttrs_list PySem.F.slot_list_append PySem.F.type_list_append bf (pv 3) (aa (bD (aa (dh [115,119,97,112] (by decide+kernel)) (aa (pv 0) (aa (aK cX (pv 8) ag) ab)))) ab)))))
   (ah (aY (aX K rfl PySem.F.plainAttrs_list PySem.F.slot_list_insert PySem.F.type_list_insert mv (pv 4) (aa (pv 5) (aa (aX K rfl PySem.F.plainAttrs_list PySem.F.slot_list_pop PySem.F.type_list_pop kH (pv 4) (aa (pv 7) ab)) ab))))))))
   (ah (aD (pv 3)))))),?_⟩
 obtain ⟨b,o,r,rfl,ho,K9,iD,zr,q⟩:=h
 have hs:(100000:Nat)<sizeLine:=by decide
 have hof:=ho.fw
 have hrf:=K9.fw
 walk_at "wk"
 intro D nD
 have s1:=ai.upd (o:=HO.lst []) nD
 have K8:hU H (upd H D (HO.lst [])) D []:=⟨ae,fun _ h=>absurd h List.not_mem_nil,s1⟩
 generalize upd H D (HO.lst [])=H1 at K8 s1 ⊢
 refine ⟨_,rfl,o.o,_,rfl, .inr (aW.of (s1 _ _ ho.tp)),fun l nl=>?_⟩
 have s2:=ai.upd (o:=HO.lst (bS o.ps)) nl
 have tM:upd H1 l (HO.lst (bS o.ps)) l=some (HO.lst (bS o.ps)):=ae
 have Ig:=K8.same s2
 have nl0:H l=none:=ai.free s1 nl
 have hlD:l≠D:=(ak K8.ls nl).symm
 have FZ: ∀p∈o.ps,dF (upd H1 l (HO.lst (bS o.ps))) p:=fun p hp=>(ho.pr p hp).same (s1.trans s2)
 generalize upd H1 l (HO.lst (bS o.ps))=H2 at tM Ig FZ s2 ⊢
 have Q9:=(s1.trans s2) _ _ K9.tp
 refine ⟨_,rfl,r.o,rfl,⟨_,aW.of Q9⟩,?_⟩
 refine eR (K:=K) (a:=r.o) (xs:=bS r.ps) (fun i σ H'=> ∃(cur:List Pr) (ds:List Dd) (ks:List Nat) (nv sv pv bv:Option V),σ=[some (.str (S [b])),some (.ref o.o),some (.ref r.o),some (.ref D),some (.ref l),nv,sv,pv,bv]/\hU H H' D ds/\H' l=some (.lst (bS cur))/\(∀p∈cur,dF H' p)/\
   ds.map Dd.e=ks.map (fun k=> .swap b k)/\SP (bj o) ks (cur.map Pr.pair)/\(cur.map Pr.pair).take i=(bj r).take i/\ds.length<=100*i)
  ⟨o.ps,[],[],none,none,none,none,rfl,Ig,tM,FZ,rfl, .nil,rfl,Nat.zero_le _⟩ (fun i σ H' _ ⟨_,_,_,_,_,_,_,_,h,_⟩=>aW.of (h.sm _ _ K9.tp)) ?_ ?_
 ·rintro i x σ H3 T hx ⟨cur,ds,ks,nv,sv,pv,bv,rfl,sS,BN,Lg,sR,wR,Ab,Ge⟩ nT
  obtain ⟨p,hp,rfl⟩:=pj hx
  have hi:i<r.ps.length:=(List.getElem?_eq_some_iff.mp hp).1
  have Ue:(bj r)[i]? =some p.pair:=by unfold bj;rw[List.getElem?_map,hp];rfl
  have Og:=(K9.pr p (List.mem_of_getElem? hp)).same sS.sm
  have BW:(cur.map Pr.pair).Perm (bj r):=wR.perm.trans iD
  have kA:cur.length=r.ps.length:=by have:=BW.length_eq;unfold bj at this;rwa [List.length_map,List.length_map]at this
  obtain ⟨j,hj,hjn⟩:=Bi (BW.mem_iff.mpr (List.mem_of_getElem? Ue))
  have BP:j<cur.length:=by have:=(List.getElem?_eq_some_iff.mp hj).1;rwa [List.length_map]at this
  have uZ:i<=j:=by
   rcases Nat.lt_or_ge j i with g | g
   ·exfalso
    have h1:(bj r)[j]? =some p.pair:=by
     have:=congrArg (fun l:List (Nat×Nat)=>l[j]?) Ab
     simp only[List.getElem?_take,if_pos g]at this
     rw[<-this];exact hj
    obtain ⟨a1,a2⟩:=List.getElem?_eq_some_iff.mp h1
    obtain ⟨b1,b2⟩:=List.getElem?_eq_some_iff.mp Ue
    have:=(List.getElem_inj zr).mp (a2.trans b2.symm)
    omega
   ·exact g
  obtain ⟨cp,hcj,ecp⟩: ∃cp,cur[j]? =some cp/\cp.pair=p.pair:=by
   rw[List.getElem?_map]at hj
   cases e:cur[j]? with
   | none=>rw[e]at hj;cases hj
   | some cp=>rw[e]at hj;exact ⟨cp,rfl,Option.some.inj hj⟩
  refine ⟨T,_,rfl,aW.of ae,rfl,_,_,rfl,_,_,rfl,rfl,?_⟩
  have sT:=ai.upd (o:=HO.tup [.int i, .ref p.t]) nT
  have uR:=sS.same sT
  have Ra:=sT _ _ BN
  have Gg: ∀p'∈cur,dF (upd H3 T (HO.tup [.int i, .ref p.t])) p':=fun p' uP=>(Lg p' uP).same sT
  have Oh:=Og.same sT
  generalize upd H3 T (HO.tup [.int i, .ref p.t])=H4 at uR Ra Gg Oh ⊢
  clear sT nT sS BN Lg Og
  have Ug:=List.mem_of_getElem? hcj
  have Uh:((cur.map Pr.pair).map pF)[j]? =some (pF p.pair):=by rw[List.getElem?_map,hj];rfl
  refine ⟨_,rfl, .inl ⟨rfl,_,aT.of Ra⟩,_,rfl,?_⟩
  refine ⟨l,bS cur, .ref p.t,(cur.map Pr.pair).map pF,pF p.pair,j,rfl,rfl,Ra,hJ Gg, .tup (aW.of Oh.tp) (.cons (.int _) (.cons (.int _) .nil)),⟨(jE (k:=0) Gg).ly,rfl⟩,by show 1<=60;decide,⟨_,Uh,by rw[Dv];exact decide_eq_true rfl⟩,fun m e hm he=>?_,?_⟩
  ·rw[List.getElem?_map]at he
   cases e2:(cur.map Pr.pair)[m]? with
   | none=>rw[e2]at he;cases he
   | some u=>
    rw[e2]at he
    cases he
    rw[Dv]
    exact decide_eq_false (hjn m u hm e2)
  refine ⟨_,rfl,_,rfl,_,rfl,(j:Int),(i:Int),rfl,⟨by omega,by omega,by omega,by omega⟩,?_⟩
  have ejn:((j:Int) - (i:Int)).toNat=j - i:=by omega
  rw[ejn]
  refine xH (fun t σ H'=> ∃(es:List Dd) (bv:Option V),σ=[some (.str (S [b])),some (.ref o.o),some (.ref r.o),some (.ref D),some (.ref l),some (.int i),some (.ref p.t),some (.int j),bv]/\hU H H' D es/\H' l=some (.lst (bS cur))/\(∀p∈cur,dF H' p)/\es.map Dd.e=ks.map (fun k=> .swap b k)++(iS j t).map (fun k=> .swap b k))
   ⟨ds,bv,rfl,uR,Ra,Gg,by rw[sR];simp[iS]⟩ ?_ ?_
  ·rintro t σ H5 ht ⟨es,bv5,rfl,w6,Ie,Lh,BV⟩
   have Ia:ks.length=ds.length:=by have:=congrArg List.length sR;rw[List.length_map,List.length_map]at this;exact this.symm
   have A4:es.length<=10100:=by
    have:=congrArg List.length BV
    rw[List.length_map,List.length_append,List.length_map,List.length_map,sj,Ia]at this
    omega
   have ev:(j:Int) - (t:Int) - 1=((j - 1 - t:Nat):Int):=by omega
   refine ⟨_,rfl, .inl ⟨rfl,_,aT.of w6.ls⟩,_,rfl,_,rfl,_,_,rfl,rfl,by show 3<=sizeLine;decide,fun d1 n1=>?_⟩
   have e1:=ai.upd (o:=HO.tup [V.str (S [115,119,97,112]),V.str (S [b]),V.int ((j:Int) - (t:Int) - 1)]) n1
   refine ⟨D,_,_,rfl,rfl,e1 _ _ w6.ls,by rw[cA];omega,?_⟩
   rw[show dJ es++[V.ref d1]=dJ (es++[⟨d1, .swap b (j - 1 - t)⟩]) from eF es ⟨d1, .swap b (j - 1 - t)⟩]
   have Gf:=w6.push (e:= .swap b (j - 1 - t)) nD e1 (by show upd H5 d1 _ d1=_;rw[ae,ev];rfl)
   have tU:=aJ.fL (o:=HO.lst (dJ (es++[⟨d1, .swap b (j - 1 - t)⟩]))) (e1 _ _ w6.ls)
   refine ⟨_,_,rfl,Gf,by rw[aq hlD];exact e1 _ _ Ie,fun p' uP=>((Lh p' uP).same e1).ts tU,?_⟩
   rw[List.map_append,BV,x9,List.map_append,List.append_assoc]
   rfl
  ·rintro σ H5 ⟨es,bv5,rfl,w6,Ie,Lh,BV⟩
   have hvj:(bS cur)[j]? =some (V.ref cp.t):=by unfold bS;rw[List.getElem?_map,hcj];rfl
   refine ⟨_,rfl, .inl ⟨rfl,_,aT.of Ie⟩,_,rfl,_,rfl, .inl ⟨rfl,_,aT.of Ie⟩,_,rfl,?_⟩
   refine ⟨l,_,_,j,V.ref cp.t,rfl,rfl,Ie,by omega,by omega,by rw[aZ,seqIndex_of (by omega) (by omega),Int.toNat_natCast],hvj,?_⟩
   have hle:((bS cur).eraseIdx j).length=cur.length - 1:=by rw[List.length_eraseIdx,aZ,if_pos BP]
   refine ⟨l,_,i,V.ref cp.t,rfl,rfl,ae,by rw[hle];omega,by rw[hle];omega,?_⟩
   rw[yx,wb]
   have tU:=aJ.fL (o:=HO.lst (bS (fO cur i j cp))) Ie
   obtain ⟨b1,b2⟩:=NM uZ hj
   have hbp:(fO cur i j cp).map Pr.pair=(cur.map Pr.pair).take i++p.pair::((cur.map Pr.pair).drop i).take (j - i)++(cur.map Pr.pair).drop (j+1):=by rw[uv,ecp];exact b2
   have JY:(cur.map Pr.pair).length=cur.length:=List.length_map _
   have Tj:((cur.map Pr.pair).take i).length=i:=by rw[List.length_take];omega
   refine ⟨fO cur i j cp,es,ks++iS j (j - i),_,_,_,_,rfl,⟨by rw[aq hlD.symm];exact w6.ls,fun x hx=>(w6.de x hx).ts tU,fun x u ex=>by rw[aq (ak ex nl0)];exact w6.sm _ _ ex⟩,ae,fun p' uP=>(Lh p' (wc Ug uP)).ts tU,by rw[BV,List.map_append],?_,?_,?_⟩
   ·have sd:=SP.down ((cur.map Pr.pair).take i) p.pair (j - i) (((cur.map Pr.pair).drop i).take (j - i)) ((cur.map Pr.pair).drop (j+1)) (by rw[List.length_take,List.length_drop];omega)
    rw[Tj,show i+(j - i)=j by omega, <-b1, <-hbp]at sd
    exact wR.app sd
   ·rw[hbp,List.append_assoc,List.take_append,Tj,List.take_of_length_le (by omega),show i+1 - i=1 by omega,Ab,List.take_succ (i:=i) (l:=bj r),Ue]
    rfl
   ·have:=congrArg List.length BV
    have h2:=congrArg List.length sR
    rw[List.length_map,List.length_map]at h2
    rw[List.length_map,List.length_append,List.length_map,List.length_map,sj]at this
    omega
 ·rintro σ H3 ⟨cur,ds,ks,nv,sv,pv,bv,rfl,sS,BN,Lg,sR,wR,Ab,Ge⟩
  rw[aZ]at Ab Ge
  have BW:(cur.map Pr.pair).Perm (bj r):=wR.perm.trans iD
  have lT:(bj r).length=r.ps.length:=by unfold bj;rw[List.length_map]
  have kA:=BW.length_eq
  rw[List.take_of_length_le (by omega),List.take_of_length_le (by omega)]at Ab
  refine ⟨_,rfl,q D ds H3 nD sS.ls sS.de ⟨ks,sR,by rw[<-Ab];exact wR⟩ (by omega) sS.sm⟩
theorem Gh:bE P w K mg base eI 7 HN QN ["yard","one","other"] (zy K):=by
 have uH:=qW (P:=P) (w:=w) (base:=base) T
 have wK:=uG (P:=P) (w:=w) (base:=base) T
 have qo:=zP (P:=P) (w:=w) (base:=base) T
 have dQ:=ij (P:=P) (w:=w) (base:=base) T
 have uI:=qX (P:=P) (w:=w) (base:=base) T
 refine T.KQ.fn.ok iI (fun vs H Q E h=>Du h) (fun cM A outer s H vs Q E hr h=>?_)
 refine ⟨_,(af (bC (j9 (lW (ao uH (hr.mono (by decide)) rfl T.KP.mg T.KP.fn.kp T.KP.bd .nil aA (aa (az (ax K rfl) (pv 1) ag (fun _ _=>rfl)) (aa (az (ax K rfl) (pv 2) ag (fun _ _=>rfl)) ab))))) (ah (aD eP)) aV)
   (af (au (i:=3) iI.nd rfl (Or.inl rfl) (bz ab))
   (af (bp PassesOwn.never rfl (gf K rfl rfl T.z_enumerate (aa (az (ax K rfl) (pv 1) ag (fun _ _=>rfl)) ab)) (bW (n:=2) K rfl rfl (aP (aw (i:=4) iI.nd rfl (Or.inl rfl)) (aP (aw (i:=5) iI.nd rfl (Or.inl rfl)) bU))) (ah (aY (aX K rfl PySem.F.plainAttrs_list PySem.F.slot_list_extend PySem.F.type_list_extend jy (pv 3) (aa (ao wK (hr.mono (by decide)) rfl T.KN.mg T.KN.fn.kp T.KN.bd .nil aA (aa (pv 4) (aa (pv 5) (aa (az (ax K rfl) (az (ax K rfl) (pv 2) ag (fun _ _=>rfl)) (pv 4) (fun _ _=>rfl)) ab)))) ab)))))
   (af (au (i:=6) iI.nd rfl (Or.inl rfl) (ao qo (hr.mono (by decide)) rfl T.wZ.mg T.wZ.fn.kp T.wZ.bd .nil aA (aa (pv 0) (aa (pv 1) (aa (pv 3) ab)))))
   (af (bp PassesOwn.never rfl (jf rfl T.z_enumerate (aa (ao dQ (hr.mono (by decide)) rfl T.F2.mg T.F2.fn.kp T.F2.bd .nil aA (aa (pv 0) ab)) ab)) (bW (n:=2) K rfl rfl (aP (aw (i:=7) iI.nd rfl (Or.inl rfl)) (aP (aw (i:=8) iI.nd rfl (Or.inl rfl)) bU))) (ah (aY (aX K rfl PySem.F.plainAttrs_list PySem.F.slot_list_extend PySem.F.type_list_extend jy (pv 3) (aa (ao uI (hr.mono (by decide)) rfl T.KO.mg T.KO.fn.kp T.KO.bd .nil aA (aa (pv 8) (aa (az (ax K rfl) (az (ax K rfl) (pv 6) ag (fun _ _=>rfl)) (pv 7) (fun _ _=>rfl)) (aa (az (ax K rfl) (az (ax K rfl) (pv 2) ag (fun _ _=>rfl)) (pv 7) (fun _ _=>rfl)) ab)))) ab)))))
   (ah (aD (pv 3)))))))),?_⟩
 obtain ⟨y,d,e,ws,vs',os,ps,rfl,hy,L3,Li,Ii,hd,he,qN,qS⟩:=h
 have hs:(100000:Nat)<sizeLine:=by decide
 obtain ⟨⟨Ui,ot1,a1,a2,a3⟩,aO⟩:=id hd
 obtain ⟨⟨Oi,ot2,b1,b2,b3⟩,bO⟩:=id he
 have Bd:=cZ hy
 have lt1: ∀w∈ws,(∀c∈w,Lt c)/\w.length<=12:=fun w hw=>⟨fun c hc=>hy.lt c ((Li.jm w hw).1 c hc),(Li.jm w hw).2⟩
 have lt2: ∀w∈vs',(∀c∈w,Lt c)/\w.length<=12:=fun w hw=>⟨fun c hc=>hy.lt c ((Ii.jm w hw).1 c hc),(Ii.jm w hw).2⟩
 have N2:=Li.g7
 have hvf:=Ii.g7
 refine ⟨_,rfl,d,_,0,_,rfl,rfl,aW.of a1,rfl,_,rfl,e,_,0,_,rfl,rfl,aW.of b1,rfl,Ui,Oi,ws,vs',rfl,a2,b2,Li.g7,Ii.g7,lt1,lt2,fun H1 s1=>⟨_,rfl,cB (fun z=>?_) (fun z=>?_)⟩⟩
 ·have lU:ws.map aL≠vs'.map aL:=fun g=>by rw[decide_eq_true g]at z;cases z
  exact qN lU H1 s1
 have heq:ws.map aL=vs'.map aL:=by
  by_cases g:ws.map aL=vs'.map aL
  ·exact g
  ·rw[decide_eq_false g]at z;exact absurd rfl z
 have q:=qS heq
 have hlen:ws.length=vs'.length:=by have:=congrArg List.length heq;rwa [List.length_map,List.length_map]at this
 walk_at "wk"
 intro D nD
 have s2:=s1.trans (ai.upd (o:=HO.lst []) nD)
 have Ig:hU H (upd H1 D (HO.lst [])) D []:=⟨ae,fun _ h=>absurd h List.not_mem_nil,s2⟩
 have Uj:H D=none:=ai.free s1 nD
 generalize upd H1 D (HO.lst [])=H2 at Ig s2 ⊢
 refine ⟨_,rfl,d,_,0,_,rfl,rfl,aW.of (s2 _ _ a1),rfl,Ui,rfl,⟨_,aW.of (s2 _ _ a2)⟩,?_⟩
 refine eR (K:=K) (a:=Ui) (xs:=bw ws) (fun j σ H'=> ∃(ds:List Dd) (cv wv:Option V),σ=[some (.str (S y)),some (.ref d),some (.ref e),some (.ref D),cv,wv,none,none,none]/\hU H H' D ds/\Path y ws (os.map bj) (ds.map Dd.e)/\(dS y ws (os.map bj) (ds.map Dd.e)).1=vs'.take j++ws.drop j/\Good y (vs'.take j++ws.drop j) (dS y ws (os.map bj) (ds.map Dd.e)).2/\ds.length<=1000*j)
  ⟨[],none,none,rfl,Ig,trivial,rfl,Li,Nat.zero_le _⟩ (fun j σ H' _ ⟨_,_,_,_,h,_⟩=>aW.of (h.sm _ _ a2)) ?_ ?_
 ·rintro j x σ H3 T hx ⟨ds,cv,wv,rfl,sS,Rb,Ez,Oj,BN⟩ nT
  have hj:j<ws.length:=by
   have:=(List.getElem?_eq_some_iff.mp hx).1
   rwa [aN]at this
  rw[jj hj]at hx
  cases hx
  have uQ:ws[j]? =some ws[j]:=List.getElem?_eq_getElem hj
  have Ol:vs'[j]? =some (vs'[j]'(by omega)):=List.getElem?_eq_getElem (by omega)
  obtain ⟨sV,uE⟩:=Li.jm _ (List.getElem_mem hj)
  have zO:aL ws[j]=aL (vs'[j]'(by omega)):=by
   have:=congrArg (fun l:List (List Nat)=>l[j]?) heq
   simp only[List.getElem?_map,uQ,Ol]at this
   exact Option.some.inj this
  obtain ⟨N6,Q_⟩:=Ii.jm _ (List.mem_of_getElem? Ol)
  generalize ws[j]=w at uQ sV uE zO ⊢
  generalize (vs'[j]'(by omega))=v at Ol N6 Q_ zO
  refine ⟨T,_,rfl,aW.of ae,rfl,_,_,rfl,_,_,rfl,rfl,?_⟩
  have sT:=ai.upd (o:=HO.tup [.int j, .str (S w)]) nT
  have uR:=sS.same sT
  generalize upd H3 T (HO.tup [.int j, .str (S w)])=H4 at uR ⊢
  clear sT nT sS
  refine ⟨_,rfl, .inl ⟨rfl,_,aT.of uR.ls⟩,_,rfl,_,rfl,_,rfl,e,_,0,_,rfl,rfl,aW.of (uR.sm _ _ b1),rfl,_,rfl,Oi,_,_,_,rfl,rfl,aW.of (uR.sm _ _ b2),aR (Dx Ol),?_⟩
  refine ⟨y,j,w,v,rfl,hy,sV,uE,N6,Q_,zO,fun b es H5 nb hb N8 K6 A4 s5=>?_⟩
  have hmg:((dS y ws (os.map bj) (ds.map Dd.e)).1)[j]? =some w:=by rw[Ez];exact zA (by omega) uQ
  rw[<-Ez]at Oj
  obtain ⟨l1,l2,l3⟩:=WP.lift hy K6 Oj hmg
  rw[Ez,zB hj Ol]at l2 l3
  refine ⟨D,b,_,_,rfl,rfl,s5 _ _ uR.ls,hb,by rw[cA,cA];omega,?_⟩
  rw[nV]
  refine ⟨ds++es,_,_,rfl,uR.ext (b:=b) Uj s5 N8,?_,?_,?_,by rw[List.length_append];omega⟩
  ·rw[List.map_append];exact pR Rb l1
  ·rw[List.map_append,nS,Ez];exact l2
  ·rw[List.map_append,nS,Ez];exact l3
 ·rintro σ H3 ⟨ds,cv,wv,rfl,sS,Rb,Ez,Oj,BN⟩
  rw[aN]at Ez Oj BN
  have e1:vs'.take ws.length++ws.drop ws.length=vs':=by rw[List.drop_length,List.append_nil,List.take_of_length_le (by omega)]
  rw[e1]at Ez Oj
  refine ⟨_,rfl,_,rfl,_,rfl,y,d,ws,os,D,ds,rfl,hy,L3,Li,hd.same sS.sm,sS.ls,sS.de,by omega,Rb,fun m ms H4 hm L7 hmg s4=>?_⟩
  rw[Ez]at hm hmg
  obtain ⟨⟨wt3,ot3,m1,m2,m3⟩,mO⟩:=hm
  have uR:=sS.same s4
  refine ⟨_,rfl,y,rfl,fun c hc=>(hy.lt c hc).lt,by omega,fun l0 H7 sf G0 s7=>?_⟩
  have el:=fM sf G0
  subst el
  have hD7:=uR.same s7
  refine ⟨_,rfl,?_⟩
  have Uk:dS y ws (os.map bj) (ds.map Dd.e)=(vs',ms.map bj):=by rw[L7, <-Ez]
  have t47:aJ H4 H7:=aJ.of s7
  refine kT (l:=aC y) (fun k σ H'=> ∃(fs:List Dd) (nv bv:Option V),σ=[some (.str (S y)),some (.ref d),some (.ref e),some (.ref D),cv,wv,some (.ref m),nv,bv]/\hU H H' D fs/\aJ H4 H'/\Path y ws (os.map bj) (fs.map Dd.e)/\dS y ws (os.map bj) (fs.map Dd.e)=(vs',(ps.map bj).take k++(ms.map bj).drop k)/\fs.length<=4000+10000*k)
   ⟨ds,none,none,rfl,hD7,t47,Rb,Uk,by omega⟩ ?_ ?_
  ·rintro k b σ H8 T hk ⟨fs,nv,bv,rfl,EA,t8,Ul,Om,hl8⟩ nT
   have Um:k<(aC y).length:=(List.getElem?_eq_some_iff.mp hk).1
   have lm:ms.length=(aC y).length:=by have:=hmg.lk.1;rwa [List.length_map]at this
   have lp:ps.length=(aC y).length:=by have:=Ii.lk.1;rwa [List.length_map]at this
   obtain ⟨o,ho⟩: ∃o,ms[k]? =some o:=⟨_,List.getElem?_eq_getElem (by omega)⟩
   obtain ⟨p,hp⟩: ∃p,ps[k]? =some p:=⟨_,List.getElem?_eq_getElem (by omega)⟩
   have BK:(ms.map bj)[k]? =some (bj o):=by rw[List.getElem?_map,ho];rfl
   have hpL:(ps.map bj)[k]? =some (bj p):=by rw[List.getElem?_map,hp];rfl
   have Uo:=hmg.lk.2 k _ b BK hk
   have Rc:=Ii.lk.2 k _ b hpL hk
   refine ⟨T,_,rfl,aW.of ae,rfl,_,_,rfl,_,_,rfl,rfl,?_⟩
   have sT:=ai.upd (o:=HO.tup [.int k, .str (S [b])]) nT
   have Ij:=EA.same sT
   have t9:aJ H4 (upd H8 T (HO.tup [.int k, .str (S [b])])):=fun c xs x=>sT _ _ (t8 c xs x)
   generalize upd H8 T (HO.tup [.int k, .str (S [b])])=H9 at Ij t9 ⊢
   clear sT nT EA
   refine ⟨_,rfl, .inl ⟨rfl,_,aT.of Ij.ls⟩,_,rfl,_,rfl,m,_,1,_,rfl,rfl,aW.of (t9 _ _ m1),rfl,_,rfl,ot3,_,_,_,rfl,rfl,aW.of (t9 _ _ m3),aR (zC ho),_,rfl,e,_,1,_,rfl,rfl,aW.of (Ij.sm _ _ b1),rfl,_,rfl,ot2,_,_,_,rfl,rfl,aW.of (Ij.sm _ _ b3),aR (zC hp),?_⟩
   refine ⟨b,o,p,rfl,(mO o (List.mem_of_getElem? ho)).ts t9,(bO p (List.mem_of_getElem? hp)).same Ij.sm,Uo.trans Rc.symm,Rc.nodup_iff.mpr (iB _ _ _),fun b2 es H5 nb hb N8 K6 A4 s5=>?_⟩
   obtain ⟨ks,ek,wR⟩:=K6
   have Up:((ps.map bj).take k++(ms.map bj).drop k)[k]? =some (bj o):=zA (by rw[List.length_map];omega) BK
   obtain ⟨l1,l2⟩:=SP.lift (ws:=vs') hy wR hk Up
   rw[<-ek]at l1 l2
   rw[zB (by rw[List.length_map];omega) hpL]at l2
   refine ⟨D,b2,_,_,rfl,rfl,s5 _ _ Ij.ls,hb,by rw[cA,cA];omega,?_⟩
   rw[nV]
   refine ⟨fs++es,_,_,rfl,Ij.ext (b:=b2) Uj s5 N8,fun c xs x=>?_,?_,?_,by rw[List.length_append];omega⟩
   ·exact (aJ.fL (s5 _ _ Ij.ls)) c xs (s5 _ _ (t9 c xs x))
   ·rw[List.map_append];exact pR Ul (by rw[Om];exact l1)
   ·rw[List.map_append,nS,Om];exact l2
  ·rintro σ H8 ⟨fs,nv,bv,rfl,EA,t8,Ul,Om,hl8⟩
   have lm:ms.length=(aC y).length:=by have:=hmg.lk.1;rwa [List.length_map]at this
   have lp:ps.length=(aC y).length:=by have:=Ii.lk.1;rwa [List.length_map]at this
   rw[List.take_of_length_le (by rw[List.length_map];omega),List.drop_eq_nil_of_le (by rw[List.length_map];omega),List.append_nil]at Om
   exact ⟨_,rfl,q D fs H8 Uj EA.ls EA.de ⟨Ul,Om⟩ (by omega) EA.sm⟩
theorem nI:bE P w K mg base eI 1 Hq Ep ["one","other"] (iT K):=by
 refine T.KG.fn.ok fH (fun vs H Q E h=>mC h) (fun cM A outer s H vs Q E hr h=>?_)
 refine ⟨_,(af (au (i:=2) fH.nd rfl (Or.inl rfl) (ar (l_ rfl) rfl T.z_min boot_min (aa (az (ax K rfl) (pv 0) ag (fun _ _=>rfl)) (aa (az (ax K rfl) (pv 0) ag (fun _ _=>rfl)) ab))))
   (af (au (i:=3) fH.nd rfl (Or.inl rfl) (ar (jx rfl) rfl T.z_max boot_max (aa (az (ax K rfl) (pv 0) ag (fun _ _=>rfl)) (aa (az (ax K rfl) (pv 0) ag (fun _ _=>rfl)) ab))))
   (ah (aD (kF Jv (u4 gY gY (pv 2) (az (ax K rfl) (pv 1) ag (fun _ _=>rfl)) (pv 3)) (u4 gY gY (pv 2) (az (ax K rfl) (pv 1) ag (fun _ _=>rfl)) (pv 3)) (aM _)))))),?_⟩
 obtain ⟨a,b,rfl,ha,hb,q⟩:=h
 refine ⟨_,rfl,a.t,_,2,_,rfl,rfl,aW.of ha,rfl,_,rfl,a.t,_,3,_,rfl,rfl,aW.of ha,rfl,_,_,rfl,?_⟩
 refine ⟨_,rfl,a.t,_,2,_,rfl,rfl,aW.of ha,rfl,_,rfl,a.t,_,3,_,rfl,rfl,aW.of ha,rfl,_,_,rfl,?_⟩
 have key: ∀X Y:Bool,X=BR (if (a.v.2.2.2:Int)<a.v.2.2.1 then (a.v.2.2.2:Int) else a.v.2.2.1) (if (a.v.2.2.2:Int)>a.v.2.2.1 then (a.v.2.2.2:Int) else a.v.2.2.1) b.v.2.2.1->Y=BR (if (a.v.2.2.2:Int)<a.v.2.2.1 then (a.v.2.2.2:Int) else a.v.2.2.1) (if (a.v.2.2.2:Int)>a.v.2.2.1 then (a.v.2.2.2:Int) else a.v.2.2.1) b.v.2.2.2->Q (.bl (!decide (X=Y))) H:=fun X Y hX hY=>by
  rw[hX,hY]
  exact q
 refine ⟨_,rfl,_,rfl,b.t,_,2,_,rfl,rfl,aW.of hb,rfl,_,_,rfl,rfl,_,rfl,cB (fun z1=>?_) (fun z1=>?_)⟩
 ·refine ⟨_,rfl,_,_,rfl,rfl,?_⟩
  refine ⟨_,rfl,_,rfl,b.t,_,3,_,rfl,rfl,aW.of hb,rfl,_,_,rfl,rfl,_,rfl,cB (fun z2=>?_) (fun z2=>?_)⟩
  ·exact ⟨_,rfl,_,_,rfl,rfl,_,_,rfl,rfl,key _ _ (by unfold BR;rw[z1];rfl) (by unfold BR;rw[z2];rfl)⟩
  ·exact ⟨_,_,rfl,rfl,key _ _ (by unfold BR;rw[z1];rfl) (by unfold BR;rw[Bool.eq_false_iff.mpr z2];rfl)⟩
 ·refine ⟨_,rfl,_,rfl,b.t,_,3,_,rfl,rfl,aW.of hb,rfl,_,_,rfl,rfl,_,rfl,cB (fun z2=>?_) (fun z2=>?_)⟩
  ·exact ⟨_,rfl,_,_,rfl,rfl,_,_,rfl,rfl,key _ _ (by unfold BR;rw[Bool.eq_false_iff.mpr z1];rfl) (by unfold BR;rw[z2];rfl)⟩
  ·exact ⟨_,_,rfl,rfl,key _ _ (by unfold BR;rw[Bool.eq_false_iff.mpr z1];rfl) (by unfold BR;rw[Bool.eq_false_iff.mpr z2];rfl)⟩
theorem Gi:bE P w K mg base eI 1 HP QO ["_law_script","_law_k"] (zc K):=by
 refine T.Bs.fn.ok lP (fun vs H Q E h=>CV h) (fun cM A outer s H vs Q E hr h=>?_)
 refine ⟨_,(af (au (i:=2) lP.nd rfl (Or.inl rfl) (aK bV (aK lZ ag (pv 1)) ag))
   (af (bC (aB gY (pv 1) (ar (ay K rfl) rfl T.z_len PySem.boot_len (aa (pv 0) ab)) (aM _)) (ah (au (i:=2) lP.nd rfl (Or.inl rfl) (az (ba K rfl) (pv 0) (pv 1) (fun _ _=>rfl)))) (ah (bC (aB kE (ar (ay K rfl) rfl T.z_len PySem.boot_len (aa (pv 0) ab)) ag (aM _)) (ah (au (i:=2) lP.nd rfl (Or.inl rfl) (aK bV (pv 2) (aK lZ (aK gP (az (ba K rfl) (pv 0) (aK gP (pv 1) (ar (ay K rfl) rfl T.z_len PySem.boot_len (aa (pv 0) ab))) (fun _ _=>rfl)) ag) ag)))) aV)))
   (af (au (i:=3) lP.nd rfl (Or.inl rfl) (aK gP (aK B3 (aK bV (aK bV (aK gP (pv 2) ag) (aK lZ ag (pv 1))) ag) ag) ag))
   (ah (aD (bz (aa (az (ba K rfl) (bz (aa ag (aa (pv 2) ab))) (bh Aa rfl T.z_int boot_int (aa (kF GG (pv 2) (aK B3 ag ag) (aM _)) ab)) (fun _ _=>rfl)) (aa (aK bV (aK gP (pv 3) ag) ag) ab)))))))),?_⟩
 obtain ⟨a,ns,k,rfl,hS,hk,q⟩:=h
 have hp:(0:Int)<2147483629:=by decide
 walk_at "rd"
 refine ⟨a,_,rfl, .inl hS,?_⟩
 walk_at "rd"
 refine cB (fun e=>?_) (fun e=>?_)
 ·have e':(k:Int)<((ns.map V.int).length:Nat):=of_decide_eq_true e
  rw[List.length_map]at e'
  obtain ⟨z,hz⟩:=ze (ns:=ns) (i:=k) (by omega)
  walk_at "rd"
  refine ⟨a,_,k,_,rfl,rfl,hS,aR hz,?_⟩
  walk_at "rd"
  refine fun p1 n1=>?_
  walk_at "rd"
  refine .inr ⟨_,rfl,?_⟩
  obtain ⟨y,hy⟩:=xK _ z
  refine ⟨p1,_,_,_,rfl,rfl,aT.of ae,hy,?_⟩
  walk_at "rd"
  exact fun p2 n2=>q p2 _ (ai.free (ai.upd n1) n2) ⟨_,_,ae⟩ ((ai.upd n1).trans (ai.upd n2))
 ·walk_at "rd"
  refine ⟨a,_,rfl, .inl hS,?_⟩
  walk_at "rd"
  refine cB (fun e2=>?_) (fun e2=>?_)
  ·have e':(0:Int)<((ns.map V.int).length:Nat):=of_decide_eq_true e2
   have hl:(0:Int)<(ns.length:Int):=by rw[List.length_map]at e';exact e'
   have m1:0<=(k:Int)%(ns.length:Int):=Int.emod_nonneg _ (by omega)
   have m2:(k:Int)%(ns.length:Int)<(ns.length:Int):=Int.emod_lt_of_pos _ hl
   obtain ⟨z,hz⟩:=ze (ns:=ns) (i:=((k:Int)%(ns.length:Int)).toNat) (by omega)
   have J3:rl (ns.map V.int) ((k:Int)%((ns.map V.int).length:Nat))=some (V.int z):=by
    have:=aR hz
    rw[Int.toNat_of_nonneg m1]at this
    rw[List.length_map]
    exact this
   walk_at "rd"
   refine ⟨a,_,rfl, .inl hS,?_⟩
   walk_at "rd"
   refine ⟨a,_,_,_,rfl,rfl,hS,J3,?_⟩
   walk_at "rd"
   refine fun p1 n1=>?_
   walk_at "rd"
   refine .inr ⟨_,rfl,?_⟩
   obtain ⟨y,hy⟩:=xK _ _
   refine ⟨p1,_,_,_,rfl,rfl,aT.of ae,hy,?_⟩
   walk_at "rd"
   exact fun p2 n2=>q p2 _ (ai.free (ai.upd n1) n2) ⟨_,_,ae⟩ ((ai.upd n1).trans (ai.upd n2))
  ·walk_at "rd"
   refine fun p1 n1=>?_
   walk_at "rd"
   refine .inr ⟨_,rfl,?_⟩
   obtain ⟨y,hy⟩:=xK _ _
   refine ⟨p1,_,_,_,rfl,rfl,aT.of ae,hy,?_⟩
   walk_at "rd"
   exact fun p2 n2=>q p2 _ (ai.free (ai.upd n1) n2) ⟨_,_,ae⟩ ((ai.upd n1).trans (ai.upd n2))
theorem mQ:bE P w K mg base eI 1 HR QQ ["_law_letter"] (rN K):=by
 refine T.w5.fn.ok mM (fun vs H Q E h=>xJ h) (fun cM A outer s H vs Q E hr h=>?_)
 refine ⟨_,(af (au (i:=1) mM.nd rfl (Or.inl rfl) (dh [97,98,99,100,101,102,103,104,105,106,107,108,109,110,111,112,113,114,115,116,117,118,119,120,121,122] (by decide+kernel)))
   (af (au (i:=2) mM.nd rfl (Or.inl rfl) (dh [65,66,67,68,69,70,71,72,73,74,75,76,77,78,79,80,81,82,83,84,85,86,87,88,89,90] (by decide+kernel)))
   (af (bC (aB Cn (pv 0) (pv 1) (by with_unfolding_all rfl)) (ah (aD (az ka (pv 2) (aX K rfl PySem.F.plainAttrs_str PySem.F.slot_str_index PySem.F.type_str_index mh (pv 1) (aa (pv 0) ab)) (fun _ _=>rfl)))) aV)
   (ah (aD (az ka (pv 1) (aX K rfl PySem.F.plainAttrs_str PySem.F.slot_str_index PySem.F.type_str_index mh (pv 2) (aa (pv 0) ab)) (fun _ _=>rfl))))))),?_⟩
 obtain ⟨c,rfl,hc,q⟩:=h
 refine ⟨_,rfl,_,rfl,c,bg,rfl,rfl,_,rfl,cB (fun e=>?_) (fun e=>?_)⟩
 ·have hm:c∈bg:=of_decide_eq_true e
  exact ⟨_,rfl,_,rfl,rfl,_,rfl,bg,c,rfl,rfl,hm,kZ,_,bb c,rfl,rfl,by decide,vH c hm,q⟩
 ·have hm:c∈kZ:=hc.resolve_left fun z=>e (decide_eq_true z)
  exact ⟨_,rfl,_,rfl,rfl,_,rfl,kZ,c,rfl,rfl,hm,bg,_,bb c,rfl,rfl,by decide,AU c hm,q⟩
theorem D4:bE P w K mg base eI 2 HS QR ["_law_box_here","_law_few","_law_top"] (vK K):=by
 have bN:=ju (P:=P) (w:=w) (base:=base) T
 have ik:=mQ (P:=P) (w:=w) (base:=base) T
 refine T.KR.fn.ok fB (fun vs H Q E h=>AW h) (fun cM A outer s H vs Q E hr h=>?_)
 refine ⟨_,(af (au (i:=3) fB.nd rfl (Or.inl rfl) (bh (kc rfl) rfl T.z_list boot_list (aa (dh [97,98,99,100,101,102,103,104,105,106,107,108,109,110,111,112,113,114,115,116,117,118,119,120,121,122] (by decide+kernel)) ab)))
   (af (au (i:=4) fB.nd rfl (Or.inl rfl) (bz ab))
   (af (bp PassesOwn.never rfl (fQ rfl T.z_range (aa (aK bV (pv 1) (ao bN (hr.mono (by decide)) rfl T.fE.mg T.fE.fn.kp T.fE.bd .nil aA (aa (pv 0) (aa (aK bV (aK cX (pv 2) (pv 1)) ag) ab)))) ab)) (aw (i:=5) fB.nd rfl (Or.inl rfl)) (af (au (i:=6) fB.nd rfl (Or.inl rfl) (aX K rfl PySem.F.plainAttrs_list PySem.F.slot_list_pop PySem.F.type_list_pop kH (pv 3) (aa (ao bN (hr.mono (by decide)) rfl T.fE.mg T.fE.fn.kp T.fE.bd .nil aA (aa (pv 0) (aa (ar (ay K rfl) rfl T.z_len PySem.boot_len (aa (pv 3) ab)) ab))) ab)))
   (ah (au (i:=4) fB.nd rfl (Or.inl rfl) (aK i_ (pv 4) (bz (aa (pv 6) (aa (ao ik (hr.mono (by decide)) rfl T.w5.mg T.w5.fn.kp T.w5.bd .nil aA (aa (pv 6) ab)) ab))))))))
   (af (au (i:=7) fB.nd rfl (Or.inl rfl) (dh [] (by decide+kernel)))
   (af (fR PassesOwn.never (aB kE (ar (ay K rfl) rfl T.z_len PySem.boot_len (aa (pv 4) ab)) ag (aM _)) (ah (au (i:=7) fB.nd rfl (Or.inl rfl) (aK fK (pv 7) (aX K rfl PySem.F.plainAttrs_list PySem.F.slot_list_pop PySem.F.type_list_pop kH (pv 4) (aa (ao bN (hr.mono (by decide)) rfl T.fE.mg T.fE.fn.kp T.fE.bd .nil aA (aa (pv 0) (aa (ar (ay K rfl) rfl T.z_len PySem.boot_len (aa (pv 4) ab)) ab))) ab))))))
   (ah (aD (pv 7)))))))),?_⟩
 obtain ⟨b,g7,top,rfl,hb,h1,h2,h3,q⟩:=h
 have hs:(100000:Nat)<sizeLine:=by decide
 walk_at "rd"
 intro p1 n1
 walk_at "rd"
 intro p2 n2
 have s1:ai H (upd (upd H p1 (.lst (cq bg))) p2 (.lst [])):=(ai.upd n1).trans (ai.upd n2)
 have wI:p1≠b:=hb.ne n1
 have EB:H p2=none:=ai.free (ai.upd n1) n2
 have By:p2≠b:=hb.ne EB
 have BX:p1≠p2:=fun z=>by rw[<-z,ae]at n2;cases n2
 walk_at "rd"
 refine ⟨b,_,rfl,hb.same s1,by omega,by omega,fun n H1 hn Ga s2=>?_⟩
 walk_at "rd"
 refine gX (fun i σ H'=> ∃(pe:Addr) (L E:List Nat) (kv lv:Option V),σ=[some (.ref b),some (.int g7),some (.int top),some (.ref p1),some (.ref pe),kv,lv,none]/\J6 i L E/\H' p1=some (.lst (cq L))/\H' pe=some (.lst (cq E))/\p1≠pe/\H pe=none/\cb H' b/\aF b H H')
  ⟨p2,bg,[],none,none,rfl,J6.start,s2 _ _ (by rw[aq BX,ae];rfl) wI,s2 _ _ ae By,BX,EB,Ga,(aF.of s1).trans s2⟩ ?_ ?_
 ·rintro i σ H2 hi ⟨pe,L,E,kv,lv,rfl,yw,fi,gE,n1e,Rf,ke,s3⟩
  have wX:i<26:=by simp at hi;omega
  have Ib:=yw.ll
  have A4:=yw.el
  refine ⟨_,rfl, .inl ⟨rfl,_,aT.of fi⟩,?_⟩
  walk_at "rd"
  refine ⟨p1,_,rfl, .inl (aT.of fi),b,_,rfl,ke,by rw[aU];omega,by rw[aU];omega,fun r H3 TK qv s4=>?_⟩
  rw[aU]at TK
  have Ey:r<L.length:=by omega
  have Uq:=s4 _ _ fi wI
  have Ur:=s4 _ _ gE (hb.ne Rf)
  refine ⟨p1,_,_,r,_,rfl,rfl,Uq,by omega,by omega,by rw[aU,seqIndex_of (by omega) (by omega),Int.toNat_natCast],CW Ey,?_⟩
  rw[rO]
  have cy:Lt L[r]:= .inl (yw.sm _ (List.getElem_mem Ey))
  have Gd:(upd H3 p1 (.lst (cq (L.eraseIdx r)))) pe=some (.lst (cq E)):=by rw[aq (Ne.symm n1e)];exact Ur
  walk_at "rd"
  intro p3 n3
  have e3:pe≠p3:=ak Gd n3
  refine ⟨pe,p3,_,_,rfl,rfl,by rw[aq e3];exact Gd,ae,by rw[aU];show E.length+2<=_;omega,fun p4 n4=>?_⟩
  have n3':H p3=none:=((s3.trans s4).eS n1).none n3 (qv.eS wI |>.ne n3)
  have Us:=(qv.eS (o:= .lst (cq (L.eraseIdx r))) wI).eS (o:= .lst [V.str (S [L[r]]),V.str (S [bb L[r]])]) (hb.ne n3')
  have sx3:=((s3.trans s4).eS (o:= .lst (cq (L.eraseIdx r))) n1).eS (o:= .lst [V.str (S [L[r]]),V.str (S [bb L[r]])]) n3'
  have Ut:H p4=none:=sx3.none n4 (Us.ne n4)
  have h14:p1≠p4:=fun z=>by rw[<-z]at n4;by_cases z3:p1=p3<;>simp[upd,z3]at n4
  have Uu:p1≠p3:=fun z=>by rw[<-z,ae]at n3;cases n3
  refine ⟨p4,L.eraseIdx r,E++[L[r],bb L[r]],_,_,rfl,yw.turn wX Ey,by rw[aq h14,aq Uu,ae],?_,h14,Ut,Us.eS (hb.ne Ut),sx3.eS Ut⟩
  rw[ae, <-Fw]
  rfl
 ·rintro σ H2 ⟨pe,L,E,kv,lv,rfl,yw,fi,gE,n1e,Rf,ke,s3⟩
  have A4:=yw.el
  have BJ:=hb.ne Rf
  walk_at "rd"
  refine ⟨fun m σ H'=> ∃F E':List Nat,σ=[some (.ref b),some (.int g7),some (.int top),some (.ref p1),some (.ref pe),kv,lv,some (.str (S F))]/\m=E'.length/\(F++E').Perm E/\H' pe=some (.lst (cq E'))/\cb H' b/\aF b H H',⟨_,[],E,rfl,rfl,List.Perm.refl _,gE,ke,s3⟩,?_⟩
  rintro m σ H3 ⟨F,E',rfl,rfl,iD,Gj,qv,s4⟩
  have hlen:=iD.length_eq
  rw[List.length_append]at hlen
  have Ss:(g7:Int)+n<=9:=by omega
  have abi:E.length<=100:=by rw[A4];omega
  walk_at "rd"
  refine ⟨pe,_,rfl, .inl (aT.of Gj),_,_,rfl,rfl,_,rfl,cB (fun e=>?_) (fun e=>?_)⟩
  ·have e':(0:Int)<((cq E').length:Nat):=of_decide_eq_true e
   rw[aU]at e'
   refine ⟨_,rfl,_,rfl, .inl ⟨rfl,_,aT.of Gj⟩,?_⟩
   walk_at "rd"
   refine ⟨pe,_,rfl, .inl (aT.of Gj),b,_,rfl,qv,by rw[aU];omega,by rw[aU];omega,fun r H4 Ey Bz s5=>?_⟩
   rw[aU]at Ey
   have sW:r<E'.length:=by omega
   refine ⟨pe,_,_,r,_,rfl,rfl,s5 _ _ Gj BJ,by omega,by omega,by rw[aU,seqIndex_of (by omega) (by omega),Int.toNat_natCast],CW sW,?_⟩
   rw[rO]
   have hp:=gj (List.getElem?_eq_getElem sW)
   have fJ:=hp.length_eq
   rw[List.length_cons]at fJ
   refine ⟨F,_,rfl,rfl,by show F.length+1<=_;omega,(E'.eraseIdx r).length,by omega,F++[E'[r]],E'.eraseIdx r,rfl,rfl,?_,ae,Bz.eS BJ,(s4.trans s5).eS Rf⟩
   rw[List.append_assoc]
   exact (List.Perm.append_left F hp).trans iD
  ·have e':E'=[]:=by
    cases E' with
    | nil=>rfl
    | cons c r=>exact absurd (decide_eq_true (by rw[aU];show (0:Int)<((r.length+1:Nat):Int);omega)) e
   subst e'
   rw[List.append_nil]at iD
   have tM:=iD.length_eq
   refine ⟨_,rfl,q F H3 (yw.yd.perm iD.symm) ?_ ?_ qv s4⟩
   ·rw[tM,A4];omega
   ·rw[tM,A4];omega
theorem sX:bE P w K mg base eI 1 HW QU ["_law_yard_here"] (rW K):=by
 refine T.Et.fn.ok Bt (fun vs H Q E h=>xR h) (fun cM A outer s H vs Q E hr h=>?_)
 refine ⟨_,(ah (aD (ar (ir K rfl) rfl T.z_sorted boot_sorted (aa (cY ["_law_letter"] [none] (mi (pv 0)) trivial (fun _ _ _ _=>(aw (i:=0) (by decide+kernel:List.Nodup (["_law_letter"]:List Str)) rfl (Or.inl rfl))) (fun _ _ _ _=>(mf (aB Cn (pv 0) (dh [97,98,99,100,101,102,103,104,105,106,107,108,109,110,111,112,113,114,115,116,117,118,119,120,121,122] (by decide+kernel)) (by with_unfolding_all rfl)))) (fun _ _ _ _=>(pv 0))) ab)))),?_⟩
 obtain ⟨y,rfl,hz,q⟩:=h
 have hs:(1000:Nat)<sizeLine:=by decide
 refine ⟨_,rfl,y,rfl,?_⟩
 refine oM (xs:=cq y) (fun i acc H'=>ai H H'/\acc=cq ((y.take i).filter fun c=>decide (c∈bg))) (by rw[aU];omega) ⟨ai.refl H,rfl⟩ ?_ ?_
 ·rintro i x acc H1 Nx hi hx fI ⟨s1,rfl⟩ nx
  obtain ⟨c,hc,rfl⟩:=di hx
  have e:=mW (p:=fun c=>decide (c∈bg)) hc
  refine ⟨trivial,?_⟩
  refine ⟨_,rfl,c,bg,rfl,rfl,_,rfl,?_⟩
  refine cB (fun z=>?_) (fun z=>?_)
  ·rw[if_pos z]at e
   exact ⟨_,rfl,nx _ _ (by simpa using fI) ⟨s1,by rw[e, <-gi]⟩⟩
  ·rw[if_neg z,List.append_nil]at e
   exact nx _ _ (Nat.le_succ_of_le fI) ⟨s1,by rw[e]⟩
 ·rintro acc H1 D fI ⟨s1,rfl⟩ hD
  rw[oY,g8]
  have hfl:(y.filter fun c=>decide (c∈bg)).length<=y.length:=List.length_filter_le _ _
  refine ⟨D,(y.filter fun c=>decide (c∈bg)).map fun c=>[c],rfl,aT.of ae,by rw[List.length_map];omega,fun p ls hp iD En=>?_⟩
  obtain ⟨l',rfl,pl⟩:=yN iD
  refine q p l' _ (ai.free (ai.trans s1 (ai.upd hD)) hp) (by rw[ae, <-g8]) pl (yO En) ((s1.trans (ai.upd hD)).trans (ai.upd hp))
theorem BD:bE P w K mg base eI 2 HV QT ["_law_box_here","_law_things"] (rZ K):=by
 have bN:=ju (P:=P) (w:=w) (base:=base) T
 refine T.KU.fn.ok mN (fun vs H Q E h=>xS h) (fun cM A outer s H vs Q E hr h=>?_)
 refine ⟨_,(af (au (i:=2) mN.nd rfl (Or.inl rfl) (bh (tS K rfl rfl) rfl T.z_list boot_list (aa (pv 1) ab)))
   (af (au (i:=3) mN.nd rfl (Or.inl rfl) (bz ab))
   (af (fR PassesOwn.never (aB kE (ar (ay K rfl) rfl T.z_len PySem.boot_len (aa (pv 2) ab)) ag (aM _)) (ah (aY (aX K rfl PySem.F.plainAttrs_list PySem.F.slot_list_append PySem.F.type_list_append bf (pv 3) (aa (aX K rfl PySem.F.plainAttrs_list PySem.F.slot_list_pop PySem.F.type_list_pop kH (pv 2) (aa (ao bN (hr.mono (by decide)) rfl T.fE.mg T.fE.fn.kp T.fE.bd .nil aA (aa (pv 0) (aa (ar (ay K rfl) rfl T.z_len PySem.boot_len (aa (pv 2) ab)) ab))) ab)) ab)))))
   (ah (aD (pv 3)))))),?_⟩
 obtain ⟨b,x,ys,rfl,hb,hx,hz,q⟩:=h
 have hs:(100000:Nat)<sizeLine:=by decide
 rcases hx with ⟨p,rfl,hp⟩ | ⟨l,rfl,rfl⟩
 ·refine ⟨_,rfl, .inr ⟨p,_,rfl,hp,fun p1 n1=>?_⟩⟩
  walk_at "wk"
  intro p2 n2
  have s1:ai H (upd (upd H p1 (.lst ys)) p2 (.lst [])):=(ai.upd n1).trans (ai.upd n2)
  have wI:p1≠b:=hb.ne n1
  have EB:H p2=none:=ai.free (ai.upd n1) n2
  have By:p2≠b:=hb.ne EB
  have BX:p1≠p2:=fun z=>by rw[<-z,ae]at n2;cases n2
  refine ⟨fun m σ H'=> ∃F E':List V,σ=[some (.ref b),some (.ref p),some (.ref p1),some (.ref p2)]/\m=E'.length/\(F++E').Perm ys/\H' p1=some (.lst E')/\H' p2=some (.lst F)/\cb H' b/\aF b H H',⟨_,[],ys,rfl,rfl,List.Perm.refl _,by rw[aq BX,ae],ae,hb.same s1,aF.of s1⟩,?_⟩
  rintro m σ H3 ⟨F,E',rfl,rfl,iD,fi,iY,qv,s4⟩
  have hlen:=iD.length_eq
  rw[List.length_append]at hlen
  walk_at "wk"
  refine ⟨p1,_,rfl, .inl (aT.of fi),_,_,rfl,rfl,_,rfl,cB (fun e=>?_) (fun e=>?_)⟩
  ·have e':(0:Int)<(E'.length:Nat):=of_decide_eq_true e
   refine ⟨_,rfl, .inl ⟨rfl,_,aT.of iY⟩,_,rfl, .inl ⟨rfl,_,aT.of fi⟩,?_⟩
   walk_at "wk"
   refine ⟨p1,_,rfl, .inl (aT.of fi),b,_,rfl,qv,by omega,by omega,fun r H4 Ey Bz s5=>?_⟩
   have sW:r<E'.length:=by omega
   refine ⟨p1,_,_,r,_,rfl,rfl,s5 _ _ fi wI,by omega,by omega,by rw[seqIndex_of (by omega) (by omega),Int.toNat_natCast],List.getElem?_eq_getElem sW,?_⟩
   have gE:=gj (List.getElem?_eq_getElem sW)
   have fJ:=gE.length_eq
   rw[List.length_cons]at fJ
   refine ⟨p2,_,_,rfl,rfl,by rw[aq (Ne.symm BX)];exact s5 _ _ iY By,by omega,?_⟩
   refine ⟨(E'.eraseIdx r).length,by omega,F++[E'[r]],E'.eraseIdx r,rfl,rfl,?_,by rw[aq BX,ae],ae,(Bz.eS wI).eS By,((s4.trans s5).eS n1).eS EB⟩
   rw[List.append_assoc]
   exact (List.Perm.append_left F gE).trans iD
  ·have e':E'=[]:=by
    cases E' with
    | nil=>rfl
    | cons c r=>exact absurd (decide_eq_true (by show (0:Int)<((r.length+1:Nat):Int);omega)) e
   subst e'
   rw[List.append_nil]at iD
   exact ⟨_,rfl,q p2 F H3 EB By iY iD qv s4⟩
 ·rw[aU]at hz
  refine ⟨_,rfl, .inl ⟨l,rfl,by omega,fun p1 n1=>?_⟩⟩
  rw[<-aU l]at hz
  generalize cq l=ys at*
  walk_at "wk"
  intro p2 n2
  have s1:ai H (upd (upd H p1 (.lst ys)) p2 (.lst [])):=(ai.upd n1).trans (ai.upd n2)
  have wI:p1≠b:=hb.ne n1
  have EB:H p2=none:=ai.free (ai.upd n1) n2
  have By:p2≠b:=hb.ne EB
  have BX:p1≠p2:=fun z=>by rw[<-z,ae]at n2;cases n2
  refine ⟨fun m σ H'=> ∃F E':List V,σ=[some (.ref b),some (.str (S l)),some (.ref p1),some (.ref p2)]/\m=E'.length/\(F++E').Perm ys/\H' p1=some (.lst E')/\H' p2=some (.lst F)/\cb H' b/\aF b H H',⟨_,[],ys,rfl,rfl,List.Perm.refl _,by rw[aq BX,ae],ae,hb.same s1,aF.of s1⟩,?_⟩
  rintro m σ H3 ⟨F,E',rfl,rfl,iD,fi,iY,qv,s4⟩
  have hlen:=iD.length_eq
  rw[List.length_append]at hlen
  walk_at "wk"
  refine ⟨p1,_,rfl, .inl (aT.of fi),_,_,rfl,rfl,_,rfl,cB (fun e=>?_) (fun e=>?_)⟩
  ·have e':(0:Int)<(E'.length:Nat):=of_decide_eq_true e
   refine ⟨_,rfl, .inl ⟨rfl,_,aT.of iY⟩,_,rfl, .inl ⟨rfl,_,aT.of fi⟩,?_⟩
   walk_at "wk"
   refine ⟨p1,_,rfl, .inl (aT.of fi),b,_,rfl,qv,by omega,by omega,fun r H4 Ey Bz s5=>?_⟩
   have sW:r<E'.length:=by omega
   refine ⟨p1,_,_,r,_,rfl,rfl,s5 _ _ fi wI,by omega,by omega,by rw[seqIndex_of (by omega) (by omega),Int.toNat_natCast],List.getElem?_eq_getElem sW,?_⟩
   have gE:=gj (List.getElem?_eq_getElem sW)
   have fJ:=gE.length_eq
   rw[List.length_cons]at fJ
   refine ⟨p2,_,_,rfl,rfl,by rw[aq (Ne.symm BX)];exact s5 _ _ iY By,by omega,?_⟩
   refine ⟨(E'.eraseIdx r).length,by omega,F++[E'[r]],E'.eraseIdx r,rfl,rfl,?_,by rw[aq BX,ae],ae,(Bz.eS wI).eS By,((s4.trans s5).eS n1).eS EB⟩
   rw[List.append_assoc]
   exact (List.Perm.append_left F gE).trans iD
  ·have e':E'=[]:=by
    cases E' with
    | nil=>rfl
    | cons c r=>exact absurd (decide_eq_true (by show (0:Int)<((r.length+1:Nat):Int);omega)) e
   subst e'
   rw[List.append_nil]at iD
   exact ⟨_,rfl,q p2 F H3 EB By iY iD qv s4⟩
theorem wL:bE P w K mg base eI 3 HX QV ["_law_box_here","_law_yard_here","_law_words_here"] (mY K):=by
 have qp:=sX (P:=P) (w:=w) (base:=base) T
 have ik:=mQ (P:=P) (w:=w) (base:=base) T
 have D5:=BD (P:=P) (w:=w) (base:=base) T
 refine T.KW.fn.ok eu (fun vs H Q E h=>uh h) (fun cM A outer s H vs Q E hr h=>?_)
 refine ⟨_,(af (au (i:=3) eu.nd rfl (Or.inl rfl) (bz ab))
   (af (bp PassesOwn.never rfl (eB K rfl (ao qp (hr.mono (by decide)) rfl T.Et.mg T.Et.fn.kp T.Et.bd .nil aA (aa (pv 1) ab))) (aw (i:=4) eu.nd rfl (Or.inr rfl)) (af (au (i:=5) eu.nd rfl (Or.inl rfl) (bz ab))
   (af (bp PassesOwn.never rfl (gf K rfl rfl T.z_enumerate (aa (pv 2) ab)) (bW (n:=2) K rfl rfl (aP (aw (i:=6) eu.nd rfl (Or.inr rfl)) (aP (aw (i:=7) eu.nd rfl (Or.inl rfl)) bU))) (ah (aY (aX K rfl PySem.F.plainAttrs_list PySem.F.slot_list_extend PySem.F.type_list_extend jy (pv 5) (aa (cY ["_law_i","_law_letter","_law_c","_law_band"] [none,none,some 6,some 4] (jf rfl T.z_enumerate (aa (pv 7) ab)) ⟨⟨rfl,rfl,by first | exact .inl rfl | exact .inr rfl⟩,⟨⟨rfl,rfl,by first | exact .inl rfl | exact .inr rfl⟩,trivial⟩⟩ (fun _ _ _ _=>(bW (n:=2) K rfl rfl (aP (aw (i:=0) (by decide+kernel:List.Nodup (["_law_i","_law_letter","_law_c","_law_band"]:List Str)) rfl (Or.inl rfl)) (aP (aw (i:=1) (by decide+kernel:List.Nodup (["_law_i","_law_letter","_law_c","_law_band"]:List Str)) rfl (Or.inl rfl)) bU)))) (fun _ _ _ _=>(mf (aB (xr K rfl) (pv 1) (bD (aa (pv 3) (aa (ao ik (hr.mono (by decide)) rfl T.w5.mg T.w5.fn.kp T.w5.bd .nil aA (aa (pv 3) ab)) ab))) (by with_unfolding_all rfl)))) (fun _ _ _ _=>(bD (aa (pv 2) (aa (pv 0) ab))))) ab)))))
   (ah (aY (aX K rfl PySem.F.plainAttrs_list PySem.F.slot_list_append PySem.F.type_list_append bf (pv 3) (aa (bh (bA K rfl) rfl T.z_tuple boot_tuple (aa (ao D5 (hr.mono (by decide)) rfl T.KU.mg T.KU.fn.kp T.KU.bd .nil aA (aa (pv 0) (aa (pv 5) ab))) ab)) ab)))))))
   (ah (aD (bD (aa (bh (bA K rfl) rfl T.z_tuple boot_tuple (aa (pv 2) ab)) (aa (bh (bA K rfl) rfl T.z_tuple boot_tuple (aa (pv 3) ab)) ab))))))),?_⟩
 obtain ⟨b,y,wt,ws,rfl,hb,hy,hz,hwb,qj,hw,q⟩:=h
 have hs:(100000:Nat)<sizeLine:=by decide
 have N2:=hw.g7
 walk_at "wk"
 intro p1 n1
 have wI:p1≠b:=hb.ne n1
 have h1w:p1≠wt:=Ne.symm (ak qj n1)
 refine ⟨_,rfl,y,rfl,by omega,fun p2 l2 H1 n2 iY tM Uv s1=>?_⟩
 rw[ph hy.lt]at tM
 have el:=fM tM Uv
 subst el
 have Uw:H p2=none:=ai.free (ai.upd n1) n2
 have By:p2≠b:=hb.ne Uw
 have BX:p1≠p2:=fun z=>by rw[<-z,ae]at n2;cases n2
 have Gk:ai H H1:=(ai.upd n1).trans s1
 have fi:H1 p1=some (.lst []):=s1 _ _ ae
 have Bd:=cZ hy
 refine ⟨p2,rfl,⟨_,aT.of iY⟩,?_⟩
 refine f_ (K:=K) (a:=p2) (xs:=cq (aC y)) (fun i σ H'=> ∃(os:List Od) (bv sv cv wv:Option V),σ=[some (.ref b),some (.str (S y)),some (.ref wt),some (.ref p1),bv,sv,cv,wv]/\H' p1=some (.lst (mX os))/\H' p2=some (.lst (cq (aC y)))/\os.length=i/\(∀o∈os,gp H' o)/\(∀(j:Nat) (o:Od) (c:Nat),os[j]? =some o->(aC y)[j]? =some c->(o.ps.map Pr.pair).Perm (bt c ws ws.length))/\cb H' b/\aF b H H')
  ⟨[],none,none,none,none,rfl,fi,iY,rfl,fun _ h=>absurd h List.not_mem_nil,fun j o c h=>by simp at h,hb.same Gk,aF.of Gk⟩ (fun i σ H' _ ⟨_,_,_,_,_,_,_,h,_⟩=>aT.of h) ?_ ?_
 ·rintro i x σ H2 hx ⟨os,bv,sv,cv,wv,rfl,fi,iY,wY,tY,yh,ke,s2⟩
  obtain ⟨band,D6,rfl⟩:=di hx
  have hi:i<(aC y).length:=(List.getElem?_eq_some_iff.mp D6).1
  have Ux:Lt band:=hy.lt band (List.mem_filter.mp ((dU y).mem_iff.mp (List.mem_of_getElem? D6))).1
  walk_at "wk"
  intro p3 n3
  have D7:=s2 _ _ qj hwb
  refine ⟨_,rfl,wt,rfl,⟨_,aW.of ((ai.upd n3) _ _ D7)⟩,?_⟩
  refine eR (K:=K) (a:=wt) (xs:=bw ws) (fun j σ H'=> ∃(ps:List Pr) (cv wv:Option V),σ=[some (.ref b),some (.str (S y)),some (.ref wt),some (.ref p1),some (.str (S [band])),some (.ref p3),cv,wv]/\H' p3=some (.lst (bS ps))/\(∀p∈ps,dF H' p)/\ps.map Pr.pair=bt band ws j/\ps.length<=12*j/\ai H2 H')
   ⟨[],cv,wv,rfl,ae,fun _ h=>absurd h List.not_mem_nil,rfl,Nat.zero_le _,ai.upd n3⟩ (fun j σ H' _ ⟨_,_,_,_,_,_,_,_,h⟩=>aW.of (h _ _ D7)) ?_ ?_
  ·rintro j x σ H3 T FW ⟨ps,cv3,wv3,rfl,nW,iN,gE,fJ,s3⟩ nT
   have hj:j<ws.length:=by
    have:=(List.getElem?_eq_some_iff.mp FW).1
    rwa [aN]at this
   rw[jj hj]at FW
   cases FW
   have uQ:ws[j]? =some ws[j]:=List.getElem?_eq_getElem hj
   obtain ⟨sV,uE⟩:=hw.all _ (List.getElem_mem hj)
   generalize ws[j]=w at uQ sV uE ⊢
   refine ⟨T,_,rfl,aW.of ae,rfl,_,_,rfl,_,_,rfl,rfl,?_⟩
   have s3T:=ai.upd (o:= .tup [.int j, .str (S w)]) nT
   have Oo:=s3T _ _ nW
   refine ⟨_,rfl, .inl ⟨rfl,_,aT.of Oo⟩,_,rfl,w,rfl,?_⟩
   refine As (l:=w) (fun m acc H'=>ai (upd H3 T (.tup [.int j, .str (S w)])) H'/\ ∃vs:List Pr,acc=bS vs/\(∀p∈vs,dF H' p)/\vs.map Pr.pair=dX band j w m/\vs.length<=m) (by omega) ⟨ai.refl _,[],rfl,fun _ h=>absurd h List.not_mem_nil,rfl,Nat.le_refl _⟩ ?_ ?_
   ·rintro m l acc H4 T2 Nx hm fI ⟨s4,vs,rfl,D8,Rg,Uy⟩ TN nx
    have hmw:m<w.length:=(List.getElem?_eq_some_iff.mp hm).1
    have es:=pB (band:=band) (c:=j) hm
    rw[show uO band l=(decide (l=band)||decide (l=bb band)) from rfl]at es
    refine ⟨T2,_,rfl,aW.of ae,rfl,_,_,rfl,_,_,rfl,rfl,?_⟩
    refine ⟨⟨rfl,rfl,trivial⟩,?_⟩
    have Oq:=ai.upd (o:= .tup [.int m, .str (S [l])]) TN
    refine ⟨_,rfl,_,rfl,_,rfl,band,rfl,Ux,by show 2<=sizeLine;decide,fun t nt=>?_⟩
    refine ⟨t,_,rfl, .inr (aW.of ae),rfl,rfl,_,rfl,?_⟩
    have Ot:=Oq.trans (ai.upd (o:= .tup [.str (S [band]), .str (S [bb band])]) nt)
    generalize upd (upd H4 T2 (.tup [.int m, .str (S [l])])) t (.tup [.str (S [band]), .str (S [bb band])])=H5 at Ot ⊢
    show if EU (.str (S [l])) [.str (S [band]), .str (S [bb band])]=true then _ else _
    rw[yP]
    refine cB (fun z=>?_) (fun z=>?_)
    ·rw[if_pos z]at es
     refine ⟨_,rfl,_,rfl,by show 2<=sizeLine;decide,fun t2 L0=>?_⟩
     refine nx _ _ (by simpa using fI) ⟨(s4.trans Ot).trans (ai.upd L0),vs++[⟨t2,j,m⟩],g_ vs ⟨t2,j,m⟩,fun p hp=>?_,by rw[List.map_append,Rg,es];rfl,by rw[List.length_append];show vs.length+1<=_;omega⟩
     rcases List.mem_append.mp hp with g | g
     ·exact (D8 p g).same (Ot.trans (ai.upd L0))
     ·have e2:=List.mem_singleton.mp g
      subst e2
      exact ⟨ae,by show j<1000;omega,by show m<1000;omega⟩
    ·rw[if_neg z,List.append_nil]at es
     exact nx _ _ (Nat.le_succ_of_le fI) ⟨s4.trans Ot,vs,rfl,fun p hp=>(D8 p hp).same Ot,by rw[es];exact Rg,by omega⟩
   ·rintro acc H4 D fI ⟨s4,vs,rfl,D8,Rg,Uy⟩ hD
    have nF:=s4 _ _ Oo
    refine ⟨p3,D,_,_,rfl,rfl,(ai.upd hD) _ _ nF,ae,by rw[aZ,aZ];omega,?_⟩
    rw[zi]
    have s34:ai H3 (upd H4 D (.lst (bS vs))):=(s3T.trans s4).trans (ai.upd hD)
    have Ou:=(ai.upd (o:= .lst (bS vs)) hD) _ _ nF
    have Rh:H2 p3=none:=n3
    refine ⟨ps++vs,_,_,rfl,ae,fun p hp=>?_,by rw[List.map_append,gE,Rg,gK uQ],by rw[List.length_append];omega,fun a o ea=>by rw[aq (ak ea Rh)];exact s34 _ _ (s3 a o ea)⟩
    rcases List.mem_append.mp hp with g | g
    ·exact ((iN p g).same s34).ts (aJ.fL Ou)
    ·exact ((D8 p g).same (ai.upd hD)).ts (aJ.fL Ou)
  ·rintro σ H3 ⟨ps,cv3,wv3,rfl,nW,iN,gE,fJ,s3⟩
   rw[aN]at gE fJ
   have qv:=ke.same s3
   have b3:p3≠b:=ke.ne n3
   have yp:=s3 _ _ fi
   refine ⟨_,rfl, .inl ⟨rfl,_,aT.of yp⟩,?_⟩
   refine ⟨_,rfl,_,rfl,b, .ref p3,bS ps,rfl,qv, .inl ⟨p3,rfl, .inl (aT.of nW)⟩,by rw[aZ];omega,fun qa ys H4 nq qb hq oS Bz s4=>?_⟩
   obtain ⟨xY,e1,e2⟩:=xT (f:=fun p:Pr=>V.ref p.t) oS ps rfl
   have e3:ys=bS xY:=e1
   subst e3
   have Uz:=aJ.box qv s4
   refine ⟨qa,_,rfl, .inl ⟨aT.of hq,fun t nt=>?_⟩⟩
   have UA:aF b H2 (upd H4 t (.tup (bS xY))):=((aF.of s3).trans s4).after (ai.upd nt)
   have Lj:=UA _ _ fi wI
   have UB:aJ H4 (upd H4 t (.tup (bS xY))):=aJ.eS nt
   refine ⟨p1,_,_,rfl,rfl,Lj,by rw[jD];omega,?_⟩
   have tsA:=(Uz.trans UB).trans (aJ.fL (o:= .lst (mX os++[.ref t])) Lj)
   have xv: ∀p∈xY,p∈ps:=fun p hp=>e2.mem_iff.mp hp
   have hlen:=e2.length_eq
   refine ⟨os++[⟨t,xY⟩],_,_,_,_,rfl,by rw[ae];exact congrArg (fun x=>some (HO.lst x)) (pq os ⟨t,xY⟩),by rw[aq (Ne.symm BX)];exact UA _ _ iY By,by simp[wY],fun o ho=>?_,fun j o c hj hc=>?_,?_,?_⟩
   ·rcases List.mem_append.mp ho with g | g
    ·exact ((tY o g).same s3).ts tsA
    ·have eo:=List.mem_singleton.mp g
     subst eo
     refine ⟨?_,fun p hp=>(iN p (xv p hp)).ts tsA,by show xY.length<=100;omega⟩
     exact (aJ.fL (o:= .lst (mX os++[.ref t])) Lj) _ _ ae
   ·by_cases cy:j<os.length
    ·rw[List.getElem?_append_left cy]at hj
     exact yh j o c hj hc
    ·have hj2:j=os.length:=by
      have:=(List.getElem?_eq_some_iff.mp hj).1
      rw[List.length_append]at this
      have:j<os.length+1:=this
      omega
     subst hj2
     rw[List.getElem?_append_right (Nat.le_refl _),Nat.sub_self]at hj
     have eo:(⟨t,xY⟩:Od)=o:=by simpa using hj
     rw[wY,D6]at hc
     have ec:band=c:=Option.some.inj hc
     subst eo
     subst ec
     exact (e2.map Pr.pair).trans (by rw[gE])
   ·exact ((Bz.same (ai.upd nt)).eS wI)
   ·exact (s2.trans UA).eS n1
 ·rintro σ H2 ⟨os,bv,sv,cv,wv,rfl,fi,iY,wY,tY,yh,ke,s2⟩
  rw[aU]at wY
  have D7:=s2 _ _ qj hwb
  refine ⟨_,rfl,wt,_,rfl, .inr ⟨aW.of D7,?_⟩⟩
  refine ⟨_,rfl,p1,_,rfl, .inl ⟨aT.of fi,fun t nt=>?_⟩⟩
  refine ⟨by show 2<=sizeLine;decide,fun dr Lf=>?_⟩
  have N0:H t=none:=s2.none nt (ke.ne nt)
  have sA:ai H2 (upd (upd H2 t (.tup (mX os))) dr (.tup [.ref wt, .ref t])):=(ai.upd nt).trans (ai.upd Lf)
  have Ih:t≠dr:=fun z=>by rw[<-z,ae]at Lf;cases Lf
  refine q dr os _ ⟨⟨wt,t,ae,sA _ _ D7,by rw[aq Ih,ae]⟩,fun o ho=>(tY o ho).same sA⟩ ⟨wY,yh⟩ (ke.same sA) (s2.after sA)
theorem wM:bE P w K mg base eI 1 f8 d8 ["word"] (ng K):=by
 refine T.F8.fn.ok wD (fun vs H Q E h=>uB h) (fun cM A outer s H vs Q E hr h=>?_)
 refine ⟨_,(ah (aD (aX K rfl PySem.F.plainAttrs_str PySem.F.slot_str_join PySem.F.type_str_join (oV K 32 rfl) (dh [32] (by decide+kernel)) (aa (bz (aa (rH [99,111,114,100] rfl T.g_CORD) (aa (uX (aB oO (pv 0) (dh [] (by decide+kernel)) (aM _)) (pv 0) (rH [45] rfl T.g_NO_LETTERS)) ab))) ab)))),?_⟩
 obtain ⟨w,rfl,hw,q⟩:=h
 have hs:(100000:Nat)<sizeLine:=by decide
 have fin: ∀x:List Nat,x=c_ w-> ∀p,H p=none-> ∃(p':Addr) (ls:List (List Nat)),V.str (S [32])= .str (S [32])/\[V.ref p]=[.ref p']/\aT K (upd H p (.lst [.str (S [99,111,114,100]), .str (S x)])) p' (ls.map fun l=>V.str (S l))/\(ls.map List.length).sum+ls.length<=16777216/\Q (.str (S (fo 32 ls))) (upd H p (.lst [.str (S [99,111,114,100]), .str (S x)])):=fun x hx p np=>by
  subst hx
  refine ⟨p,[jo,c_ w],rfl,rfl,aT.of ae,?_,q _ (ai.upd np)⟩
  have:(c_ w).length<=12:=by unfold c_;split<;>first | omega | simp
  simp[jo]
  omega
 refine ⟨rfl,_,rfl,w,[],rfl,rfl,_,rfl,cB (fun e=>?_) (fun e=>?_)⟩
 ·have hn:w≠[]:=fun z=>by rw[z]at e;simp at e
  exact ⟨_,rfl,by show 2<=sizeLine;decide,fin w (by unfold c_;rw[if_neg hn])⟩
 ·have hn:w=[]:=by
   by_cases z:w=[]
   ·exact z
   ·exact absurd (by simp[z]) e
  exact ⟨by show 2<=sizeLine;decide,fin [45] (by unfold c_;rw[if_pos hn])⟩
theorem nJ:bE P w K mg base eI 3 G_ Qp ["yard","drawing"] (iU K):=by
 have yq:=wM (P:=P) (w:=w) (base:=base) T
 have dQ:=ij (P:=P) (w:=w) (base:=base) T
 have yr:=wG (P:=P) (w:=w) (base:=base) T
 refine T.Bo.fn.ok dP (fun vs H Q E h=>mG h) (fun cM A outer s H vs Q E hr h=>?_)
 refine ⟨_,(af (kP (i:=2) ["word"] [none] dP.nd rfl (Or.inl rfl) (nP K rfl (az (ax K rfl) (pv 1) ag (fun _ _=>rfl))) trivial (fun _ _ _ _=>(aw (i:=0) (by decide+kernel:List.Nodup (["word"]:List Str)) rfl (Or.inl rfl))) (fun _ _ _ _=>ip) (fun _ _ _ _=>(ao yq (hr.mono (by decide)) rfl T.F8.mg T.F8.fn.kp T.F8.bd .nil aA (aa (pv 0) ab))))
   (af (bp PassesOwn.never rfl (vw K rfl rfl T.z_zip (aa (ao dQ (hr.mono (by decide)) rfl T.F2.mg T.F2.fn.kp T.F2.bd .nil aA (aa (pv 0) ab)) (aa (az (ax K rfl) (pv 1) ag (fun _ _=>rfl)) ab))) (bW (n:=2) K rfl rfl (aP (aw (i:=3) dP.nd rfl (Or.inl rfl)) (aP (aw (i:=4) dP.nd rfl (Or.inl rfl)) bU))) (ah (aY (aX K rfl PySem.F.plainAttrs_list PySem.F.slot_list_append PySem.F.type_list_append bf (pv 2) (aa (ao yr (hr.mono (by decide)) rfl T.F9.mg T.F9.fn.kp T.F9.bd .nil aA (aa (pv 3) (aa (pv 4) ab))) ab)))))
   (ah (aD (aX K rfl PySem.F.plainAttrs_str PySem.F.slot_str_join PySem.F.type_str_join (oV K 10 rfl) (dh [10] (by decide+kernel)) (aa (pv 2) ab)))))),?_⟩
 obtain ⟨y,dr,ws,os,rfl,hd,ht,q⟩:=h
 have hs:(2000000:Nat)<sizeLine:=by decide
 obtain ⟨⟨wt,ot,BO,qj,L1⟩,tY⟩:=hd
 have Af:=ht.wo.g7
 have wY:os.length=(aC y).length:=by have:=ht.ol;rwa [iF]at this
 have Bd:=ht.bl
 rw[iF]at Bd
 refine ⟨_,rfl,dr,_,0,_,rfl,rfl,aW.of BO,rfl,wt,rfl,⟨_,aW.of qj⟩,?_⟩
 refine kW (K:=K) (a:=wt) (xs:=bw ws) (fun i acc H'=>ai H H'/\acc=bw ((ws.take i).map gr)) (by rw[aN];omega) (fun i acc H' h=>aW.of (h.1 _ _ qj)) ⟨ai.refl _,rfl⟩ ?_ ?_
 ·rintro i x acc H1 Nx hi hx fI ⟨s1,rfl⟩ nx
  obtain ⟨w,hw,rfl⟩:=lC hx
  refine ⟨trivial,gJ ?_⟩
  refine ⟨_,rfl,w,rfl,(ht.wo.all w (List.mem_of_getElem? hw)).2,fun H2 s2=>?_⟩
  refine nx _ _ (by simpa using fI) ⟨s1.trans s2,?_⟩
  rw[gk, <-take_snoc hw,List.map_append]
  rfl
 rintro acc H1 p2 fI ⟨s1,rfl⟩ n2
 rw[aN,List.take_length]
 have s2:=s1.trans (ai.upd (o:= .lst (bw (ws.map gr))) n2)
 have iY:upd H1 p2 (.lst (bw (ws.map gr))) p2=some (.lst (bw (ws.map gr))):=ae
 have UC:H p2=none:=s1.free n2
 generalize upd H1 p2 (.lst (bw (ws.map gr)))=H2 at s2 iY ⊢
 refine ⟨_,rfl,y,rfl,zf ht.yd.lt,by have:=ht.y8;omega,fun l' H3 uN En s3=>?_⟩
 have el:=fM uN En
 subst el
 have wN:=s2.trans s3
 refine ⟨_,rfl,dr,_,1,_,rfl,rfl,aW.of (wN _ _ BO),rfl,aC y,ot,rfl,⟨_,aW.of (wN _ _ L1)⟩,?_⟩
 have nW:=s3 _ _ iY
 refine yV (Sq1:=JR (aC y)) (Sq2:=xD K ot) (xs:=cq (aC y)) (ys:=mX os) (fun i σ H'=> ∃bv ov:Option V,σ=[some (.str (S y)),some (.ref dr),some (.ref p2),bv,ov]/\H' p2=some (.lst (bw (ws.map gr++(List.zipWith eN (aC y) (nc os)).take i)))/\aF p2 H H')
  (by rw[aU,jD,wY]) ⟨none,none,rfl,by simpa using nW,aF.of wN⟩ (fun i σ H' _ ⟨_,_,_,_,s⟩=>⟨rfl,aW.of (s _ _ L1 (ak L1 UC))⟩) ?_ ?_
 ·rintro i x z σ H4 T hx hz ⟨bv,ov,rfl,nF,s4⟩ nT
  obtain ⟨b,hb,rfl⟩:=di hx
  have hi:i<os.length:=by have:=(List.getElem?_eq_some_iff.mp hz).1;rwa [jD]at this
  have ho:os[i]? =some os[i]:=List.getElem?_eq_getElem hi
  have J3:=ko ho
  rw[hz]at J3
  cases J3
  have hmo:=List.getElem_mem hi
  have eo:=Kl ho
  refine ⟨T,_,rfl,aW.of ae,rfl,_,_,rfl,_,_,rfl,rfl,?_⟩
  have sT:=ai.upd (o:= .tup [.str (S [b]), .ref os[i].o]) nT
  have Ov:=sT _ _ nF
  have Oq:aF p2 H (upd H4 T (.tup [.str (S [b]), .ref os[i].o])):=s4.trans (aF.of sT)
  generalize upd H4 T (.tup [.str (S [b]), .ref os[i].o])=H5 at Ov Oq ⊢
  have ts:aJ H H5:=fun c xs e=>Oq c _ e (ak e UC)
  refine ⟨_,rfl, .inl ⟨rfl,_,aT.of Ov⟩,?_⟩
  refine ⟨_,rfl,_,rfl,b,os[i],rfl,(tY _ hmo).ts ts,fun p hp=>ht.sm eo hb _ (List.mem_map.mpr ⟨p,hp,rfl⟩),fun H6 s6=>?_⟩
  have hzl:(List.zipWith eN (aC y) (nc os)).length=os.length:=by rw[List.length_zipWith,iF];omega
  refine ⟨p2,_,_,rfl,rfl,s6 _ _ Ov,by rw[aN,List.length_append,List.length_map,List.length_take];omega,?_⟩
  refine ⟨_,_,rfl,?_,fun c o e w=>by rw[aq w];exact s6 _ _ (Oq c o e w)⟩
  have ez:(List.zipWith eN (aC y) (nc os))[i]? =some (eN b (os[i].ps.map Pr.pair)):=by rw[List.getElem?_zipWith,hb,eo]
  rw[ae,gk,List.append_assoc,take_snoc ez]
 ·rintro σ H4 ⟨bv,ov,rfl,nF,s4⟩
  have hzl:(List.zipWith eN (aC y) (nc os)).length=(cq (aC y)).length:=by rw[List.length_zipWith,iF,aU];omega
  rw[<-hzl,List.take_length]at nF
  have FT:=gs (ps:=rowsOf y ws (nc os)) fun x hx=>(ht.rows x hx).2
  have lT:=jq (ws:=ws) ht.ol
  rw[iF]at lT
  refine ⟨rfl,_,rfl,p2,rowsOf y ws (nc os),rfl,rfl,aT.of nF,by omega,?_⟩
  exact q _ fun c o e=>s4 c o e (ak e UC)
theorem uJ:bE P w K mg base eI 2 Ha Qq ["yard","row"] (lM K):=by
 have gA:=iW (P:=P) (w:=w) (base:=base) T
 refine T.Kr.fn.ok lN (fun vs H Q E h=>qQ h) (fun cM A outer s H vs Q E hr h=>?_)
 refine ⟨_,(af (au (i:=2) lN.nd rfl (Or.inl rfl) (aX K rfl PySem.F.plainAttrs_str PySem.F.slot_str_split PySem.F.type_str_split (mr 32) (pv 1) (aa (dh [32] (by decide+kernel)) ab)))
   (af (bC (PW.pt (kC (aB xq (ar (ay K rfl) rfl T.z_len PySem.boot_len (aa (pv 2) ab)) ag (aM _)) (kC (aB oO (az (ba K rfl) (pv 2) ag (fun _ _=>rfl)) (rH [99,111,114,100] rfl T.g_CORD) (aM _)) (i4 (aB eQ (az (ba K rfl) (pv 2) ag (fun _ _=>rfl)) (dh [] (by decide+kernel)) (aM _)))))) (ah (aD eP)) aV)
   (af (bC (aB eQ (az (ba K rfl) (pv 2) ag (fun _ _=>rfl)) (rH [45] rfl T.g_NO_LETTERS) (aM _)) (ah (aD (dh [] (by decide+kernel)))) aV)
   (af (bC (aB tD (ao gA (hr.mono (by decide)) rfl T.F1.mg T.F1.fn.kp T.F1.bd .nil aA (aa (pv 0) (aa (az (ba K rfl) (pv 2) ag (fun _ _=>rfl)) ab))) eP (aM _)) (ah (aD eP)) aV)
   (ah (aD (az (ba K rfl) (pv 2) ag (fun _ _=>rfl)))))))),?_⟩
 obtain ⟨y,row,rfl,hh⟩:=h
 have hs:(2000000:Nat)<sizeLine:=by decide
 rcases hh with ⟨w,rfl,hw,va,q⟩ | ⟨b,ps,rfl,hb,iN,fJ,q⟩
 ·have cy: ∀c∈w,Lt c:=fun c hc=>(hw c hc).2
  have hl:=su va
  refine ⟨_,rfl,rfl,_,rfl,rfl,by omega,fun p np=>?_⟩
  rw[Bl cy]
  have hp:upd H p (.lst ([jo,c_ w].map fun l=>V.str (S l))) p=some (.lst [.str (S jo), .str (S (c_ w))]):=ae
  have s1:=ai.upd (o:= .lst ([jo,c_ w].map fun l=>V.str (S l))) np
  generalize upd H p (.lst ([jo,c_ w].map fun l=>V.str (S l)))=H1 at hp s1 ⊢
  have cw:=(qc cy).2.2
  refine ⟨_,rfl,p,_,rfl, .inl (aT.of hp),_,_,rfl,rfl,_,rfl,cO rfl ?_⟩
  refine ⟨_,rfl,p,_,0,_,rfl,rfl,aT.of hp,rfl,_,_,rfl,rfl,_,rfl,cO (by unfold jo;simp) ?_⟩
  refine ⟨_,rfl,p,_,1,_,rfl,rfl,aT.of hp,rfl,_,_,rfl,rfl,_,rfl,cO (by simp[cw]) ?_⟩
  refine ⟨_,rfl,p,_,1,_,rfl,rfl,aT.of hp,rfl,_,_,rfl,rfl,_,rfl,cB (fun e=>?_) (fun e=>?_)⟩
  ·have e':c_ w=[45]:=of_decide_eq_true e
   have hn:w=[]:=by
    by_cases z:w=[]
    ·exact z
    ·exfalso
     unfold c_ at e'
     rw[if_neg z]at e'
     have:=cy 45 (by rw[e'];simp)
     exact (wu _ this.mem).2.2 rfl
   subst hn
   exact q _ s1
  ·have hn:w≠[]:=fun z=>e (decide_eq_true (by unfold c_;rw[if_pos z]))
   have ew:c_ w=w:=by unfold c_;rw[if_neg hn]
   rw[ew]at hp
   refine ⟨_,rfl,_,rfl,p,_,1,_,rfl,rfl,aT.of hp,rfl,y,w,rfl,fun c hc=>(hw c hc).1,fun H2 s2=>?_⟩
   refine ⟨rfl,_,rfl,cO rfl ?_⟩
   exact ⟨_,rfl,p,_,1,_,rfl,rfl,aT.of (s2 _ _ hp),rfl,q _ (s1.trans s2)⟩
 ·have hl:=mE hb iN (Nat.le_trans fJ (by decide))
  refine ⟨_,rfl,rfl,_,rfl,rfl,by omega,fun p np=>?_⟩
  rw[sr hb iN]
  have hp:upd H p (.lst ((cP b ps).map fun l=>V.str (S l))) p=some (.lst (bw (cP b ps))):=ae
  have s1:=ai.upd (o:= .lst ((cP b ps).map fun l=>V.str (S l))) np
  generalize upd H p (.lst ((cP b ps).map fun l=>V.str (S l)))=H1 at hp s1 ⊢
  refine ⟨_,rfl,p,_,rfl, .inl (aT.of hp),_,_,rfl,rfl,_,rfl,cB (fun e=>q _ s1) (fun e=>?_)⟩
  have at0:rl (bw (cP b ps)) 0=some (V.str (S fA)):=aR (xs:=bw (cP b ps)) (j:=0) rfl
  refine ⟨_,rfl,p,_,0,_,rfl,rfl,aT.of hp,at0,_,_,rfl,rfl,_,rfl,gH (by unfold fA;simp) ?_⟩
  exact q _ s1
theorem qY:bE P w K mg base eI 3 Hb Qr ["yard","rows"] (j5 K):=by
 have wO:=uJ (P:=P) (w:=w) (base:=base) T
 refine T.Ks.fn.ok fj (fun vs H Q E h=>qe h) (fun cM A outer s H vs Q E hr h=>?_)
 refine ⟨_,(af (au (i:=2) fj.nd rfl (Or.inl rfl) (bz ab))
   (af (bp PassesOwn.never rfl (eB K rfl (pv 1)) (aw (i:=3) fj.nd rfl (Or.inl rfl)) (af (au (i:=4) fj.nd rfl (Or.inl rfl) (ao wO (hr.mono (by decide)) rfl T.Kr.mg T.Kr.fn.kp T.Kr.bd .nil aA (aa (pv 0) (aa (pv 3) ab))))
   (af (bC (aB B6 (pv 4) eP (aM _)) (ah B0) aV)
   (ah (aY (aX K rfl PySem.F.plainAttrs_list PySem.F.slot_list_append PySem.F.type_list_append bf (pv 2) (aa (pv 4) ab)))))))
   (ah (aD (bh (bA K rfl) rfl T.z_tuple boot_tuple (aa (pv 2) ab)))))),?_⟩
 obtain ⟨y,p,ws,os,rfl,hp,ht,q⟩:=h
 have hs:(2000000:Nat)<sizeLine:=by decide
 have lT:=jq (ws:=ws) ht.ol
 have Bd:=ht.bl
 have Af:=ht.wo.g7
 refine ⟨by show 0<=sizeLine;decide,fun p1 n1=>?_⟩
 have LX:p≠p1:=ak hp n1
 refine ⟨_,rfl,p,rfl,⟨_,aT.of (ai.upd n1 _ _ hp)⟩,?_⟩
 refine f_ (K:=K) (a:=p) (xs:=bw (rowsOf y ws os)) (fun i σ H'=> ∃rv wv:Option V,σ=[some (.str (S y)),some (.ref p),some (.ref p1),rv,wv]/\i<=ws.length/\H' p1=some (.lst (bw (ws.take i)))/\H' p=some (.lst (bw (rowsOf y ws os)))/\aF p1 H H')
  ⟨none,none,rfl,Nat.zero_le _,ae,ai.upd n1 _ _ hp,aF.of (ai.upd n1)⟩ (fun i σ H' _ ⟨_,_,_,_,_,h,_⟩=>aT.of h) ?_ ?_
 ·rintro i x σ H2 hx ⟨rv,wv,rfl,hi,fi,iY,s2⟩
  obtain ⟨r,hr0,rfl⟩:=lC hx
  have n1': ∀{H3:Hp},ai H2 H3->aF p1 H H3:=fun s3=>s2.trans (aF.of s3)
  by_cases Ri:i<ws.length
  ·have er:r=gr ws[i]:=Option.some.inj (hr0.symm.trans (Bm (List.getElem?_eq_getElem Ri)))
   have hm:=List.getElem_mem Ri
   refine ⟨_,rfl,_,rfl,y,_,rfl, .inl ⟨ws[i],er,fun c hc=>⟨(ht.wo.all _ hm).1 c hc,ht.wl _ hm c hc⟩,(ht.wo.all _ hm).2,fun H3 s3=>?_⟩⟩
   refine ⟨_,rfl,rfl,_,rfl,cO rfl ?_⟩
   refine ⟨_,rfl, .inl ⟨rfl,_,aT.of (s3 _ _ fi)⟩,_,rfl,p1,_,_,rfl,rfl,s3 _ _ fi,by rw[aN,List.length_take];omega,?_⟩
   refine ⟨_,_,rfl,Ri,by rw[ae,gk,take_snoc (List.getElem?_eq_getElem Ri)],by rw[aq LX];exact s3 _ _ iY,fun c o e z=>by rw[aq z];exact s3 _ _ (s2 c o e z)⟩
  ·have eil:i=ws.length:=by omega
   obtain ⟨b,o,e1,e2⟩:=ht.at_ (j:=0) (by omega)
   have er:r=eN b o:=Option.some.inj (hr0.symm.trans (by rw[eil];exact sx e1 e2))
   refine ⟨_,rfl,_,rfl,y,_,rfl, .inr ⟨b,o,er,ht.blt (List.mem_of_getElem? e2),ht.sm e1 e2,ht.g7 e1 e2,fun H3 s3=>?_⟩⟩
   refine ⟨_,rfl,rfl,_,rfl,gH rfl ?_⟩
   have yp:=s3 _ _ fi
   rw[eil,List.take_length]at yp
   refine ⟨_,rfl,p1,_,rfl, .inl ⟨aT.of yp,fun t nt=>?_⟩⟩
   have sH:ai H H3:=fun c o e=>s3 _ _ (s2 c o e (ak e n1))
   exact q t _ (sH.free nt) ae (sH.trans (ai.upd nt))
 ·rintro σ H2 ⟨rv,wv,rfl,hi,_⟩
  rw[aN,lT]at hi
  omega
theorem qZ:bE P w K mg base eI 2 Hc Qs ["words","band","row"] (j6 K):=by
 have iK:=j8 (P:=P) (w:=w) (base:=base) T
 have gS:=js (P:=P) (w:=w) (base:=base) T
 refine T.Kt.fn.ok fk (fun vs H Q E h=>qf h) (fun cM A outer s H vs Q E hr h=>?_)
 refine ⟨_,(af (au (i:=3) fk.nd rfl (Or.inr rfl) vn)
   (af (bp PassesOwn.never rfl (eB K rfl (ao iK (hr.mono (by decide)) rfl T.F3.mg T.F3.fn.kp T.F3.bd .nil aA (aa (pv 0) (aa (pv 1) ab)))) (aw (i:=4) fk.nd rfl (Or.inl rfl)) (ah (nQ (gc hr) (pv 3) (ao gS (hr.mono (by decide)) rfl T.F7.mg T.F7.fn.kp T.F7.bd .nil aA (aa (pv 4) ab)) (pv 4) rfl)))
   (af (au (i:=5) fk.nd rfl (Or.inl rfl) (aX K rfl PySem.F.plainAttrs_str PySem.F.slot_str_split PySem.F.type_str_split (mr 32) (pv 2) (aa (dh [32] (by decide+kernel)) ab)))
   (af (bC (PW.pt (kC (aB (kd K rfl hr) (bF (jd K rfl) (pv 5) cg (bK ag)) (bz (aa (rH [98,97,110,100] rfl T.g_BAND) (aa (pv 1) ab))) (aM _)) (i4 (aB (kd K rfl hr) (ar (ir K rfl) rfl T.z_sorted boot_sorted (aa (bF (jd K rfl) (pv 5) (bK ag) cg) ab)) (ar (tZ rfl) rfl T.z_sorted boot_sorted (aa (pv 3) ab)) (aM _))))) (ah (aD eP)) aV)
   (ah (aD (bh (bA K rfl) rfl T.z_tuple boot_tuple (aa (cY ["part","strands"] [none,some 3] (eB K rfl (bF (jd K rfl) (pv 5) (bK ag) cg)) ⟨⟨rfl,rfl,by first | exact .inl rfl | exact .inr rfl⟩,trivial⟩ (fun _ _ _ _=>(aw (i:=0) (by decide+kernel:List.Nodup (["part","strands"]:List Str)) rfl (Or.inl rfl))) (fun _ _ _ _=>ip) (fun _ _ _ _=>(fh (gc hr) (pv 1) (pv 0) (fun _ _=>rfl)))) ab)))))))),?_⟩
 obtain ⟨y,wt,ws,b,ps,rfl,qj,hw,cy,hb,iD,q⟩:=h
 have hs:(2000000:Nat)<sizeLine:=by decide
 have FR: ∀p∈ps,qP p:=fun p hp=>mF hw p (iD.mem_iff.mp hp)
 have UD:Lt b:= .inl hb
 have LU:(bt b ws ws.length).length<=48:=by
  have:=gq b (fun w Dg=>(hw.all w Dg).2) ws.length (Nat.le_refl _)
  have:=hw.g7
  omega
 have fJ:ps.length<=48:=by rw[iD.length_eq];exact LU
 intro d nd
 have sd:=ai.upd (o:=HO.dK []) nd
 refine ⟨_,rfl,_,rfl,wt,ws,b,rfl,sd _ _ qj,hw.g7,fun w Dg=>⟨cy w Dg,(hw.all w Dg).2⟩,hb,fun qa ss H2 nq hq Gm gE s2=>?_⟩
 have hd2:H2 d=some (.dK []):=s2 _ _ ae
 have hqd:qa≠d:=fun z=>by rw[z,ae]at nq;cases nq
 have Gn: ∀p∈ss,qP p.pair:=fun p hp=>mF hw _ (by rw[<-gE];exact List.mem_map.mpr ⟨p,hp,rfl⟩)
 have abj:ss.length<=48:=by have:=congrArg List.length gE;rw[List.length_map]at this;omega
 have zr:(ss.map Pr.pair).Nodup:=by rw[gE];exact so _ _ _
 refine ⟨qa,rfl,⟨_,aT.of hq⟩,?_⟩
 refine f_ (K:=K) (a:=qa) (xs:=bS ss) (fun i σ H'=> ∃sv:Option V,σ=[some (.ref wt),some (.str (S [b])),some (.str (S (eN b ps))),some (.ref d),sv,none]/\H' d=some (.dK (DI (ss.take i)))/\aF d H2 H')
  ⟨none,rfl,hd2,aF.refl _ _⟩ (fun i σ H' _ ⟨_,_,_,s3⟩=>aT.of (s3 _ _ hq hqd)) ?_ ?_
 ·rintro i x σ H3 hx ⟨sv,rfl,Lb,s3⟩
  obtain ⟨p,hp,rfl⟩:=pj hx
  have hm:=List.mem_of_getElem? hp
  have hi:=(List.getElem?_eq_some_iff.mp hp).1
  have TZ:p.t≠d:=fun z=>by have:=(Gm p hm).tp;rw[z,hd2]at this;cases this
  have Ci:p.pair∉(ss.take i).map Pr.pair:=fun z=>by
   have e:(ss.map Pr.pair)[i]? =some p.pair:=by rw[List.getElem?_map,hp];rfl
   rw[List.map_take]at z
   have h1:=(List.getElem?_eq_some_iff.mp e)
   obtain ⟨j,hj,e2⟩:=List.getElem_of_mem z
   rw[List.length_take]at hj
   rw[List.getElem_take]at e2
   have:=(List.getElem_inj zr).mp (e2.trans h1.2.symm)
   omega
  refine ⟨_,rfl,_,rfl,_,rfl,p,rfl,⟨s3 _ _ (Gm p hm).tp TZ,(Gm p hm).cz,(Gm p hm).iz⟩,Gn p hm,d,_,rfl,qF.k (k:=sk p.pair) Lb (by unfold DI;rw[List.length_map,List.length_take];omega),?_⟩
  refine ⟨_,rfl,?_,fun c o e z=>by rw[aq z];exact s3 c o e z⟩
  rw[ae,vk _ (DL (fun r hr=>Gn r (List.mem_of_mem_take hr)) (Gn p hm) Ci), <-take_snoc hp]
  unfold DI
  rw[List.map_append]
  rfl
 rintro σ H3 ⟨sv,rfl,Lb,s3⟩
 rw[aZ,List.take_length]at Lb
 have UE: ∀p∈ss,dF H3 p:=fun p hm=>⟨s3 _ _ (Gm p hm).tp (fun z=>by have:=(Gm p hm).tp;rw[z,hd2]at this;cases this),(Gm p hm).cz,(Gm p hm).iz⟩
 have wN:ai H H3:=fun c o e=>s3 _ _ (s2 _ _ (sd c o e)) (ak e nd)
 clear s3 hd2 Gm hq nq s2 hqd
 have lT:=mE UD FR (Nat.le_trans fJ (by decide))
 refine ⟨_,rfl,rfl,_,rfl,rfl,by omega,fun p5 n5=>?_⟩
 rw[sr UD FR]
 have nX:upd H3 p5 (.lst ((cP b ps).map fun l=>V.str (S l))) p5=some (.lst (bw (cP b ps))):=ae
 have s5:=ai.upd (o:= .lst ((cP b ps).map fun l=>V.str (S l))) n5
 generalize upd H3 p5 (.lst ((cP b ps).map fun l=>V.str (S l)))=H5 at nX s5 ⊢
 have cv1:qy (bw (cP b ps)) none (some 2)=bw [fA,[b]]:=by
  have:=kj (bw (cP b ps)) 2
  rw[show ((2:Nat):Int)=2 from rfl]at this
  show cut (bw (cP b ps)) none (some 2)=_
  rw[this];rfl
 have cv2:qy (bw (cP b ps)) (some 2) none=bw (ps.map stx):=by
  have:=cE (bw (cP b ps)) 2
  rw[show ((2:Nat):Int)=2 from rfl]at this
  show cut (bw (cP b ps)) (some 2) none=_
  rw[this];rfl
 refine ⟨_,rfl,_,rfl,p5,_,rfl,aT.of nX,fun p6 n6=>?_⟩
 rw[cv1]
 have h56:p5≠p6:=ak nX n6
 have s6:=ai.upd (o:= .lst (bw [fA,[b]])) n6
 have qT:upd H5 p6 (.lst (bw [fA,[b]])) p6=some (.lst (bw [fA,[b]])):=ae
 generalize upd H5 p6 (.lst (bw [fA,[b]]))=H6 at s6 qT ⊢
 refine ⟨_,rfl,by show 2<=sizeLine;decide,fun p7 n7=>?_⟩
 have s7:=ai.upd (o:= .lst [V.str (S [98,97,110,100]),V.str (S [b])]) n7
 have DS:upd H6 p7 (.lst [V.str (S [98,97,110,100]),V.str (S [b])]) p7=some (.lst (bw [fA,[b]])):=ae
 generalize upd H6 p7 (.lst [V.str (S [98,97,110,100]),V.str (S [b])])=H7 at s7 DS ⊢
 have Ow: ∀l∈[fA,[b]], ∀c∈l,c<128:=fun l hl c hc=>by
  rcases List.mem_cons.mp hl with g | g
  ·rw[g]at hc;revert c hc;decide
  ·rw[List.mem_singleton.mp g]at hc;rw[List.mem_singleton.mp hc];exact UD.lt
 refine ⟨.list (kl [fA,[b]]), .list (kl [fA,[b]]), .lst (aT.of (s7 _ _ qT)) (ft _), .lst (aT.of DS) (ft _),⟨jA Ow,jA Ow⟩,by show PyData.depthAll (kl [fA,[b]])+1<=60;rw[jB];decide,?_⟩
 refine ⟨_,rfl,cO (by rw[eqv_refl (.list (kl [fA,[b]])) (show PyData.hasDictAll (kl [fA,[b]])=false from pf _)];rfl) ?_⟩
 have Ox:=s7 _ _ (s6 _ _ nX)
 refine ⟨_,rfl,_,rfl,p5,_,rfl,aT.of Ox,fun p8 n8=>?_⟩
 rw[cv2]
 refine ⟨p8,ps.map stx,rfl,aT.of ae,by rw[List.length_map];omega,fun p9 ms n9 Rj pw9=>?_⟩
 have s9:=(ai.upd (o:= .lst (bw (ps.map stx))) n8).trans (ai.upd (o:= .lst (ms.map fun l=>V.str (S l))) n9)
 have hp9:upd (upd H7 p8 (.lst (bw (ps.map stx)))) p9 (.lst (ms.map fun l=>V.str (S l))) p9=some (.lst (bw ms)):=ae
 generalize upd (upd H7 p8 (.lst (bw (ps.map stx)))) p9 (.lst (ms.map fun l=>V.str (S l)))=H9 at s9 hp9 ⊢
 have s39:ai H3 H9:=((s5.trans s6).trans s7).trans s9
 refine ⟨_,rfl,d,DI ss,(ss.map Pr.pair).map stx,rfl,s39 _ _ Lb,DJ ss,by rw[List.length_map,List.length_map];omega,fun UG ns n10 Lk UH=>?_⟩
 have emn:ms=ns:=wx Rj (Lk.trans (by rw[gE];exact (iD.map stx).symm)) pw9 UH
 subst emn
 have Rk:=ai.upd (o:= .lst (ms.map fun l=>V.str (S l))) n10
 have Oy:upd H9 UG (.lst (ms.map fun l=>V.str (S l))) UG=some (.lst (bw ms)):=ae
 generalize upd H9 UG (.lst (ms.map fun l=>V.str (S l)))=L8 at Rk Oy ⊢
 have Oz: ∀l∈ms, ∀c∈l,c<128:=fun l hl=>by
  obtain ⟨p,hp,rfl⟩:=List.mem_map.mp (Rj.mem_iff.mp hl)
  exact Km (FR p hp)
 refine ⟨.list (kl ms), .list (kl ms), .lst (aT.of (Rk _ _ hp9)) (ft _), .lst (aT.of Oy) (ft _),⟨jA Oz,jA Oz⟩,by show PyData.depthAll (kl ms)+1<=60;rw[jB];decide,?_⟩
 refine ⟨_,rfl,cO (by rw[eqv_refl (.list (kl ms)) (show PyData.hasDictAll (kl ms)=false from pf _)];rfl) ?_⟩
 have OA:=Rk _ _ (s9 _ _ Ox)
 refine ⟨_,rfl,_,rfl,p5,_,rfl,aT.of OA,fun OB n11=>?_⟩
 rw[cv2]
 have EC:=ai.upd (o:= .lst (bw (ps.map stx))) n11
 have Ll:upd L8 OB (.lst (bw (ps.map stx))) OB=some (.lst (bw (ps.map stx))):=ae
 generalize upd L8 OB (.lst (bw (ps.map stx)))=Rl at EC Ll ⊢
 have s3L:ai H3 Rl:=(s39.trans Rk).trans EC
 refine ⟨OB,rfl,⟨_,aT.of Ll⟩,?_⟩
 refine rD (K:=K) (a:=OB) (xs:=bw (ps.map stx)) (fun i acc H'=>H'=Rl/\ ∃qs:List Pr,acc=bS qs/\qs.map Pr.pair=ps.take i/\ ∀r∈qs,r∈ss) (by rw[aN,List.length_map];omega) (fun i acc H' h=>by rw[h.1];exact aT.of Ll) ⟨rfl,[],rfl,rfl,fun _ h=>absurd h List.not_mem_nil⟩ ?_ ?_
 ·rintro i x acc UI Nx hi hx fI ⟨rfl,qs,rfl,BE,UJ⟩ nx
  obtain ⟨l,hl,rfl⟩:=lC hx
  rw[List.getElem?_map]at hl
  cases e:ps[i]? with
  | none=>rw[e]at hl;cases hl
  | some p=>
   rw[e]at hl;cases hl
   have LX:=List.mem_of_getElem? e
   obtain ⟨r,hr,e1,e2⟩:=DM Gn (FR p LX) (by rw[gE];exact iD.mem_iff.mp LX)
   refine ⟨⟨rfl,trivial⟩,gJ ?_⟩
   refine ⟨_,rfl,_,rfl,d,_,rfl,by rw[<-e2];exact gG.k (k:=sk p) (s3L _ _ Lb),?_⟩
   refine nx _ _ (by simpa using fI) ⟨rfl,qs++[r],g_ qs r,by rw[List.map_append,BE, <-take_snoc e,List.map_cons,List.map_nil,e1],fun z hz=>?_⟩
   rcases List.mem_append.mp hz with g | g
   ·exact UJ z g
   ·rw[List.mem_singleton.mp g];exact hr
 rintro acc UI D fI ⟨rfl,qs,rfl,BE,UJ⟩ hD
 rw[aN,List.length_map,List.take_length]at BE
 refine ⟨D,_,rfl, .inl ⟨aT.of ae,fun t nt=>?_⟩⟩
 have sE:=(s3L.trans (ai.upd (o:= .lst (bS qs)) hD)).trans (ai.upd (o:= .tup (bS qs)) nt)
 refine q ⟨t,qs⟩ _ ⟨ae,fun r hr=>(UE r (UJ r hr)).same sE,?_⟩ BE (wN.trans sE)
 have:=congrArg List.length BE
 rw[List.length_map]at this
 show qs.length<=100
 omega
theorem nK:bE P w K mg base eI 4 Hd Qt ["yard","text"] (iV K):=by
 have uK:=qY (P:=P) (w:=w) (base:=base) T
 have dQ:=ij (P:=P) (w:=w) (base:=base) T
 have uL:=qZ (P:=P) (w:=w) (base:=base) T
 refine T.Bp.fn.ok bH (fun vs H Q E h=>mH h) (fun cM A outer s H vs Q E hr h=>?_)
 refine ⟨_,(af (au (i:=2) bH.nd rfl (Or.inl rfl) (aX K rfl PySem.F.plainAttrs_str PySem.F.slot_str_split PySem.F.type_str_split (mr 10) (pv 1) (aa (dh [10] (by decide+kernel)) ab)))
   (af (au (i:=3) bH.nd rfl (Or.inl rfl) (ao uK (hr.mono (by decide)) rfl T.Ks.mg T.Ks.fn.kp T.Ks.bd .nil aA (aa (pv 0) (aa (pv 2) ab))))
   (af (au (i:=4) bH.nd rfl (Or.inl rfl) (bz ab))
   (af (au (i:=5) bH.nd rfl (Or.inl rfl) (ar (ay K rfl) rfl T.z_len PySem.boot_len (aa (pv 3) ab)))
   (af (bp PassesOwn.never rfl (mi (ao dQ (hr.mono (by decide)) rfl T.F2.mg T.F2.fn.kp T.F2.bd .nil aA (aa (pv 0) ab))) (aw (i:=6) bH.nd rfl (Or.inl rfl)) (af (au (i:=7) bH.nd rfl (Or.inl rfl) (uX (aB gY (pv 5) (ar (ay K rfl) rfl T.z_len PySem.boot_len (aa (pv 2) ab)) (aM _)) (ao uL (hr.mono (by decide)) rfl T.Kt.mg T.Kt.fn.kp T.Kt.bd .nil aA (aa (pv 3) (aa (pv 6) (aa (az (ba K rfl) (pv 2) (pv 5) (fun _ _=>rfl)) ab)))) eP))
   (af (bC (aB B6 (pv 7) eP (aM _)) (ah gW) aV)
   (af (aY (aX K rfl PySem.F.plainAttrs_list PySem.F.slot_list_append PySem.F.type_list_append bf (pv 4) (aa (pv 7) ab)))
   (ah (lY (i:=5) bH.nd rfl (Or.inl rfl) ag s_))))))
   (af (bC (aB gY (pv 5) (ar (ay K rfl) rfl T.z_len PySem.boot_len (aa (pv 2) ab)) (aM _)) (ah gW) aV)
   (ah (aD (bD (aa (pv 3) (aa (bh (bA K rfl) rfl T.z_tuple boot_tuple (aa (pv 4) ab)) ab))))))))))),?_⟩
 obtain ⟨y,ws,os,rfl,ht,q⟩:=h
 have hs:(2000000:Nat)<sizeLine:=by decide
 have htl:=ht.To
 have Bd:=ht.bl
 have Af:=ht.wo.g7
 have lT:=jq (ws:=ws) ht.ol
 refine ⟨_,rfl,rfl,_,rfl,rfl,by omega,fun p1 n1=>?_⟩
 rw[ht.kh]
 have fi:upd H p1 (.lst ((rowsOf y ws os).map fun l=>V.str (S l))) p1=some (.lst (bw (rowsOf y ws os))):=ae
 have s1:=ai.upd (o:= .lst ((rowsOf y ws os).map fun l=>V.str (S l))) n1
 generalize upd H p1 (.lst ((rowsOf y ws os).map fun l=>V.str (S l)))=H1 at fi s1 ⊢
 refine ⟨_,rfl,_,rfl,y,p1,ws,os,rfl,fi,ht,fun wt H2 nwt qj s2=>?_⟩
 refine ⟨by show 0<=sizeLine;decide,fun p3 n3=>?_⟩
 have nW:upd H2 p3 (.lst []) p3=some (.lst (mX [])):=ae
 have s3:=ai.upd (o:= .lst []) n3
 have Rh:H p3=none:=(s1.trans s2).free n3
 have Uu:p1≠p3:=ak (s2 _ _ fi) n3
 have UK:wt≠p3:=ak qj n3
 have Lm:=s3 _ _ qj
 have yp:=s3 _ _ (s2 _ _ fi)
 have wN:ai H (upd H2 p3 (.lst [])):=(s1.trans s2).trans s3
 generalize upd H2 p3 (.lst [])=H3 at nW wN Lm yp ⊢
 refine ⟨_,rfl,wt,_,rfl, .inr (aW.of Lm),?_⟩
 rw[aN]
 refine ⟨_,rfl,y,rfl,zf ht.yd.lt,by have:=ht.y8;omega,fun l' H4 uN En s4=>⟨l',rfl,?_⟩⟩
 have el:=fM uN En
 subst el
 refine nN (xs:=cq (aC y)) (fun i σ H'=> ∃(od:List Od) (bv ov:Option V),σ=[some (.str (S y)),some (.str (S (textOf y ws os))),some (.ref p1),some (.ref wt),some (.ref p3),some (.int ((ws.length+i:Nat):Int)),bv,ov]/\H' p3=some (.lst (mX od))/\nc od=os.take i/\(∀o∈od,gp H' o)/\H' p1=some (.lst (bw (rowsOf y ws os)))/\H' wt=some (.tup (bw ws))/\aF p3 H H')
  ⟨[],none,none,rfl,s4 _ _ nW,rfl,fun _ h=>absurd h List.not_mem_nil,s4 _ _ yp,s4 _ _ Lm,aF.of (wN.trans s4)⟩ ?_ ?_
 ·rintro i x σ H5 hx ⟨od,bv,ov,rfl,nX,tY,bu,sW,DZ,s5⟩
  obtain ⟨b,hb,rfl⟩:=di hx
  have hi:i<os.length:=by rw[ht.ol];exact (List.getElem?_eq_some_iff.mp hb).1
  have ho:os[i]? =some os[i]:=List.getElem?_eq_getElem hi
  have UL:=sx (ws:=ws) ho hb
  have abk:od.length=i:=by have:=congrArg List.length tY;rw[iF,List.length_take]at this;omega
  have Ke:=lq ht.yd (List.mem_of_getElem? hb)
  refine ⟨_,rfl,_,rfl,p1,_,rfl, .inl (aT.of sW),_,_,rfl,rfl,_,rfl,gH (decide_eq_true (by rw[aN,lT];omega)) ?_⟩
  refine ⟨_,rfl,_,rfl,_,rfl,_,rfl,p1,_,_,_,rfl,rfl,aT.of sW,aR (by unfold bw;rw[List.getElem?_map,UL];rfl),?_⟩
  refine ⟨y,wt,ws,b,os[i],rfl,DZ,ht.wo,ht.wl,Ke,ht.pm i _ b ho hb,fun o H6 UM gE s6=>?_⟩
  refine ⟨_,rfl,rfl,_,rfl,cO rfl ?_⟩
  have qT:=s6 _ _ nX
  refine ⟨_,rfl, .inl ⟨rfl,_,aT.of qT⟩,_,rfl,p3,_,_,rfl,rfl,qT,by rw[jD];omega,?_⟩
  have ts:aJ H6 (upd H6 p3 (.lst (mX od++[.ref o.o]))):=aJ.fL qT
  refine ⟨_,rfl,_,_,rfl,rfl,?_⟩
  refine ⟨od++[o],some (.str (S [b])),some (.ref o.o),?_,by rw[ae,pq],?_,fun z hz=>?_,by rw[aq Uu];exact s6 _ _ sW,by rw[aq UK];exact s6 _ _ DZ,fun c u e w=>by rw[aq w];exact s6 _ _ (s5 c u e w)⟩
  ·have:((ws.length+i:Nat):Int)+1=((ws.length+(i+1):Nat):Int):=by omega
   show [_,_,_,_,_,some (V.int (((ws.length+i:Nat):Int)+1)),_,_]=_
   rw[this]
  ·rw[<-take_snoc ho, <-tY]
   unfold nc
   rw[List.map_append,List.map_cons,List.map_nil,gE]
  ·rcases List.mem_append.mp hz with g | g
   ·exact ((bu z g).same s6).ts ts
   ·rw[List.mem_singleton.mp g];exact UM.ts ts
 ·rintro σ H5 ⟨od,bv,ov,rfl,nX,tY,bu,sW,DZ,s5⟩
  rw[aU]at*
  refine ⟨_,rfl,_,rfl,p1,_,rfl, .inl (aT.of sW),_,_,rfl,rfl,_,rfl,cO (decide_eq_false (by rw[aN,lT,ht.ol];omega)) ?_⟩
  refine ⟨_,rfl,_,rfl,p3,_,rfl, .inl ⟨aT.of nX,fun t6 n6=>⟨by show 2<=sizeLine;decide,fun t7 n7=>?_⟩⟩⟩
  have L9:=(ai.upd (o:= .tup (mX od)) n6).trans (ai.upd (o:= .tup [.ref wt, .ref t6]) n7)
  have h67:t6≠t7:=fun z=>by rw[<-z,ae]at n7;cases n7
  have sH5:ai H H5:=fun c o e=>s5 c o e (ak e Rh)
  refine q t7 od _ ⟨⟨wt,t6,ae,L9 _ _ DZ,by rw[aq h67,ae]⟩,fun o ho=>(bu o ho).same L9⟩ ?_ (sH5.trans L9)
  rw[tY, <-ht.ol,List.take_length]
theorem D9:bE P w K mg base eI 2 HZ QX ["_law_box_here","_law_yard_here","_law_drawing_here"] (v8 K):=by
 have bN:=ju (P:=P) (w:=w) (base:=base) T
 have qp:=sX (P:=P) (w:=w) (base:=base) T
 have ik:=mQ (P:=P) (w:=w) (base:=base) T
 refine T.KZ.fn.ok cK (fun vs H Q E h=>Bf h) (fun cM A outer s H vs Q E hr h=>?_)
 refine ⟨_,(af (i7 (pv 2) (bW (n:=2) K rfl rfl (aP (aw (i:=3) cK.nd rfl (Or.inl rfl)) (aP (aw (i:=4) cK.nd rfl (Or.inr rfl)) bU))))
   (af (au (i:=5) cK.nd rfl (Or.inl rfl) (ao bN (hr.mono (by decide)) rfl T.fE.mg T.fE.fn.kp T.fE.bd .nil aA (aa (pv 0) (aa ag ab))))
   (af (au (i:=6) cK.nd rfl (Or.inl rfl) (ao qp (hr.mono (by decide)) rfl T.Et.mg T.Et.fn.kp T.Et.bd .nil aA (aa (pv 1) ab)))
   (af (au (i:=7) cK.nd rfl (Or.inl rfl) (ao bN (hr.mono (by decide)) rfl T.fE.mg T.fE.fn.kp T.fE.bd .nil aA (aa (pv 0) (aa (ar (jx rfl) rfl T.z_max boot_max (aa ag (aa (ar (ay K rfl) rfl T.z_len PySem.boot_len (aa (pv 3) ab)) ab))) ab))))
   (af (au (i:=8) cK.nd rfl (Or.inl rfl) (bz ab))
   (af (bp PassesOwn.never rfl (gf K rfl rfl T.z_enumerate (aa (pv 3) ab)) (bW (n:=2) K rfl rfl (aP (aw (i:=9) cK.nd rfl (Or.inr rfl)) (aP (aw (i:=10) cK.nd rfl (Or.inr rfl)) bU))) (ah (aY (aX K rfl PySem.F.plainAttrs_list PySem.F.slot_list_extend PySem.F.type_list_extend jy (pv 8) (aa (cY ["_law_i","_law_d","_law_word_here"] [none,some 9,some 10] (fQ rfl T.z_range (aa (aK cX (ar a_ rfl T.z_len PySem.boot_len (aa (pv 10) ab)) ag) ab)) ⟨⟨rfl,rfl,by first | exact .inl rfl | exact .inr rfl⟩,⟨⟨rfl,rfl,by first | exact .inl rfl | exact .inr rfl⟩,trivial⟩⟩ (fun _ _ _ _=>(aw (i:=0) (by decide+kernel:List.Nodup (["_law_i","_law_d","_law_word_here"]:List Str)) rfl (Or.inl rfl))) (fun _ _ _ _=>(mf (aB eQ (az ka (pv 2) (pv 0) (fun _ _=>rfl)) (ao ik (hr.mono (by decide)) rfl T.w5.mg T.w5.fn.kp T.w5.bd .nil aA (aa (az ka (pv 2) (aK bV (pv 0) ag) (fun _ _=>rfl)) ab)) (aM _)))) (fun _ _ _ _=>(bD (aa (pv 1) (aa (pv 0) ab))))) ab)))))
   (af (bC (PW.pt (i5 (aB tQ (pv 5) ag (aM _)) (jw (aB (kd K rfl hr) (pv 8) (bz ab) (aM _))))) (ah (aD (aK (CA K rfl) (bD (aa (dh [111,117,116] (by decide+kernel)) ab)) (az (ba K rfl) (pv 8) (ao bN (hr.mono (by decide)) rfl T.fE.mg T.fE.fn.kp T.fE.bd .nil aA (aa (pv 0) (aa (ar (ay K rfl) rfl T.z_len PySem.boot_len (aa (pv 8) ab)) ab))) (fun _ _=>rfl))))) aV)
   (af (bC (PW.pt (i5 (aB tQ (pv 5) ag (aM _)) (i5 (aB kE (ar (ay K rfl) rfl T.z_len PySem.boot_len (aa (pv 3) ab)) ag (aM _)) (i5 (aB gY (ar a_ rfl T.z_len PySem.boot_len (aa (az (ax K rfl) (pv 3) (pv 7) (fun _ _=>rfl)) ab)) ag (aM _)) (jw (aB gY (ar a_ rfl T.z_len PySem.boot_len (aa (aX K rfl PySem.F.plainAttrs_str PySem.F.slot_str_join PySem.F.type_str_join (CL K rfl) (dh [] (by decide+kernel)) (aa (pv 3) ab)) ab)) ag (aM _))))))) (af (au (i:=11) cK.nd rfl (Or.inr rfl) (az ka (pv 1) (ao bN (hr.mono (by decide)) rfl T.fE.mg T.fE.fn.kp T.fE.bd .nil aA (aa (pv 0) (aa (ar a_ rfl T.z_len PySem.boot_len (aa (pv 1) ab)) ab))) (fun _ _=>rfl)))
   (af (au (i:=12) cK.nd rfl (Or.inl rfl) (az (ba K rfl) (cY ["_law_j","_law_name","_law_x"] [none,none,some 11] (kU K rfl rfl T.z_enumerate (aa (pv 6) ab)) ⟨⟨rfl,rfl,by first | exact .inl rfl | exact .inr rfl⟩,trivial⟩ (fun _ _ _ _=>(bW (n:=2) K rfl rfl (aP (aw (i:=0) (by decide+kernel:List.Nodup (["_law_j","_law_name","_law_x"]:List Str)) rfl (Or.inl rfl)) (aP (aw (i:=1) (by decide+kernel:List.Nodup (["_law_j","_law_name","_law_x"]:List Str)) rfl (Or.inl rfl)) bU)))) (fun _ _ _ _=>(mf (aB (xr K rfl) (pv 2) (bD (aa (pv 1) (aa (ao ik (hr.mono (by decide)) rfl T.w5.mg T.w5.fn.kp T.w5.bd .nil aA (aa (pv 1) ab)) ab))) (by with_unfolding_all rfl)))) (fun _ _ _ _=>(pv 0))) ag (fun _ _=>rfl)))
   (ah (aD (bD (aa (dh [105,110] (by decide+kernel)) (aa (pv 7) (aa (ao bN (hr.mono (by decide)) rfl T.fE.mg T.fE.fn.kp T.fE.bd .nil aA (aa (pv 0) (aa (aK bV (ar a_ rfl T.z_len PySem.boot_len (aa (az (ax K rfl) (pv 3) (pv 7) (fun _ _=>rfl)) ab)) ag) ab))) (aa (pv 11) (aa (ao bN (hr.mono (by decide)) rfl T.fE.mg T.fE.fn.kp T.fE.bd .nil aA (aa (pv 0) (aa (aK bV (ar (ay K rfl) rfl T.z_len PySem.boot_len (aa (az (ax K rfl) (pv 4) (pv 12) (fun _ _=>rfl)) ab)) ag) ab))) ab)))))))))) aV)
   (af (kP (i:=13) ["_law_k","_law_orders"] [none,some 4] cK.nd rfl (Or.inl rfl) (fQ rfl T.z_range (aa (ar (ay K rfl) rfl T.z_len PySem.boot_len (aa (pv 6) ab)) ab)) ⟨⟨rfl,rfl,by first | exact .inl rfl | exact .inr rfl⟩,trivial⟩ (fun _ _ _ _=>(aw (i:=0) (by decide+kernel:List.Nodup (["_law_k","_law_orders"]:List Str)) rfl (Or.inl rfl))) (fun _ _ _ _=>(mf (aB kE (ar (ay K rfl) rfl T.z_len PySem.boot_len (aa (az (ax K rfl) (pv 1) (pv 0) (fun _ _=>rfl)) ab)) ag (aM _)))) (fun _ _ _ _=>(pv 0)))
   (af (bC (PW.pt (kC (PW.pt (i5 (aB tQ (pv 5) ag (aM _)) (jw (aB kE (ar (ay K rfl) rfl T.z_len PySem.boot_len (aa (pv 3) ab)) ag (aM _))))) (i4 (aB (Cv K rfl hr) (pv 13) (bz ab) (aM _))))) (ah (aD (bD (aa (dh [116,117,114,110] (by decide+kernel)) (aa (pv 7) ab))))) aV)
   (af (au (i:=12) cK.nd rfl (Or.inl rfl) (az (ba K rfl) (pv 13) (ao bN (hr.mono (by decide)) rfl T.fE.mg T.fE.fn.kp T.fE.bd .nil aA (aa (pv 0) (aa (ar (ay K rfl) rfl T.z_len PySem.boot_len (aa (pv 13) ab)) ab))) (fun _ _=>rfl)))
   (ah (aD (bD (aa (dh [115,119,97,112] (by decide+kernel)) (aa (az (ba K rfl) (pv 6) (pv 12) (fun _ _=>rfl)) (aa (ao bN (hr.mono (by decide)) rfl T.fE.mg T.fE.fn.kp T.fE.bd .nil aA (aa (pv 0) (aa (aK cX (ar (ay K rfl) rfl T.z_len PySem.boot_len (aa (az (ax K rfl) (pv 4) (pv 12) (fun _ _=>rfl)) ab)) ag) ab))) ab))))))))))))))))),?_⟩
 obtain ⟨b,y,dr,ws,os,rfl,hb,hy,UN,hz,hwn,hg,hd,q⟩:=h
 have hs:(100000:Nat)<sizeLine:=by decide
 obtain ⟨⟨wt,ot,d1,d2,d3⟩,dO⟩:=id hd
 have N2:=hg.g7
 have Cj:=hg.jm
 have Bd:=cZ hy
 have wY:os.length=(aC y).length:=by have:=hg.ln;rwa [List.length_map]at this
 have hw1:1<=ws.length:=by cases ws with | nil=>exact absurd rfl hwn | cons _ _=>simp
 refine ⟨_,rfl,dr,_,rfl,aW.of d1,rfl,_,_,rfl,_,_,rfl,rfl,?_⟩
 refine ⟨_,rfl,b,4,rfl,hb,by decide,by decide,fun fm H1 hfm Ga s1=>?_⟩
 refine ⟨_,rfl,y,rfl,by omega,fun nm l2 H2 n2 hnm tM Uv s2=>?_⟩
 rw[ph hy.lt]at tM
 have el:=fM tM Uv
 subst el
 have ke:=Ga.same s2
 have Gp:aF b H H2:=s1.after s2
 have ts2:aJ H H2:=aJ.box hb Gp
 refine ⟨_,rfl,_,rfl,wt,_,rfl, .inr (aW.of (ts2 _ _ d2)),_,_,rfl,?_⟩
 have Up:(if ((bw ws).length:Int)>1 then ((bw ws).length:Int) else 1)=((ws.length:Nat):Int):=by rw[aN];split<;>omega
 rw[Up]
 refine ⟨b,_,rfl,ke,by omega,by omega,fun c H3 hc qv s3=>?_⟩
 have wN:=Gp.trans s3
 have UO:nm≠b:=Ga.ne n2
 have Ln:=s3 _ _ hnm UO
 walk_at "wk"
 intro p4 n4
 have b4:p4≠b:=qv.ne n4
 have Lo:=(ai.upd (o:=HO.lst []) n4) _ _ Ln
 have Bz:=qv.same (ai.upd (o:=HO.lst []) n4)
 have La:=wN.after (ai.upd (o:=HO.lst []) n4)
 have nF:upd H3 p4 (HO.lst []) p4=some (HO.lst []):=ae
 have hpn:p4≠nm:=Ne.symm (ak Ln n4)
 have n40:H p4=none:=wN.none n4 b4
 generalize upd H3 p4 (HO.lst [])=H4 at Lo Bz La nF ⊢
 have UP:aJ H H4:=aJ.box hb La
 have Q0:=UP _ _ d2
 have d3':=UP _ _ d3
 refine ⟨_,rfl,wt,rfl,⟨_,aW.of Q0⟩,?_⟩
 refine eR (K:=K) (a:=wt) (xs:=bw ws) (fun j σ H'=> ∃(ps:List Pr) (dv wv:Option V),σ=[some (.ref b),some (.str (S y)),some (.ref dr),some (.ref wt),some (.ref ot),some (.int fm),some (.ref nm),some (.int c),some (.ref p4),dv,wv,none,none,none]/\H' p4=some (.lst (bS ps))/\(∀p∈ps,dF H' p/\G6 ws p)/\ps.length<=12*j/\aF p4 H4 H')
  ⟨[],none,none,rfl,nF,fun _ h=>absurd h List.not_mem_nil,Nat.zero_le _,aF.refl _ _⟩ (fun j σ H' _ ⟨_,_,_,_,_,_,_,s⟩=>aW.of (s _ _ Q0 (ak d2 n40))) ?_ ?_
 ·rintro j x σ H5 T FW ⟨ps,dv,wv,rfl,nX,iN,fJ,s5⟩ nT
  have hj:j<ws.length:=by
   have:=(List.getElem?_eq_some_iff.mp FW).1
   rwa [aN]at this
  rw[jj hj]at FW
  cases FW
  have uQ:ws[j]? =some ws[j]:=List.getElem?_eq_getElem hj
  obtain ⟨sV,uE⟩:=Cj _ (List.getElem_mem hj)
  generalize ws[j]=w at uQ sV uE ⊢
  have Lp:w.length<=sizeLine:=by omega
  refine ⟨T,_,rfl,aW.of ae,rfl,_,_,rfl,_,_,rfl,rfl,?_⟩
  have sT:=ai.upd (o:=HO.tup [.int j, .str (S w)]) nT
  have Lq:=sT _ _ nX
  generalize upd H5 T (HO.tup [.int j, .str (S w)])=H6 at sT Lq ⊢
  refine ⟨_,rfl, .inl ⟨rfl,_,aT.of Lq⟩,?_⟩
  refine ⟨_,rfl,w,rfl,Lp,_,_,rfl,rfl,_,rfl,by omega,by omega,?_⟩
  refine oN (fun m acc H'=>ai H6 H'/\ ∃vs:List Pr,acc=bS vs/\(∀p∈vs,dF H' p/\G6 ws p)/\vs.length<=m) (by omega) ⟨ai.refl _,[],rfl,fun _ h=>absurd h List.not_mem_nil,Nat.le_refl _⟩ ?_ ?_
  ·rintro m acc H7 Nx hm fI ⟨s7,vs,rfl,D8,Uy⟩ nx
   have JT:m+1<w.length:=by omega
   rw[Int.zero_add]
   have g0:rl w ((m:Nat):Int)=some w[m]:=aR (List.getElem?_eq_getElem (by omega))
   have g1:rl w ((m:Nat)+1:Int)=some w[m+1]:=by
    have:((m:Nat):Int)+1=((m+1:Nat):Int):=by omega
    rw[this];exact aR (List.getElem?_eq_getElem JT)
   have Tz:Lt w[m+1]:=hy.lt _ (sV _ (List.getElem_mem JT))
   refine ⟨⟨rfl,rfl,trivial⟩,?_⟩
   refine ⟨_,rfl,_,rfl,w,_,_,rfl,rfl,Lp,g0,_,rfl,_,rfl,_,_,rfl,rfl,w,_,_,rfl,rfl,Lp,g1,_,rfl,Tz,[w[m]],[bb w[m+1]],rfl,rfl,_,rfl,cB (fun z=>?_) (fun z=>?_)⟩
   ·have ez:w[m]=bb w[m+1]:=by simpa using of_decide_eq_true z
    refine ⟨_,rfl,_,rfl,by show 2<=sizeLine;decide,fun t nt=>?_⟩
    refine nx _ _ (by simpa using fI) ⟨s7.trans (ai.upd nt),vs++[⟨t,j,m⟩],g_ vs ⟨t,j,m⟩,fun p hp=>?_,by rw[List.length_append];show vs.length+1<=_;omega⟩
    rcases List.mem_append.mp hp with g | g
    ·exact ⟨(D8 p g).1.same (ai.upd nt),(D8 p g).2⟩
    ·have e2:=List.mem_singleton.mp g
     subst e2
     refine ⟨⟨ae,by show j<1000;omega,by show m<1000;omega⟩,hj,w[m],?_,?_⟩
     ·show (ws.getD j [])[m]? =_
      rw[bM uQ];exact List.getElem?_eq_getElem (by omega)
     ·show (ws.getD j [])[m+1]? =_
      rw[bM uQ,ez,bB Tz];exact List.getElem?_eq_getElem JT
   ·exact nx _ _ (Nat.le_succ_of_le fI) ⟨s7,vs,rfl,D8,by omega⟩
  ·rintro acc H7 D fI ⟨s7,vs,rfl,D8,Uy⟩ hD
   have DS:=s7 _ _ Lq
   refine ⟨p4,D,_,_,rfl,rfl,(ai.upd hD) _ _ DS,ae,by rw[aZ,aZ];omega,?_⟩
   rw[zi]
   have L9:ai H5 (upd H7 D (.lst (bS vs))):=(sT.trans s7).trans (ai.upd hD)
   have OC:=(ai.upd (o:= .lst (bS vs)) hD) _ _ DS
   refine ⟨ps++vs,_,_,rfl,ae,fun p hp=>?_,by rw[List.length_append];omega,fun a o ea na=>by rw[aq na];exact L9 _ _ (s5 a o ea na)⟩
   rcases List.mem_append.mp hp with g | g
   ·exact ⟨((iN p g).1.same L9).ts (aJ.fL OC),(iN p g).2⟩
   ·exact ⟨((D8 p g).1.same (ai.upd hD)).ts (aJ.fL OC),(D8 p g).2⟩
 ·rintro σ H5 ⟨ps,dv,wv,rfl,nX,iN,fJ,s5⟩
  rw[aN]at fJ
  have L_:aF b H H5:=fun a o ea na=>s5 _ _ (La a o ea na) (ak ea n40)
  have Rm:cb H5 b:=by obtain ⟨u,v,e⟩:=Bz;exact ⟨u,v,s5 _ _ e (Ne.symm b4)⟩
  have Rn:aJ H H5:=aJ.box hb L_
  have OD:=s5 _ _ Lo (Ne.symm hpn)
  have Kn:=Rn _ _ d2
  have Ko:=Rn _ _ d3
  have dO5: ∀o∈os,gp H5 o:=fun o ho=>(dO o ho).ts Rn
  clear s5 Lo Bz La nF UP Q0 d3' Ln hnm wN Gp ts2 ke s2 s3 qv Ga s1 n2 n4
  apply NL (H5:=H5)
  ·intro key
   refine ⟨_,rfl,_,_,rfl,rfl,_,rfl,cB (fun z=>?_) (fun z=>?_)⟩
   ·refine ⟨_,rfl,Nat.zero_le _,fun p6 n6=>?_⟩
    have ly:PyData.canLayAll0 ((ps.map Pr.pair).map pF)=true:=(jE (k:=0) fun p hp=>(iN p hp).1).ly
    have dp:(PyData.list ((ps.map Pr.pair).map pF)).depth<=60:=Nat.le_trans (Nat.succ_le_succ (jE (k:=0) fun p hp=>(iN p hp).1).dp) (by decide)
    have s6:=ai.upd (o:=HO.lst []) n6
    refine ⟨.list ((ps.map Pr.pair).map pF), .list [], .lst (aT.of (s6 _ _ nX)) (hJ fun p hp=>(iN p hp).1.same s6), .lst (aT.of ae) .nil,⟨ly,rfl⟩,dp,?_⟩
    refine ⟨_,rfl,?_⟩
    cases ps with
    | nil=>exact cO (by rfl) (key _ s6)
    | cons p0 pt=>
     refine gH (by rfl) ?_
     refine ⟨by show 1<=sizeLine;decide,fun t1 NV=>?_⟩
     have s7:=s6.trans (ai.upd (o:=HO.tup [V.str (S [111,117,116])]) NV)
     have yl:upd (upd H5 p6 (HO.lst [])) t1 (HO.tup [V.str (S [111,117,116])]) t1=some (HO.tup [V.str (S [111,117,116])]):=ae
     generalize upd (upd H5 p6 (HO.lst [])) t1 (HO.tup [V.str (S [111,117,116])])=H7 at s7 yl ⊢
     have DS:=s7 _ _ nX
     have sf:(bS (p0::pt)).length=pt.length+1:=by rw[aZ];rfl
     refine ⟨_,rfl,_,rfl,_,rfl,p4,_,rfl, .inl (aT.of DS),b,_,rfl,Rm.same s7,by rw[sf];omega,by rw[sf];simp at fJ;omega,fun r H8 hr hb8 s8=>?_⟩
     rw[sf]at hr
     have lT:r<(p0::pt).length:=by simp;omega
     have zO:(bS (p0::pt))[r]? =some (V.ref (p0::pt)[r].t):=by unfold bS;rw[List.getElem?_map,List.getElem?_eq_getElem lT];rfl
     have iD:=iN _ (List.getElem_mem lT)
     generalize (p0::pt)[r]=pr at zO iD
     refine ⟨p4,_,_,_,rfl,rfl,aT.of (s8 _ _ DS b4),aR zO,?_⟩
     have Ro:=aJ.box (Rm.same s7) s8
     refine ⟨t1,pr.t,_,_,rfl,rfl,aW.of (Ro _ _ yl),aW.of (Ro _ _ (s7 _ _ iD.1.tp)),by simp,by show 3<=sizeLine;decide,fun e=>absurd e (by simp),fun _ p np=>?_⟩
     exact q p (.out pr.c pr.i) _ ae iD.2 (((L_.after s7).trans s8).after (ai.upd np))
   ·exact Aj (key _ (ai.refl _))
  ·intro H6 s6
   have Rp:=L_.after s6
   have UQ:=Rm.same s6
   have Ep:=s6 _ _ Kn
   have Kp:=s6 _ _ Ko
   have dO6: ∀o∈os,gp H6 o:=fun o ho=>(dO5 o ho).same s6
   have OE:=s6 _ _ OD
   clear s6 L_ Rm Kn Ko dO5 OD nX iN fJ Rn
   have Ew:c<ws.length:=by omega
   have Rq:ws[c]? =some ws[c]:=List.getElem?_eq_getElem Ew
   obtain ⟨sV,uE⟩:=Cj _ (List.getElem_mem Ew)
   generalize ws[c]=w at Rq sV uE
   have Rr:(bw ws)[c]? =some (V.str (S w)):=by unfold bw;rw[List.getElem?_map,Rq];rfl
   have FT:(ws.map List.length).sum<=48:=by
    have: ∀l:List (List Nat),(∀w∈l,w.length<=12)->(l.map List.length).sum<=12*l.length:=fun l=>by
     induction l with
     | nil=>intro _;simp
     | cons a l ih=>intro h;rw[List.map_cons,List.sum_cons,List.length_cons];have:=ih fun w hw=>h w (List.mem_cons_of_mem _ hw);have:=h a List.mem_cons_self;omega
    have:=this ws fun w hw=>(Cj w hw).2
    omega
   apply NL (H5:=H6)
   ·intro key
    refine ⟨_,rfl,_,_,rfl,rfl,_,rfl,cB (fun z=>?_) (fun z=>?_)⟩
    rotate_left
    ·exact Aj (key _ (ai.refl _))
    refine ⟨_,rfl,wt,_,rfl, .inr (aW.of Ep),_,_,rfl,rfl,_,rfl,gH (decide_eq_true (by rw[aN];omega)) ?_⟩
    refine ⟨_,rfl,_,rfl,wt,_,_,_,rfl,rfl,aW.of Ep,aR Rr,w,rfl,by omega,_,_,rfl,rfl,_,rfl,cB (fun z2=>?_) (fun z2=>?_)⟩
    rotate_left
    ·exact Aj (key _ (ai.refl _))
    refine ⟨rfl,_,rfl,wt,ws,rfl,rfl,aW.of Ep,by omega,?_⟩
    refine ⟨_,rfl,by rw[List.length_flatten];omega,_,_,rfl,rfl,_,rfl,cB (fun z3=>?_) (fun z3=>?_)⟩
    rotate_left
    ·exact key _ (ai.refl _)
    have abl:w.length<11:=by have:=of_decide_eq_true z2;omega
    have LU:(100:Nat)<sizeLine:=by decide
    refine ⟨_,rfl,_,rfl,_,rfl,y,rfl,by omega,b,_,rfl,UQ,by omega,by omega,fun r H8 hr hb8 s8=>?_⟩
    have lT:r<y.length:=by omega
    refine ⟨y,_,_,rfl,rfl,by omega,aR (List.getElem?_eq_getElem lT),?_⟩
    have Bc:y[r]∈y:=List.getElem_mem lT
    generalize y[r]=x at Bc ⊢
    have OF:=s8 _ _ OE UO
    have Ro:=aJ.box UQ s8
    have GL:=rX hy Bc
    have hid:(aC y).idxOf (PyProof.Rows.lo1 x)<(aC y).length:=List.idxOf_lt_length_of_mem GL
    have zr:=v7 hy
    refine ⟨_,rfl,nm,rfl,⟨_,aT.of OF⟩,?_⟩
    refine xE (K:=K) (a:=nm) (xs:=cq (aC y)) (fun i acc H'=>ai H8 H'/\acc=if (aC y).idxOf (PyProof.Rows.lo1 x)<i then [V.int ((aC y).idxOf (PyProof.Rows.lo1 x):Nat)] else []) (by rw[aU];omega) (fun i acc H' h=>aT.of (h.1 _ _ OF)) ⟨ai.refl _,by simp⟩ ?_ ?_
    ·rintro i v acc H9 T Nx hv fI ⟨s9,rfl⟩ nT nx
     obtain ⟨nb,Lr,rfl⟩:=di hv
     have UR:=List.mem_of_getElem? Lr
     have OG:=lq hy UR
     have US:=lB zr Lr
     refine ⟨T,_,rfl,aW.of ae,rfl,_,_,rfl,_,_,rfl,rfl,?_⟩
     refine ⟨⟨rfl,trivial⟩,?_⟩
     refine ⟨_,rfl,_,rfl,_,rfl,nb,rfl, .inl OG,by show 2<=sizeLine;decide,fun t nt=>?_⟩
     refine ⟨t,_,rfl, .inr (aW.of ae),rfl,rfl,_,rfl,?_⟩
     have UT:=s9.trans ((ai.upd (o:=HO.tup [.int i, .str (S [nb])]) nT).trans (ai.upd (o:=HO.tup [.str (S [nb]), .str (S [bb nb])]) nt))
     generalize upd (upd H9 T (HO.tup [.int i, .str (S [nb])])) t (HO.tup [.str (S [nb]), .str (S [bb nb])])=L8 at UT ⊢
     show if EU (.str (S [x])) [.str (S [nb]), .str (S [bb nb])]=true then _ else _
     rw[yP]
     have LV:(decide (x=nb)||decide (x=bb nb))=decide (PyProof.Rows.lo1 x=nb):=(ui OG (hy.lt x Bc)).symm
     rw[LV]
     refine cB (fun v1=>?_) (fun v1=>?_)
     ·have e1:PyProof.Rows.lo1 x=nb:=of_decide_eq_true v1
      have UU:(aC y).idxOf (PyProof.Rows.lo1 x)=i:=by rw[e1];exact US
      refine ⟨_,rfl,nx _ _ (by simpa using fI) ⟨UT,?_⟩⟩
      rw[UU,if_neg (Nat.lt_irrefl _),if_pos (Nat.lt_succ_self _)]
      rfl
     ·have e1: ¬PyProof.Rows.lo1 x=nb:=fun g=>v1 (decide_eq_true g)
      refine nx _ _ (Nat.le_succ_of_le fI) ⟨UT,?_⟩
      have e2:(aC y).idxOf (PyProof.Rows.lo1 x)≠i:=fun g=>e1 (by
       have e3:=List.getElem_idxOf hid
       have e4:=(List.getElem?_eq_some_iff.mp Lr).2
       rw[<-e3, <-e4]
       congr 1)
      by_cases g:(aC y).idxOf (PyProof.Rows.lo1 x)<i
      ·rw[if_pos g,if_pos (by omega)]
      ·rw[if_neg g,if_neg (by omega)]
    ·rintro acc H9 D fI ⟨s9,rfl⟩ hD
     rw[aU,if_pos hid]
     refine ⟨D,_,_,_,rfl,rfl,aT.of ae,aR (j:=0) rfl,?_⟩
     have Rt:=s9.trans (ai.upd (o:=HO.lst [V.int ((aC y).idxOf (PyProof.Rows.lo1 x):Nat)]) hD)
     generalize upd H9 D (HO.lst [V.int ((aC y).idxOf (PyProof.Rows.lo1 x):Nat)])=L8 at Rt ⊢
     have OH:aJ H6 L8:=Ro.trans (aJ.of Rt)
     have BF:=hb8.same Rt
     have BU:(aC y).idxOf (PyProof.Rows.lo1 x)<os.length:=by omega
     have wH:os[(aC y).idxOf (PyProof.Rows.lo1 x)]? =some os[(aC y).idxOf (PyProof.Rows.lo1 x)]:=List.getElem?_eq_getElem BU
     have kr:=List.getElem_mem BU
     generalize os[(aC y).idxOf (PyProof.Rows.lo1 x)]=o at wH kr
     refine ⟨_,rfl,_,rfl,_,rfl,_,rfl,wt,_,_,_,rfl,rfl,aW.of (OH _ _ Ep),aR Rr,w,rfl,by omega,_,_,rfl,rfl,b,_,rfl,BF,by omega,by omega,fun r1 Rl hr1 Ls EC=>?_⟩
     have D_:=OH.trans (aJ.box BF EC)
     have ok:=(dO6 o kr).ts D_
     have hlen:=hg.len o kr
     refine ⟨_,rfl,_,rfl,_,rfl,_,rfl,ot,_,_,_,rfl,rfl,aW.of (D_ _ _ Kp),aR (ko wH),o.o,_,rfl, .inr (aW.of ok.tp),_,_,rfl,rfl,b,_,rfl,Ls,by omega,by rw[aZ];omega,fun r2 UI UW UX L6=>?_⟩
     rw[aZ]at UW
     refine ⟨by show 5<=sizeLine;decide,fun p np=>?_⟩
     refine q p (.ins c r1 x r2) _ ae ⟨Ew,?_,?_,Bc,?_⟩ (((((Rp.trans s8).after Rt).trans EC).trans L6).after (ai.upd np))
     ·rw[bM Rq];omega
     ·rw[bM Rq];omega
     ·rw[bM (show (os.map bj)[(aC y).idxOf (PyProof.Rows.lo1 x)]? =some (bj o) by rw[List.getElem?_map,wH];rfl)]
      unfold bj
      rw[List.length_map]
      omega
   ·intro H7 s7
    have OI:=s7 _ _ OE
    have Kq:=s7 _ _ Kp
    have hb7:=UQ.same s7
    have s07:=Rp.after s7
    have dO7: ∀o∈os,gp H7 o:=fun o ho=>(dO6 o ho).same s7
    have zr:=v7 hy
    have turn: ∀(H8:Hp) (p:Addr),aF b H H8->H8 p=none->Q (.ref p) (upd H8 p (.tup [V.str (S [116,117,114,110]),V.int (c:Nat)])):=fun H8 p s8 np=>q p (.turn c) _ ae Ew (s8.after (ai.upd np))
    refine ⟨_,rfl,nm,_,rfl, .inl (aT.of OI),_,rfl,?_⟩
    rw[aU]
    refine ⟨by omega,by omega,?_⟩
    refine oN (fun i acc H'=>H'=H7/\ ∃ks:List Nat,acc=C2 ks/\(∀k∈ks, ∃o,os[k]? =some o/\1<o.ps.length)/\ks.length<=i) (by omega) ⟨rfl,[],rfl,fun _ h=>absurd h List.not_mem_nil,Nat.le_refl _⟩ ?_ ?_
    ·rintro i acc H8 Nx hi fI ⟨rfl,ks,rfl,Ru,Ia⟩ nx
     have BU:i<os.length:=by omega
     have wH:os[i]? =some os[i]:=List.getElem?_eq_getElem BU
     have kr:=List.getElem_mem BU
     generalize os[i]=o at wH kr
     rw[Int.zero_add]
     refine ⟨⟨rfl,trivial⟩,?_⟩
     refine ⟨_,rfl,_,rfl,ot,_,_,_,rfl,rfl,aW.of Kq,aR (ko wH),o.o,_,rfl, .inr (aW.of (dO7 o kr).tp),_,_,rfl,rfl,_,rfl,cB (fun v=>?_) (fun v=>?_)⟩
     ·have v1:(1:Int)<((bS o.ps).length:Int):=of_decide_eq_true v
      rw[aZ]at v1
      refine ⟨_,rfl,nx _ _ (by simpa using fI) ⟨rfl,ks++[i],by unfold C2;rw[List.map_append];rfl,fun k hk=>?_,by rw[List.length_append];show ks.length+1<=_;omega⟩⟩
      rcases List.mem_append.mp hk with g | g
      ·exact Ru k g
      ·rw[List.mem_singleton.mp g];exact ⟨o,wH,by omega⟩
     ·exact nx _ _ (Nat.le_succ_of_le fI) ⟨rfl,ks,rfl,Ru,by omega⟩
    ·rintro acc H8 D fI ⟨rfl,ks,rfl,Ru,Ia⟩ hD
     have sD:=ai.upd (o:=HO.lst (C2 ks)) hD
     have EA:upd H8 D (HO.lst (C2 ks)) D=some (HO.lst (C2 ks)):=ae
     generalize upd H8 D (HO.lst (C2 ks))=H9 at sD EA ⊢
     have OJ:=s07.after sD
     have hb9:=hb7.same sD
     refine ⟨_,rfl,_,_,rfl,rfl,_,rfl,cB (fun z=>?_) (fun z=>?_)⟩
     ·refine ⟨_,rfl,wt,_,rfl, .inr (aW.of (sD _ _ (s7 _ _ Ep))),_,_,rfl,rfl,_,rfl,gH (decide_eq_true (by rw[aN];omega)) (gH rfl ?_)⟩
      exact ⟨_,rfl,by show 2<=sizeLine;decide,fun p np=>turn _ _ OJ np⟩
     ·refine Aj ⟨_,rfl,Nat.zero_le _,fun p6 n6=>?_⟩
      have s6:=ai.upd (o:=HO.lst []) n6
      refine ⟨.list (ids ks), .list [], .lst (aT.of (s6 _ _ EA)) (rQ ks), .lst (aT.of ae) .nil,⟨lay_ints ks,rfl⟩,by show PyData.depthAll (ids ks)+1<=60;rw[o6];decide,?_⟩
      have Lu:=s6 _ _ EA
      have Lv:=OJ.after s6
      have Lw:=sD.trans s6
      have BF:=hb9.same s6
      generalize upd H9 p6 (HO.lst [])=L8 at s6 Lu Lv Lw BF ⊢
      refine ⟨_,rfl,?_⟩
      cases ks with
      | nil=>exact gH (by rfl) ⟨_,rfl,by show 2<=sizeLine;decide,fun p np=>turn _ _ Lv np⟩
      | cons k0 kt=>
       refine cO (by rfl) ?_
       have sf:(C2 (k0::kt)).length=kt.length+1:=by unfold C2;simp
       refine ⟨_,rfl,_,rfl,_,rfl,D,_,rfl, .inl (aT.of Lu),b,_,rfl,BF,by rw[sf];omega,by rw[sf];simp at Ia;omega,fun r Rl hr Ls EC=>?_⟩
       rw[sf]at hr
       have lT:r<(k0::kt).length:=by simp;omega
       have zO:(C2 (k0::kt))[r]? =some (V.int ((k0::kt)[r]:Nat)):=by unfold C2;rw[List.getElem?_map,List.getElem?_eq_getElem lT];rfl
       obtain ⟨o,bu,I_⟩:=Ru _ (List.getElem_mem lT)
       generalize (k0::kt)[r]=k at zO bu
       have hDb:D≠b:=hb7.ne hD
       refine ⟨D,_,_,_,rfl,rfl,aT.of (EC _ _ Lu hDb),aR zO,?_⟩
       have Um:k<(aC y).length:=by have:=(List.getElem?_eq_some_iff.mp bu).1;omega
       have UY:(aC y)[k]? =some (aC y)[k]:=List.getElem?_eq_getElem Um
       have hkm:=List.getElem_mem Um
       generalize (aC y)[k]=nb at UY hkm
       have Qn:(cq (aC y))[k]? =some (V.str (S [nb])):=by unfold cq;rw[List.getElem?_map,UY];rfl
       have kr:=List.mem_of_getElem? bu
       have D_:=(aJ.of Lw).trans (aJ.box BF EC)
       have ok:=(dO7 o kr).ts D_
       have hlen:=hg.len o kr
       refine ⟨_,rfl,_,rfl,nm,_,_,_,rfl,rfl,aT.of (EC _ _ (Lw _ _ OI) UO),aR Qn,?_⟩
       refine ⟨_,rfl,_,rfl,_,rfl,ot,_,_,_,rfl,rfl,aW.of (D_ _ _ Kq),aR (ko bu),o.o,_,rfl, .inr (aW.of ok.tp),_,_,rfl,rfl,b,_,rfl,Ls,by rw[aZ];omega,by rw[aZ];omega,fun r2 UI UW UX L6=>?_⟩
       rw[aZ]at UW
       refine ⟨by show 3<=sizeLine;decide,fun p np=>?_⟩
       refine q p (.swap nb r2) _ ae ⟨hkm,?_⟩ (((Lv.trans EC).trans L6).after (ai.upd np))
       rw[lB zr UY,bM (show (os.map bj)[k]? =some (bj o) by rw[List.getElem?_map,bu];rfl)]
       unfold bj
       rw[List.length_map]
       omega
theorem q0:bE P w K mg base eI 2 Hl QB ["yard","drawing","end"] (jY K):=by
 have dQ:=ij (P:=P) (w:=w) (base:=base) T
 refine T.Kz.fn.ok j7 (fun vs H Q E h=>pE h) (fun cM A outer s H vs Q E hr h=>?_)
 refine ⟨_,(af (au (i:=3) j7.nd rfl (Or.inl rfl) (bh (cQ K rfl) rfl T.z_list boot_list (aa (az (ax K rfl) (az (ax K rfl) (pv 1) ag (fun _ _=>rfl)) (aX K rfl PySem.F.plainAttrs_str PySem.F.slot_str_index PySem.F.type_str_index mh (ao dQ (hr.mono (by decide)) rfl T.F2.mg T.F2.fn.kp T.F2.bd .nil aA (aa (pv 0) ab)) (aa (dN K rfl PySem.F.plainAttrs_str PySem.F.slot_str_lower PySem.F.type_str_lower gZ (pv 2)) ab)) (fun _ _=>rfl)) ab)))
   (af (bC (lW (dN K rfl PySem.F.plainAttrs_str PySem.F.slot_str_isupper PySem.F.type_str_isupper xn (pv 2))) (ah (aY (dN K rfl PySem.F.plainAttrs_list PySem.F.slot_list_reverse PySem.F.type_list_reverse xj (pv 3)))) aV)
   (ah (aD (pv 3))))),?_⟩
 obtain ⟨y,dr,ws,os,e,rfl,hy,hz,he,ho,hd,q⟩:=h
 have hs:(100000:Nat)<sizeLine:=by decide
 have L3: ∀c∈y,c<128:=zf hy.lt
 have he8:=L3 e he
 obtain ⟨⟨wt,ot,d1,d2,d3⟩,dO⟩:=hd
 obtain ⟨o,o1,o2,o3⟩:=lh hy he ho
 refine ⟨_,rfl,dr,_,1,_,rfl,rfl,aW.of d1,rfl,?_⟩
 refine ⟨_,rfl,y,rfl,L3,by omega,fun l' H1 uN Dg s1=>?_⟩
 have el:=fM uN Dg
 subst el
 refine ⟨rfl,_,rfl,rfl,e,rfl,rfl,he8,?_⟩
 refine ⟨aC y,_,rfl,rfl,rX hy he,?_⟩
 refine ⟨ot,_,_,_,rfl,rfl,aW.of (s1 _ _ d3),aR (ko o2),?_⟩
 refine ⟨o.o,_,rfl, .inr (aW.of (s1 _ _ (dO o o1).tp)),fun p1 n1=>?_⟩
 refine ⟨_,rfl,rfl,e,rfl,rfl,he8,_,rfl,cB (fun z=>?_) (fun z=>?_)⟩
 ·refine ⟨_,rfl, .inl ⟨rfl,_,aT.of ae⟩,p1,_,rfl,rfl,ae,?_⟩
  refine ⟨_,rfl,q p1 _ (ai.free s1 n1) ?_ ?_⟩
  ·rw[ae,FG]
   unfold rY
   rw[if_pos z,o3]
  ·exact fun a u ea=>by rw[aq (ak ea (ai.free s1 n1)),aq (ak ea (ai.free s1 n1))];exact s1 a u ea
 ·refine ⟨_,rfl,q p1 _ (ai.free s1 n1) ?_ (s1.trans (ai.upd n1))⟩
  rw[ae]
  unfold rY
  rw[if_neg z,o3]
theorem BG:bE P w K mg base eI 3 Hm QC ["yard","drawing"] (r0 K):=by
 have uM:=q0 (P:=P) (w:=w) (base:=base) T
 refine T.KA.fn.ok jL (fun vs H Q E h=>xU h) (fun cM A outer s H vs Q E hr h=>?_)
 refine ⟨_,(af (au (i:=2) jL.nd rfl (Or.inl rfl) (bz ab))
   (af (bp PassesOwn.never rfl (mi (pv 0)) (aw (i:=3) jL.nd rfl (Or.inl rfl)) (ah (bp PassesOwn.never rfl (eB K rfl (ao uM (hr.mono (by decide)) rfl T.Kz.mg T.Kz.fn.kp T.Kz.bd .nil aA (aa (pv 0) (aa (pv 1) (aa (pv 3) ab))))) (aw (i:=4) jL.nd rfl (Or.inl rfl)) (ah (aY (aX K rfl PySem.F.plainAttrs_list PySem.F.slot_list_append PySem.F.type_list_append bf (pv 2) (aa (bD (aa (az (ax K rfl) (pv 4) ag (fun _ _=>rfl)) (aa (az (ax K rfl) (pv 4) ag (fun _ _=>rfl)) (aa (pv 3) ab)))) ab)))))))
   (ah (aD (pv 2))))),?_⟩
 obtain ⟨y,dr,ws,os,rfl,hy,hz,ho,hd,q⟩:=h
 have hs:(100000:Nat)<sizeLine:=by decide
 walk_at "wk"
 intro p1 n1
 refine ⟨_,rfl,y,rfl,?_⟩
 refine nN (xs:=cq y) (fun i σ H'=> ∃(ps:List Pt) (ev sv:Option V),σ=[some (.str (S y)),some (.ref dr),some (.ref p1),ev,sv]/\H' p1=some (.lst (Em ps))/\(∀p∈ps,qJ H' p/\p.t≠p1)/\ps.map Pt.is=(y.take i).flatMap (pA y os)/\ps.length<=100*i/\aF p1 H H') ⟨[],none,none,rfl,ae,fun _ h=>absurd h List.not_mem_nil,rfl,Nat.zero_le _,aF.of (ai.upd n1)⟩ ?_ ?_
 ·rintro i x σ H1 hx ⟨ps,ev,sv,rfl,hp,iN,gE,fJ,s1⟩
  obtain ⟨e,he,rfl⟩:=di hx
  have Kj:=List.mem_of_getElem? he
  have hi:i<y.length:=(List.getElem?_eq_some_iff.mp he).1
  have Gk:ai H H1:=fun a u ea=>s1 a u ea (ak ea n1)
  refine ⟨_,rfl,_,rfl,_,rfl,y,dr,ws,os,e,rfl,hy,hz,Kj,ho,hd.same Gk,fun p2 H2 n2 iY s2=>?_⟩
  have LU:=FI (H:=H) hy Kj ho hd.od
  refine ⟨p2,rfl,⟨_,aT.of iY⟩,?_⟩
  have h12:p2≠p1:=fun z=>by rw[z,hp]at n2;cases n2
  refine f_ (K:=K) (a:=p2) (xs:=bS (rY y os e)) (fun j σ H'=> ∃(us:List Pt) (sv:Option V),σ=[some (.str (S y)),some (.ref dr),some (.ref p1),some (.str (S [e])),sv]/\H' p1=some (.lst (Em us))/\H' p2=some (.lst (bS (rY y os e)))/\(∀p∈us,qJ H' p/\p.t≠p1)/\us.map Pt.is=ps.map Pt.is++((rY y os e).take j).map (fun p=>(p.c,p.i,e))/\us.length<=100*i+j/\aF p1 H1 H')
   ⟨ps,sv,rfl,s2 _ _ hp,iY,fun p uP=>⟨(iN p uP).1.same s2,(iN p uP).2⟩,by simp,by omega,aF.of s2⟩ (fun j σ H' _ ⟨_,_,_,_,h,_⟩=>aT.of h) ?_ ?_
  ·rintro j x σ H3 UZ ⟨us,sv3,rfl,nW,OK,OL,ni,zK,s3⟩
   obtain ⟨p,K3,rfl⟩:=pj UZ
   obtain ⟨o,oo,po⟩:=FH hy Kj ho (List.mem_of_getElem? K3)
   have hj:j<(rY y os e).length:=(List.getElem?_eq_some_iff.mp K3).1
   have wN:ai H H3:=fun a u ea=>s3 a u (Gk a u ea) (ak ea n1)
   have pk:=(hd.od o oo).pr p po
   have tp:=wN _ _ pk.tp
   refine ⟨_,rfl, .inl ⟨rfl,_,aT.of nW⟩,?_⟩
   refine ⟨_,rfl,p.t,_,0,_,rfl,rfl,aW.of tp,rfl,_,rfl,p.t,_,1,_,rfl,rfl,aW.of tp,rfl,?_⟩
   walk_at "wk"
   intro t nt
   have yl:t≠p1:=fun z=>by rw[z,nW]at nt;cases nt
   refine ⟨p1,_,_,rfl,rfl,(ai.upd nt) _ _ nW,by rw[zj];omega,?_⟩
   refine ⟨us++[⟨t,p.c,p.i,e⟩],_,rfl,by rw[ae];exact congrArg (fun x=>some (HO.lst x)) (Dc us ⟨t,p.c,p.i,e⟩),by rw[aq h12];exact (ai.upd nt) _ _ OK,fun r hr=>?_,?_,by rw[List.length_append];show us.length+1<=_;omega,fun a u ea z=>by rw[aq z];exact (ai.upd nt) _ _ (s3 a u ea z)⟩
   ·rcases List.mem_append.mp hr with z | z
    ·exact ⟨((OL r z).1.same (ai.upd nt)).upd (OL r z).2,(OL r z).2⟩
    ·have e2:=List.mem_singleton.mp z
     subst e2
     exact ⟨qJ.upd ⟨ae,pk.cz,pk.iz,(hy.lt e Kj).lt⟩ yl,yl⟩
   ·rw[List.map_append,ni, <-take_snoc K3,List.map_append,List.append_assoc]
    rfl
  ·rintro σ H3 ⟨us,sv3,rfl,nW,OK,OL,ni,zK,s3⟩
   rw[aZ]at zK ni
   refine ⟨us,_,_,rfl,nW,OL,?_,by omega,fun a u ea z=>s3 a u (s1 a u ea z) z⟩
   rw[ni,gE, <-take_snoc he,List.flatMap_append,List.take_length,List.flatMap_cons,List.flatMap_nil,List.append_nil]
   rfl
 ·rintro σ H1 ⟨ps,ev,sv,rfl,hp,iN,gE,fJ,s1⟩
  rw[aU]at fJ gE
  rw[List.take_length]at gE
  exact ⟨_,rfl,q p1 ps H1 n1 hp iN gE (by omega) (fun a u ea=>s1 a u ea (ak ea n1))⟩
theorem mR:bE P w K mg base eI 2 Hn QD ["word","cord","place"] (hV K):=by
 have bJ:=dc (P:=P) (w:=w) (base:=base) T
 refine T.KC.fn.ok ie (fun vs H Q E h=>lL h) (fun cM A outer s H vs Q E hr h=>?_)
 refine ⟨_,(af (au (i:=3) ie.nd rfl (Or.inl rfl) (aK gP (aK cX (pv 2) ag) (ar a_ rfl T.z_len PySem.boot_len (aa (pv 0) ab))))
   (ah (aD (bD (aa (bD (aa (pv 1) (aa (pv 3) (aa (ao bJ (hr.mono (by decide)) rfl T.F0.mg T.F0.fn.kp T.F0.bd .nil aA (aa (az ka (pv 0) (pv 3) (fun _ _=>rfl)) ab)) ab)))) (aa (bD (aa (pv 1) (aa (pv 2) (aa (az ka (pv 0) (pv 2) (fun _ _=>rfl)) ab)))) ab)))))),?_⟩
 obtain ⟨w,c,i,rfl,U0,hi,hz,q⟩:=h
 have hs:(100000:Nat)<sizeLine:=by decide
 have hp:(0:Int)<(w.length:Int):=by omega
 have Nu:=FO hi
 have fJ:=DB hi
 have e1:w.getD (zH w.length i) 0=w[zH w.length i]:=by rw[List.getD_eq_getElem?_getD,List.getElem?_eq_getElem fJ];rfl
 have e2:w.getD i 0=w[i]:=by rw[List.getD_eq_getElem?_getD,List.getElem?_eq_getElem hi];rfl
 rw[e1,e2]at q
 refine ⟨_,rfl,_,_,rfl,rfl,_,rfl,w,rfl,by omega,_,_,rfl,rfl,hp,?_⟩
 show uY 3 (V.int (((i:Int) - 1)%(w.length:Int))) _ _ _
 rw[Nu]
 refine ⟨_,rfl,_,rfl,_,rfl,_,rfl,w,_,_,rfl,rfl,by omega,aR (List.getElem?_eq_getElem fJ),_,rfl,U0 _ (List.getElem_mem fJ),by show 3<=sizeLine;decide,fun t1 n1=>?_⟩
 refine ⟨_,rfl,_,rfl,_,rfl,_,rfl,w,_,_,rfl,rfl,by omega,aR (List.getElem?_eq_getElem hi),by show 3<=sizeLine;decide,fun t2 n2=>?_⟩
 refine ⟨by show 2<=sizeLine;decide,fun t nt=>?_⟩
 have U1:=(ai.upd (o:= .tup [.ref t1, .ref t2]) nt)
 refine q t t1 t2 _ ae (U1 _ _ ((ai.upd n2) _ _ ae)) (U1 _ _ ae) ((ai.upd n1).trans ((ai.upd n2).trans U1))
theorem yt:bE P w K mg base eI 4 Ho Kn ["yard","drawing"] (p_ K):=by
 have Ea:=BG (P:=P) (w:=w) (base:=base) T
 have nL:=mR (P:=P) (w:=w) (base:=base) T
 refine T.KD.fn.ok cL (fun vs H Q E h=>wq h) (fun cM A outer s H vs Q E hr h=>?_)
 refine ⟨_,(af (au (i:=2) cL.nd rfl (Or.inl rfl) CG)
   (af (bp PassesOwn.never rfl (kU K rfl rfl T.z_enumerate (aa (ao Ea (hr.mono (by decide)) rfl T.KA.mg T.KA.fn.kp T.KA.bd .nil aA (aa (pv 0) (aa (pv 1) ab))) ab)) (bW (n:=2) K rfl rfl (aP (aw (i:=3) cL.nd rfl (Or.inl rfl)) (aP (aw (i:=4) cL.nd rfl (Or.inl rfl)) bU))) (ah (nQ (gc hr) (pv 2) (pv 4) (pv 3) rfl)))
   (af (au (i:=5) cL.nd rfl (Or.inl rfl) (bz ab))
   (af (bp PassesOwn.never rfl (gf K rfl rfl T.z_enumerate (aa (az (ax K rfl) (pv 1) ag (fun _ _=>rfl)) ab)) (bW (n:=2) K rfl rfl (aP (aw (i:=6) cL.nd rfl (Or.inl rfl)) (aP (aw (i:=7) cL.nd rfl (Or.inl rfl)) bU))) (ah (bp PassesOwn.never rfl (fQ rfl T.z_range (aa (ar a_ rfl T.z_len PySem.boot_len (aa (pv 7) ab)) ab)) (aw (i:=8) cL.nd rfl (Or.inl rfl)) (af (au (i:=9) cL.nd rfl (Or.inl rfl) (ao nL (hr.mono (by decide)) rfl T.KC.mg T.KC.fn.kp T.KC.bd .nil aA (aa (pv 7) (aa (pv 6) (aa (pv 8) ab)))))
   (ah (aY (aX K rfl PySem.F.plainAttrs_list PySem.F.slot_list_append PySem.F.type_list_append bf (pv 5) (aa (bD (aa (pv 6) (aa (pv 8) (aa (fh (gc hr) (pv 2) (az (ax K rfl) (pv 9) ag (fun _ _=>rfl)) (fun _ _=>rfl)) (aa (fh (gc hr) (pv 2) (az (ax K rfl) (pv 9) ag (fun _ _=>rfl)) (fun _ _=>rfl)) ab))))) ab))))))))
   (ah (aD (pv 5))))))),?_⟩
 obtain ⟨y,dr,ws,os,rfl,hy,hz,ql,yh,hd,q⟩:=h
 have hs:(100000:Nat)<sizeLine:=by decide
 have zr:=Ki hy yh
 have Bd:=cZ hy
 have wY:=yh.1
 have N2:=ql.g7
 obtain ⟨⟨wt,ot,d1,d2,d3⟩,dO⟩:=id hd
 walk_at "wk"
 intro d nd
 refine ⟨_,rfl,_,rfl,y,dr,ws,os,rfl,hy,hz,by omega,hd.same (ai.upd nd),fun p1 ps H1 n1 fi iN gE hpz s1=>?_⟩
 have N7:=s1 _ _ (ae (H:=H) (a:=d) (o:=HO.dT []))
 have Gk:ai H H1:=(ai.upd nd).trans s1
 have fJ:ps.length=(qK y os).length:=by rw[<-gE,List.length_map]
 refine ⟨p1,rfl,⟨_,aT.of fi⟩,?_⟩
 have h1d:p1≠d:=fun z=>by rw[z,ae]at n1;cases n1
 refine mj (K:=K) (a:=p1) (xs:=Em ps) (fun i σ H'=> ∃(kvs:List (List Key×V)) (nv pv:Option V),σ=[some (.str (S y)),some (.ref dr),some (.ref d),nv,pv,none,none,none,none,none]/\H' d=some (.dT kvs)/\Nums (qK y os) kvs i/\kvs.length<=i/\aF d H1 H')
  ⟨[],none,none,rfl,N7,fun p hp=>absurd hp (by simp),Nat.zero_le _,aF.refl _ _⟩ (fun i σ H' _ ⟨_,_,_,_,_,_,_,h⟩=>aT.of (h _ _ fi h1d)) ?_ ?_
 ·rintro i x σ H2 T hx ⟨kvs,nv,pv,rfl,hd2,Gq,Ia,s2⟩ nT
  obtain ⟨p,hp,rfl⟩: ∃p,ps[i]? =some p/\x=V.ref p.t:=by
   unfold Em at hx
   rw[List.getElem?_map]at hx
   cases e:ps[i]? with
   | none=>rw[e]at hx;cases hx
   | some p=>rw[e]at hx;cases hx;exact ⟨p,rfl,rfl⟩
  have hi:i<ps.length:=(List.getElem?_eq_some_iff.mp hp).1
  have pk:=(iN p (List.mem_of_getElem? hp)).1.tp
  have hpd:p.t≠d:=fun z=>by rw[z,N7]at pk;cases pk
  have hTd:d≠T:=ak hd2 nT
  refine ⟨T,_,rfl,aW.of ae,rfl,_,_,rfl,_,_,rfl,rfl,?_⟩
  refine ⟨_,rfl,_,rfl,_,rfl,d,_,rfl,qF.t (k:=qO p.is) (by rw[aq hTd];exact hd2) ((ai.upd nT) _ _ (s2 _ _ pk hpd)) (by omega),?_⟩
  exact ⟨_,_,_,rfl,ae,Gq.put zr (NP gE hp),Nat.le_trans (jh _ _ _) (by omega),fun a o ea z=>by rw[aq z];exact (ai.upd nT) _ _ (s2 a o ea z)⟩
 ·rintro σ H2 ⟨kvs,nv,pv,rfl,hd2,Gq,Ia,s2⟩
  rw[zj,fJ]at Gq
  have Ik: ∀p∈qK y os,cV kvs (qO p)=some (.int ((qK y os).idxOf p:Nat)):=fun p hp=>Gq p (by rw[List.take_length];exact hp)
  have Gp:ai H H2:=fun a o ea=>s2 a o (Gk a o ea) (ak ea nd)
  walk_at "wk"
  intro p2 n2
  have U2:=ai.upd (o:= .lst []) n2
  have Uw:H p2=none:=ai.free Gp n2
  refine ⟨_,rfl,dr,_,0,_,rfl,rfl,aW.of (U2 _ _ (Gp _ _ d1)),rfl,?_⟩
  refine ⟨wt,rfl,⟨_,aW.of (U2 _ _ (Gp _ _ d2))⟩,?_⟩
  refine eR (K:=K) (a:=wt) (xs:=bw ws) (fun j σ H'=> ∃(qs:List Q4) (cv wv iv av:Option V),σ=[some (.str (S y)),some (.ref dr),some (.ref d),nv,pv,some (.ref p2),cv,wv,iv,av]/\H' p2=some (.lst (pZ qs))/\(∀x∈qs,lK H' x)/\qs.map Q4.v=gL (qK y os) ws j/\qs.length<=12*j/\ai H2 H')
   ⟨[],none,none,none,none,rfl,ae,fun _ h=>absurd h List.not_mem_nil,rfl,Nat.zero_le _,U2⟩ (fun j σ H' _ ⟨_,_,_,_,_,_,_,_,_,_,h⟩=>aW.of (h _ _ (Gp _ _ d2))) ?_ ?_
  ·rintro j x σ H3 T hx ⟨qs,cv,wv,iv,av,rfl,nW,BE,Gr,U3,s3⟩ nT
   have hj:j<ws.length:=by
    have:=(List.getElem?_eq_some_iff.mp hx).1
    rwa [aN]at this
   rw[jj hj]at hx
   cases hx
   have uQ:ws[j]? =some ws[j]:=List.getElem?_eq_getElem hj
   obtain ⟨sV,uE⟩:=ql.all _ (List.getElem_mem hj)
   generalize ws[j]=w at uQ sV uE ⊢
   have U0: ∀l∈w,l<128:=fun l hl=>(hy.lt l (sV l hl)).lt
   have sT:=ai.upd (o:= .tup [.int j, .str (S w)]) nT
   refine ⟨T,_,rfl,aW.of ae,rfl,_,_,rfl,_,_,rfl,rfl,?_⟩
   refine ⟨_,rfl,w,rfl,by omega,_,rfl,by omega,by omega,?_⟩
   rw[Int.toNat_natCast]
   refine gX (fun i σ H'=> ∃(us:List Q4) (iv av:Option V),σ=[some (.str (S y)),some (.ref dr),some (.ref d),nv,pv,some (.ref p2),some (.int j),some (.str (S w)),iv,av]/\H' p2=some (.lst (pZ us))/\(∀x∈us,lK H' x)/\us.map Q4.v=gL (qK y os) ws j++kx (qK y os) j w i/\us.length<=12*j+i/\ai H2 H')
    ⟨qs,iv,av,rfl,sT _ _ nW,fun x hx=>(BE x hx).ts (aJ.of sT),by rw[Gr];show _=_++[];rw[List.append_nil],by omega,s3.trans sT⟩ ?_ ?_
   ·rintro i σ H4 hi ⟨us,iv4,av4,rfl,nF,oA,ni,zK,s4⟩
    have e1:w[zH w.length i]? =some (w.getD (zH w.length i) 0):=by rw[List.getD_eq_getElem?_getD,List.getElem?_eq_getElem (DB hi)];rfl
    have e2:w[i]? =some (w.getD i 0):=by rw[List.getD_eq_getElem?_getD,List.getElem?_eq_getElem hi];rfl
    have m1:=Ik _ (G8 hy yh uQ e1 (sV _ (List.mem_of_getElem? e1)) (.inr rfl))
    have m2:=Ik _ (G8 hy yh uQ e2 (sV _ (List.mem_of_getElem? e2)) (.inl rfl))
    refine ⟨_,rfl,_,rfl,_,rfl,w,j,i,by rw[Int.zero_add];rfl,U0,hi,by omega,fun t t1 t2 H5 ht yl Ex s5=>?_⟩
    have nX:=s5 _ _ nF
    have zL:=s5 _ _ (s4 _ _ hd2)
    refine ⟨_,rfl, .inl ⟨rfl,_,aT.of nX⟩,_,rfl,_,rfl,?_⟩
    refine ⟨_,rfl,_,rfl,t,_,0,_,rfl,rfl,aW.of ht,rfl,d,_,rfl,by rw[<-m1];exact gG.t zL yl,?_⟩
    refine ⟨_,rfl,_,rfl,t,_,1,_,rfl,rfl,aW.of ht,rfl,d,_,rfl,by rw[<-m2];exact gG.t zL Ex,?_⟩
    rw[Int.zero_add]
    refine ⟨by show 4<=sizeLine;decide,fun tq ntq=>?_⟩
    have s6:=s5.trans (ai.upd (o:= .tup [.int j, .int i, .int ((qK y os).idxOf (j,zH w.length i,bb (w.getD (zH w.length i) 0)):Nat), .int ((qK y os).idxOf (j,i,w.getD i 0):Nat)]) ntq)
    have qT:=s6 _ _ nF
    refine ⟨p2,_,_,rfl,rfl,qT,by rw[lJ];omega,?_⟩
    refine ⟨us++[⟨tq,zI (qK y os) j w i⟩],_,_,rfl,by rw[ae];exact congrArg (fun x=>some (HO.lst x)) (wm us ⟨tq,zI (qK y os) j w i⟩),fun x hx=>?_,by rw[List.map_append,ni,we,List.append_assoc];rfl,by rw[List.length_append];show us.length+1<=_;omega,fun a o ea=>by rw[aq (ak ea n2)];exact s6 _ _ (s4 a o ea)⟩
    rcases List.mem_append.mp hx with g | g
    ·exact (oA x g).ts ((aJ.of s6).trans (aJ.fL qT))
    ·have e3:=List.mem_singleton.mp g
     subst e3
     exact (aJ.fL qT) _ _ ae
   ·rintro σ H4 ⟨us,iv4,av4,rfl,nF,oA,ni,zK,s4⟩
    exact ⟨us,_,_,_,_,rfl,nF,oA,by rw[ni,lH uQ],by omega,s4⟩
  ·rintro σ H3 ⟨qs,cv,wv,iv,av,rfl,nW,BE,Gr,U3,s3⟩
   rw[aN]at Gr
   exact ⟨_,rfl,q p2 qs H3 Uw nW BE Gr (Gp.trans s3)⟩
theorem wQ:bE P w K mg base eI 5 Hr QE ["yard","drawing"] (m_ K):=by
 have BH:=yt (P:=P) (w:=w) (base:=base) T
 have qq:=nI (P:=P) (w:=w) (base:=base) T
 refine T.Er.fn.ok ef (fun vs H Q E h=>uA h) (fun cM A outer s H vs Q E hr h=>?_)
 refine ⟨_,(af (au (i:=2) ef.nd rfl (Or.inl rfl) (bz ab))
   (af (au (i:=3) ef.nd rfl (Or.inl rfl) (ao BH (hr.mono (by decide)) rfl T.KD.mg T.KD.fn.kp T.KD.bd .nil aA (aa (pv 0) (aa (pv 1) ab))))
   (af (bp PassesOwn.never rfl (kU K rfl rfl T.z_enumerate (aa (pv 3) ab)) (bW (n:=2) K rfl rfl (aP (aw (i:=4) ef.nd rfl (Or.inl rfl)) (aP (aw (i:=5) ef.nd rfl (Or.inl rfl)) bU))) (ah (bp PassesOwn.never rfl (eB K rfl (bF (jd K rfl) (pv 3) (bK (aK bV (pv 4) ag)) cg)) (aw (i:=6) ef.nd rfl (Or.inl rfl)) (ah (bC (lW (ao qq (hr.mono (by decide)) rfl T.KG.mg T.KG.fn.kp T.KG.bd .nil aA (aa (pv 5) (aa (pv 6) ab)))) (ah (aY (aX K rfl PySem.F.plainAttrs_list PySem.F.slot_list_append PySem.F.type_list_append bf (pv 2) (aa (bD (aa (az (ax K rfl) (pv 5) ag (fun _ _=>rfl)) (aa (az (ax K rfl) (pv 5) ag (fun _ _=>rfl)) (aa (az (ax K rfl) (pv 6) ag (fun _ _=>rfl)) (aa (az (ax K rfl) (pv 6) ag (fun _ _=>rfl)) ab))))) ab)))) aV)))))
   (ah (aD (pv 2)))))),?_⟩
 obtain ⟨y,dr,ws,os,rfl,hy,hz,ql,yh,hd,q⟩:=h
 have hs:(100000:Nat)<sizeLine:=by decide
 have kA:=sq (os:=os) ql
 walk_at "wk"
 intro p1 n1
 refine ⟨_,rfl,_,rfl,y,dr,ws,os,rfl,hy,hz,ql,yh,hd.same (ai.upd n1),fun p2 cs H1 n2 iY hcs Fh s1=>?_⟩
 have fi:=s1 _ _ (ae (H:=H) (a:=p1) (o:=HO.lst []))
 have Gk:ai H H1:=(ai.upd n1).trans s1
 have h21:p2≠p1:=fun z=>by rw[z,ae]at n2;cases n2
 have hlen:cs.length=(dM y ws os).length:=by rw[<-Fh,List.length_map]
 refine ⟨_,rfl,p2,rfl,⟨_,aT.of iY⟩,?_⟩
 refine mj (K:=K) (a:=p2) (xs:=pZ cs) (fun k σ H'=> ∃(qs:List Q4) (nv ov rv:Option V),σ=[some (.str (S y)),some (.ref dr),some (.ref p1),some (.ref p2),nv,ov,rv]/\H' p1=some (.lst (pZ qs))/\(∀x∈qs,lK H' x)/\qs.map Q4.v=iE (dM y ws os) k/\qs.length<=48*k/\aF p1 H1 H')
  ⟨[],none,none,none,rfl,fi,fun _ h=>absurd h List.not_mem_nil,rfl,Nat.zero_le _,aF.refl _ _⟩ (fun k σ H' _ ⟨_,_,_,_,_,_,_,_,_,h⟩=>aT.of (h _ _ iY h21)) ?_ ?_
 ·rintro k x σ H2 T hx ⟨qs,nv,ov,rv,rfl,hp,BE,Gr,U3,s2⟩ nT
  obtain ⟨a,ha,rfl⟩:=DC hx
  have hk:k<cs.length:=(List.getElem?_eq_some_iff.mp ha).1
  have ham:=List.mem_of_getElem? ha
  have hak:(dM y ws os)[k]? =some a.v:=by rw[<-Fh,List.getElem?_map,ha];rfl
  have ta:=hcs a ham
  have U4:a.t≠p1:=fun z=>by have h9:H1 a.t=_:=ta;rw[z,fi]at h9;cases h9
  have sT:=ai.upd (o:= .tup [.int k, .ref a.t]) nT
  have Ov:=sT _ _ hp
  refine ⟨T,_,rfl,aW.of ae,rfl,_,_,rfl,_,_,rfl,rfl,?_⟩
  have U5:=sT _ _ (s2 _ _ iY h21)
  refine ⟨_,rfl,_,rfl,_,_,rfl,rfl,_,rfl,p2,_,rfl,aT.of U5,fun p3 n3=>?_⟩
  have ek:((k:Int)+1)=((k+1:Nat):Int):=by omega
  have Rr:qy (pZ cs) (some ((k:Int)+1)) none=pZ (cs.drop (k+1)):=by
   rw[ek]
   show cut (pZ cs) (some ((k+1:Nat):Int)) none=_
   rw[cE]
   unfold pZ
   rw[List.map_drop]
  rw[Rr]
  have hrs:(cs.drop (k+1)).map Q4.v=(dM y ws os).drop (k+1):=by rw[List.map_drop,Fh]
  have s3:=sT.trans (ai.upd (o:= .lst (pZ (cs.drop (k+1)))) n3)
  have nW:=s3 _ _ hp
  have Rh:H2 p3=none:=ai.free sT n3
  have h31:p3≠p1:=fun z=>by rw[z,Ov]at n3;cases n3
  refine ⟨p3,rfl,⟨_,aT.of ae⟩,?_⟩
  refine f_ (K:=K) (a:=p3) (xs:=pZ (cs.drop (k+1))) (fun j σ H'=> ∃(us:List Q4) (rv:Option V),σ=[some (.str (S y)),some (.ref dr),some (.ref p1),some (.ref p2),some (.int k),some (.ref a.t),rv]/\H' p1=some (.lst (pZ us))/\H' p3=some (.lst (pZ (cs.drop (k+1))))/\(∀x∈us,lK H' x)/\us.map Q4.v=iE (dM y ws os) k++fP a.v (((dM y ws os).drop (k+1)).take j)/\us.length<=48*k+j/\aF p1 H1 H')
   ⟨qs,rv,rfl,nW,ae,fun x hx=>(BE x hx).ts (aJ.of s3),by rw[Gr];show _=_++[];rw[List.append_nil],by omega,s2.after s3⟩ (fun j σ H' _ ⟨_,_,_,_,h,_⟩=>aT.of h) ?_ ?_
  ·rintro j x σ H3 UZ ⟨us,rv3,rfl,nF,Lx,oA,ni,zK,s4⟩
   obtain ⟨b,hb,rfl⟩:=DC UZ
   have hj:j<(cs.drop (k+1)).length:=(List.getElem?_eq_some_iff.mp hb).1
   rw[List.length_drop]at hj
   have Tf:=List.mem_of_mem_drop (List.mem_of_getElem? hb)
   have hbk:((dM y ws os).drop (k+1))[j]? =some b.v:=by rw[<-hrs,List.getElem?_map,hb];rfl
   have tb:=hcs b Tf
   have U6:b.t≠p1:=fun z=>by have h9:H1 b.t=_:=tb;rw[z,fi]at h9;cases h9
   have U7:lK H3 a:=s4 _ _ ta U4
   have U8:lK H3 b:=s4 _ _ tb U6
   have er:=uw (x:=a.v) hbk
   refine ⟨_,rfl,_,rfl,a,b,rfl,U7,U8,_,rfl,cB (fun z=>?_) (fun z=>?_)⟩
   ·rw[if_pos z]at er
    refine ⟨_,rfl, .inl ⟨rfl,_,aT.of nF⟩,?_⟩
    refine ⟨_,rfl,a.t,_,0,_,rfl,rfl,aW.of U7,rfl,_,rfl,a.t,_,1,_,rfl,rfl,aW.of U7,rfl,_,rfl,b.t,_,0,_,rfl,rfl,aW.of U8,rfl,_,rfl,b.t,_,1,_,rfl,rfl,aW.of U8,rfl,?_⟩
    refine ⟨by show 4<=sizeLine;decide,fun t nt=>?_⟩
    have st:=ai.upd (o:= .tup [.int a.v.1, .int a.v.2.1, .int b.v.1, .int b.v.2.1]) nt
    have nX:=st _ _ nF
    refine ⟨p1,_,_,rfl,rfl,nX,by rw[lJ];omega,?_⟩
    refine ⟨us++[⟨t,(a.v.1,a.v.2.1,b.v.1,b.v.2.1)⟩],_,rfl,by rw[ae];exact congrArg (fun x=>some (HO.lst x)) (wm us ⟨t,(a.v.1,a.v.2.1,b.v.1,b.v.2.1)⟩),by rw[aq h31];exact st _ _ Lx,fun x hx=>?_,by rw[List.map_append,ni,er,List.append_assoc];rfl,by rw[List.length_append];show us.length+1<=_;omega,fun c o e w=>by rw[aq w];exact st _ _ (s4 c o e w)⟩
    rcases List.mem_append.mp hx with g | g
    ·exact (oA x g).ts ((aJ.of st).trans (aJ.fL nX))
    ·have e3:=List.mem_singleton.mp g
     subst e3
     exact (aJ.fL nX) _ _ ae
   ·rw[if_neg z,List.append_nil]at er
    exact ⟨us,_,rfl,nF,Lx,oA,by rw[ni,er],by omega,s4⟩
  ·rintro σ H3 ⟨us,rv3,rfl,nF,Lx,oA,ni,zK,s4⟩
   rw[lJ,List.length_drop]at zK
   have e5:((dM y ws os).drop (k+1)).take (pZ (cs.drop (k+1))).length=(dM y ws os).drop (k+1):=by
    rw[lJ,List.length_drop,hlen, <-List.length_drop,List.take_length]
   rw[e5]at ni
   exact ⟨us,_,_,_,rfl,nF,oA,by rw[ni,lI hak],by omega,s4⟩
 ·rintro σ H2 ⟨qs,nv,ov,rv,rfl,hp,BE,Gr,U3,s2⟩
  rw[lJ,hlen]at Gr
  exact ⟨_,rfl,q p1 qs H2 n1 hp BE Gr (fun a o ea=>s2 a o (Gk a o ea) (ak ea n1))⟩
theorem Ly:bE P w K mg base eI 8 H_ QY ["_law_script"] (md K):=by
 have yu:=Gi (P:=P) (w:=w) (base:=base) T
 have Gs:=D4 (P:=P) (w:=w) (base:=base) T
 have Eb:=Bx (P:=P) (w:=w) (base:=base) T
 have yv:=wL (P:=P) (w:=w) (base:=base) T
 have gB:=nJ (P:=P) (w:=w) (base:=base) T
 have qm:=zN (P:=P) (w:=w) (base:=base) T
 have gC:=nK (P:=P) (w:=w) (base:=base) T
 have Gu:=D9 (P:=P) (w:=w) (base:=base) T
 have qo:=zP (P:=P) (w:=w) (base:=base) T
 have qr:=nG (P:=P) (w:=w) (base:=base) T
 have Lz:=Gh (P:=P) (w:=w) (base:=base) T
 have qt:=wQ (P:=P) (w:=w) (base:=base) T
 refine T.QZ.fn.ok gv (fun vs H Q E h=>Fu h) (fun cM A outer s H vs Q E hr h=>?_)
 refine ⟨_,(af (au (i:=1) gv.nd rfl (Or.inl rfl) (ao yu (hr.mono (by decide)) rfl T.Bs.mg T.Bs.fn.kp T.Bs.bd .nil aA (aa (pv 0) (aa ag ab))))
   (af (au (i:=2) gv.nd rfl (Or.inl rfl) (ao Gs (hr.mono (by decide)) rfl T.KR.mg T.KR.fn.kp T.KR.bd .nil aA (aa (pv 1) (aa ag (aa ag ab)))))
   (af (au (i:=3) gv.nd rfl (Or.inl rfl) (ao Eb (hr.mono (by decide)) rfl T.KY.mg T.KY.fn.kp T.KY.bd .nil aA (aa (pv 1) (aa (pv 2) ab))))
   (af (au (i:=4) gv.nd rfl (Or.inl rfl) (ao yv (hr.mono (by decide)) rfl T.KW.mg T.KW.fn.kp T.KW.bd .nil aA (aa (ao yu (hr.mono (by decide)) rfl T.Bs.mg T.Bs.fn.kp T.Bs.bd .nil aA (aa (pv 0) (aa ag ab))) (aa (pv 2) (aa (pv 3) ab)))))
   (af (au (i:=5) gv.nd rfl (Or.inl rfl) (ao gB (hr.mono (by decide)) rfl T.Bo.mg T.Bo.fn.kp T.Bo.bd .nil aA (aa (pv 2) (aa (pv 4) ab))))
   (af (kP (i:=6) ["_law_word_here"] [none] gv.nd rfl (Or.inl rfl) (nP K rfl (pv 3)) trivial (fun _ _ _ _=>(aw (i:=0) (by decide+kernel:List.Nodup (["_law_word_here"]:List Str)) rfl (Or.inl rfl))) (fun _ _ _ _=>ip) (fun _ _ _ _=>(ao qm (hr.mono (by decide)) rfl T.w4.mg T.w4.fn.kp T.w4.bd .nil aA (aa (pv 0) ab))))
   (af (IJ (i:=7) (j:=8) rfl gv.nd rfl rfl (by decide) rfl rfl (aa (ao gC (hr.mono (by decide)) rfl T.Bp.mg T.Bp.fn.kp T.Bp.bd .nil aA (aa (pv 2) (aa (pv 5) ab))) (aa (bz ab) ab)) rfl)
   (af (bp PassesOwn.never rfl (q_ rfl T.z_range (aa ag (aa (ar (jx rfl) rfl T.z_max boot_max (aa ag (aa (ar (l_ rfl) rfl T.z_min boot_min (aa ag (aa (ar (ay K rfl) rfl T.z_len PySem.boot_len (aa (pv 0) ab)) ab))) ab))) ab))) (aw (i:=9) gv.nd rfl (Or.inl rfl)) (af (bC (aB kE (ar (ay K rfl) rfl T.z_len PySem.boot_len (aa (pv 3) ab)) ag (aM _)) (af (aY (aX K rfl PySem.F.plainAttrs_list PySem.F.slot_list_append PySem.F.type_list_append bf (pv 8) (aa (ao Gu (hr.mono (by decide)) rfl T.KZ.mg T.KZ.fn.kp T.KZ.bd .nil aA (aa (ao yu (hr.mono (by decide)) rfl T.Bs.mg T.Bs.fn.kp T.Bs.bd .nil aA (aa (pv 0) (aa (pv 9) ab))) (aa (pv 2) (aa (pv 7) ab)))) ab)))
   (ah (au (i:=7) gv.nd rfl (Or.inl rfl) (ao gC (hr.mono (by decide)) rfl T.Bp.mg T.Bp.fn.kp T.Bp.bd .nil aA (aa (pv 2) (aa (ao gB (hr.mono (by decide)) rfl T.Bo.mg T.Bo.fn.kp T.Bo.bd .nil aA (aa (pv 2) (aa (ao qo (hr.mono (by decide)) rfl T.wZ.mg T.wZ.fn.kp T.wZ.bd .nil aA (aa (pv 2) (aa (pv 7) (aa (bF (jd K rfl) (pv 8) (bK (B2 xa ag)) cg) ab)))) ab))) ab)))))) aV)
   (ah (bC (PW.pt (kC (aB E9 (ao qr (hr.mono (by decide)) rfl T.F6.mg T.F6.fn.kp T.F6.bd .nil aA (aa (pv 2) (aa (pv 7) ab))) gI (aM _)) (i4 (aB (kd K rfl hr) (cY ["_law_word_here"] [none] (nP K rfl (az (ax K rfl) (pv 7) ag (fun _ _=>rfl))) trivial (fun _ _ _ _=>(aw (i:=0) (by decide+kernel:List.Nodup (["_law_word_here"]:List Str)) rfl (Or.inl rfl))) (fun _ _ _ _=>ip) (fun _ _ _ _=>(ao qm (hr.mono (by decide)) rfl T.w4.mg T.w4.fn.kp T.w4.bd .nil aA (aa (pv 0) ab)))) (pv 6) (aM _))))) (ah (aD gI)) aV))))
   (af (bC (aB (kd K rfl hr) (pv 7) (ao qo (hr.mono (by decide)) rfl T.wZ.mg T.wZ.fn.kp T.wZ.bd .nil aA (aa (pv 2) (aa (pv 4) (aa (bh (cQ K rfl) rfl T.z_list boot_list (aa (pv 8) ab)) ab)))) (aM _)) (ah (aD gI)) aV)
   (af (au (i:=10) gv.nd rfl (Or.inl rfl) (ao qo (hr.mono (by decide)) rfl T.wZ.mg T.wZ.fn.kp T.wZ.bd .nil aA (aa (pv 2) (aa (pv 7) (aa (ao Lz (hr.mono (by decide)) rfl T.KQ.mg T.KQ.fn.kp T.KQ.bd .nil aA (aa (pv 2) (aa (pv 7) (aa (pv 4) ab)))) ab)))))
   (af (bC (PW.pt (kC (aB (kd K rfl hr) (pv 10) (pv 4) (aM _)) (i4 (aB oO (ao gB (hr.mono (by decide)) rfl T.Bo.mg T.Bo.fn.kp T.Bo.bd .nil aA (aa (pv 2) (aa (pv 10) ab))) (pv 5) (aM _))))) (ah (aD gI)) aV)
   (ah (aD (kF (Cv K rfl hr) (ao qt (hr.mono (by decide)) rfl T.Er.mg T.Er.fn.kp T.Er.bd .nil aA (aa (pv 2) (aa (pv 10) ab))) (ao qt (hr.mono (by decide)) rfl T.Er.mg T.Er.fn.kp T.Er.bd .nil aA (aa (pv 2) (aa (ao gC (hr.mono (by decide)) rfl T.Bp.mg T.Bp.fn.kp T.Bp.bd .nil aA (aa (pv 2) (aa (pv 5) ab))) ab))) (aM _))))))))))))))),?_⟩
 obtain ⟨a,ns,rfl,hS,hl,q⟩:=h
 have hs:(100000:Nat)<sizeLine:=by decide
 refine ⟨_,rfl,a,ns,0,rfl,hS,by decide,fun b H1 nb bx s1=>?_⟩
 refine ⟨_,rfl,b,1,4,rfl,bx,by decide,by decide,by decide,fun y H2 hy UN hy2 bx2 s2=>?_⟩
 have TL:y≠[]:=fun z=>by rw[z]at UN;simp at UN
 refine ⟨_,rfl,_,rfl,b,y,rfl,bx2,TL,by omega,fun wt ws H3 nwt wtb qj ql Us s3=>?_⟩
 have wN:ai H H3:=aF.same nb s1 (s2.trans s3)
 refine ⟨_,rfl,a,ns,1,rfl,wN.seq hS,by decide,fun b2 H4 nb2 bx4 s4=>?_⟩
 refine ⟨_,rfl,_,rfl,b2,y,wt,ws,rfl,bx4,hy,by omega,ak qj nb2,s4 _ _ qj,ql,fun dr os H5 BO yh bx5 s5=>?_⟩
 have s35:ai H3 H5:=aF.same nb2 s4 s5
 have L_:=wN.trans s35
 have U9:=s35 _ _ qj
 have hg:Good y ws (os.map bj):=⟨ql,yh.lok⟩
 have Ih:Told y ws (nc os):=Told.of hy (by omega) (by omega) ql yh
 refine ⟨_,rfl,_,rfl,y,dr,ws,os,rfl,BO,Ih,fun H6 s6=>?_⟩
 have Rp:=L_.trans s6
 have U_:=BO.same s6
 have LA:=s6 _ _ U9
 have N2:=ql.g7
 have OM: ∀{us:List (List Nat)} {L:fN},Good y us L-> ∀w∈us,(∀c∈w,Lt c)/\w.length<=12:=fun g w hw=>⟨fun c hc=>hy.lt c ((g.jm w hw).1 c hc),(g.jm w hw).2⟩
 have cy:=OM hg
 refine ⟨_,rfl,wt,rfl,⟨_,aW.of LA⟩,?_⟩
 refine kW (K:=K) (a:=wt) (xs:=bw ws) (fun i acc H'=>ai H6 H'/\acc=bw ((ws.take i).map aL)) (by rw[aN];omega) (fun i acc H' h=>aW.of (h.1 _ _ LA)) ⟨ai.refl _,rfl⟩ ?_ ?_
 ·rintro i x acc H8 Nx hi hx fI ⟨s8,rfl⟩ nx
  obtain ⟨w,hw,rfl⟩:=lC hx
  have NZ:=cy w (List.mem_of_getElem? hw)
  refine ⟨trivial,gJ ?_⟩
  refine ⟨_,rfl,w,rfl,NZ.1,by omega,fun H9 s9=>nx _ _ (by simpa using fI) ⟨s8.trans s9,?_⟩⟩
  rw[gk, <-take_snoc hw,List.map_append]
  rfl
 rintro acc H7 rg fI ⟨s7,rfl⟩ nrg
 rw[aN,List.take_length]
 have s68:=s7.trans (ai.upd (o:=HO.lst (bw (ws.map aL))) nrg)
 have zO:upd H7 rg (HO.lst (bw (ws.map aL))) rg=some (HO.lst (bw (ws.map aL))):=ae
 generalize upd H7 rg (HO.lst (bw (ws.map aL)))=H8 at s68 zO ⊢
 refine ⟨_,rfl,_,rfl,y,ws,nc os,rfl,Ih,fun h0 Va H9 hd0 ho0 s9=>?_⟩
 refine ⟨Nat.zero_le _,fun dl ndl=>?_⟩
 have Vb:=s68.trans s9
 have OJ:=Rp.trans Vb
 have Vc:=s9 _ _ zO
 have sd:=ai.upd (o:=HO.lst []) ndl
 refine ⟨_,_,rfl,?_⟩
 have sU:=OJ.trans sd
 refine ⟨_,rfl,a,_,rfl, .inl (sU.seq hS),?_⟩
 refine ⟨_,_,rfl,_,_,rfl,?_⟩
 have mm: ∀L:Int,0<=L-> ∃m:Nat,(if (if L<14 then L else 14)>6 then (if L<14 then L else 14) else 6)=(m:Int)/\m<=40:=fun L h0=>by
  by_cases c1:L<14
  ·rw[if_pos c1]
   by_cases c2:L>6
   ·rw[if_pos c2];exact ⟨L.toNat,by omega,by omega⟩
   ·rw[if_neg c2];exact ⟨6,rfl,by decide⟩
  ·rw[if_neg c1,if_pos (by decide)];exact ⟨14,rfl,by decide⟩
 obtain ⟨M,hM,hM2⟩:=mm ((ns.map V.int).length:Int) (by omega)
 rw[hM]
 refine ⟨2,(M:Int),rfl,⟨by decide,by decide,by omega,by omega⟩,?_⟩
 have Ge:upd H9 dl (HO.lst []) dl=some (HO.lst (dJ [])):=ae
 have ehd:Va.map bj=os.map bj:=ho0
 have hg0:Good y ws (Va.map bj):=by rw[ehd];exact hg
 have ly:PyData.canLayAll0 (kl (ws.map aL))=true:=jA fun l uN c hc=>by
  obtain ⟨w,hw,rfl⟩:=List.mem_map.mp uN
  exact (C3 (cy w hw).1 c hc).lt
 have dp:(PyData.list (kl (ws.map aL))).depth<=60:=by show PyData.depthAll (kl (ws.map aL))+1<=60;rw[jB];decide
 refine gX (fun i σ H'=> ∃(ca:Addr) (cw:List (List Nat)) (co:List Od) (ds:List Dd) (kv:Option V),σ=[some (.ref a),some (.ref b),some (.str (S y)),some (.ref wt),some (.ref dr),some (.str (S (textOf y ws (nc os)))),some (.ref rg),some (.ref ca),some (.ref dl),kv,none]/\eK H' ca cw co/\Good y cw (co.map bj)/\cw.map aL=ws.map aL/\H' dl=some (.lst (dJ ds))/\(∀x∈ds,eV H' x.a x.e)/\ds.length<=i/\Path y ws (os.map bj) (ds.map Dd.e)/\dS y ws (os.map bj) (ds.map Dd.e)=(cw,co.map bj)/\ai H9 H')
  ⟨h0,ws,Va,[],none,rfl,hd0.same sd,hg0,rfl,Ge,fun _ h=>absurd h List.not_mem_nil,Nat.le_refl _,trivial,by rw[ehd];rfl,sd⟩ ?_ ?_
 ·rintro i σ HA hi ⟨ca,cw,co,ds,kv,rfl,ON,Il,OO,Ec,Gv,Vd,Rv,OP,sA⟩
  have s0A:=OJ.trans sA
  have Ve:=sA _ _ (Vb _ _ LA)
  have hk:((2:Int)+(i:Int))=((2+i:Nat):Int):=by omega
  apply Tp (P:=fun OQ H'=> ∃(cw:List (List Nat)) (co:List Od) (ds:List Dd),eK H' OQ cw co/\Good y cw (co.map bj)/\cw.map aL=ws.map aL/\H' dl=some (.lst (dJ ds))/\(∀x∈ds,eV H' x.a x.e)/\ds.length<=i+1/\Path y ws (os.map bj) (ds.map Dd.e)/\dS y ws (os.map bj) (ds.map Dd.e)=(cw,co.map bj)/\ai H9 H')
  ·intro key
   refine ⟨_,rfl,wt,_,rfl, .inr (aW.of Ve),_,_,rfl,rfl,_,rfl,cB (fun z=>?_) (fun z=>?_)⟩
   ·rw[aN]at z
    have kA:cw.length=ws.length:=by have:=congrArg List.length OO;rwa [List.length_map,List.length_map]at this
    have Ob:cw≠[]:=fun e=>by
     rw[e]at kA
     rw[<-kA]at z
     exact absurd z (by decide)
    refine ⟨_,rfl, .inl ⟨rfl,_,aT.of Ec⟩,?_⟩
    refine ⟨_,rfl,_,rfl,a,ns,2+i,by rw[<-hk];rfl,s0A.seq hS,by omega,fun b3 HB nb3 bxB sB=>?_⟩
    refine ⟨_,rfl,_,rfl,b3,y,ca,cw,co,rfl,bxB,hy,by omega,by omega,Ob,Il,ON.same sB,fun da e HC hda bu sC=>?_⟩
    have Ma:ai HA HC:=aF.same nb3 sB sC
    have OR:=Ma _ _ Ec
    refine ⟨dl,_,_,rfl,rfl,OR,by rw[cA];omega,?_⟩
    rw[eF ds ⟨da,e⟩]
    have tU:=aJ.fL (o:=HO.lst (dJ (ds++[⟨da,e⟩]))) OR
    have s9D:=DO (o:=HO.lst (dJ (ds++[⟨da,e⟩]))) (sA.trans Ma) ndl
    have LB:upd HC dl (HO.lst (dJ (ds++[⟨da,e⟩]))) dl=some (HO.lst (dJ (ds++[⟨da,e⟩]))):=ae
    have Vf:=(aJ.of Ma).trans tU
    have LC:=hda.ts tU
    generalize upd HC dl (HO.lst (dJ (ds++[⟨da,e⟩])))=HD at tU s9D LB Vf LC ⊢
    refine ⟨_,rfl,_,rfl,_,rfl,_,rfl,_,rfl,1,rfl,?_⟩
    refine ⟨_,rfl,dl,_,rfl,aT.of LB,fun pl npl=>?_⟩
    have ecl:qy (dJ (ds++[⟨da,e⟩])) (some (-1)) none=dJ [⟨da,e⟩]:=by
     rw[<-eF ds ⟨da,e⟩];exact DN _ _
    rw[ecl]
    have sl:=ai.upd (o:=HO.lst (dJ [⟨da,e⟩])) npl
    have fJ:upd HD pl (HO.lst (dJ [⟨da,e⟩])) pl=some (HO.lst (dJ [⟨da,e⟩])):=ae
    generalize upd HD pl (HO.lst (dJ [⟨da,e⟩]))=HE at sl fJ ⊢
    refine ⟨y,ca,cw,co,pl,[⟨da,e⟩],rfl,hy,by omega,Il,(ON.ts3 Vf).same sl,fJ,fun x hx=>?_,by show 1<=50000;decide,⟨bu,trivial⟩,fun d2 Mb HF g1 g2 g3 sF=>?_⟩
    ·rw[List.mem_singleton.mp hx];exact LC.ts (aJ.of sl)
    replace g1:eK HF d2 (dW cw e) Mb:=g1
    replace g2:Mb.map bj=dO (aC y) cw (co.map bj) e:=g2
    replace g3:Good y (dW cw e) (Mb.map bj):=g3
    have OS:(dW cw e).map aL=ws.map aL:=(Bg hy Il bu).trans OO
    refine ⟨y,d2,dW cw e,Mb,rfl,g1,Told.of hy (by omega) (by omega) g3.ws g3.os,fun HG sG=>?_⟩
    refine ⟨y,dW cw e,nc Mb,rfl,Told.of hy (by omega) (by omega) g3.ws g3.os,fun d3 os3 HI k1 k2 sI=>?_⟩
    replace k2:os3.map bj=Mb.map bj:=k2
    have Rw:=((sl.trans sF).trans sG).trans sI
    refine key d3 HI ⟨dW cw e,os3,ds++[⟨da,e⟩],k1,by rw[k2];exact g3,OS,Rw _ _ LB,fun x hx=>?_,by rw[List.length_append];show ds.length+1<=_;omega,?_,?_,s9D.trans Rw⟩
    ·rcases List.mem_append.mp hx with g | g
     ·exact (Gv x g).ts (Vf.trans (aJ.of Rw))
     ·rw[List.mem_singleton.mp g];exact LC.ts (aJ.of Rw)
    ·rw[List.map_append]
     exact sM Rv (by rw[OP];exact bu)
    ·rw[List.map_append]
     show dS y ws (os.map bj) (ds.map Dd.e++[e])=_
     rw[wB,OP,k2,g2]
   ·exact key ca HA ⟨cw,co,ds,ON,Il,OO,Ec,Gv,by omega,Rv,OP,sA⟩
  ·rintro OQ HB ⟨cw,co,ds,Vg,OT,hrB,Vh,Vi,Vj,hPB,hRB,sB⟩
   refine ⟨_,rfl,_,rfl,y,OQ,cw,co,rfl,hy,by omega,OT.ws,Vg,OT.os,fun HC sC=>?_⟩
   refine ⟨_,_,rfl,rfl,_,rfl,cO rfl ?_⟩
   have Mc:=Vg.same sC
   obtain ⟨⟨Oi,ot2,f1',f2',f3'⟩,_⟩:=id Mc
   have Vk:=OM OT
   have Oe:=OT.g7
   refine ⟨_,rfl,OQ,_,_,_,rfl,rfl,aW.of f1',aR (j:=0) rfl,Oi,rfl,⟨_,aW.of f2'⟩,?_⟩
   refine kW (K:=K) (a:=Oi) (xs:=bw cw) (fun i acc H'=>ai HC H'/\acc=bw ((cw.take i).map aL)) (by rw[aN];omega) (fun i acc H' h=>aW.of (h.1 _ _ f2')) ⟨ai.refl _,rfl⟩ ?_ ?_
   ·rintro i x acc H6 Nx hi hx fI ⟨s6,rfl⟩ nx
    obtain ⟨w,hw,rfl⟩:=lC hx
    have NZ:=Vk w (List.mem_of_getElem? hw)
    refine ⟨trivial,gJ ?_⟩
    refine ⟨_,rfl,w,rfl,NZ.1,by omega,fun H7 s7=>nx _ _ (by simpa using fI) ⟨s6.trans s7,?_⟩⟩
    rw[gk, <-take_snoc hw,List.map_append]
    rfl
   rintro acc HF D fI ⟨sF,rfl⟩ nD
   rw[aN,List.take_length,hrB]
   have sCF:=sF.trans (ai.upd (o:=HO.lst (bw (ws.map aL))) nD)
   have hD:upd HF D (HO.lst (bw (ws.map aL))) D=some (HO.lst (bw (ws.map aL))):=ae
   generalize upd HF D (HO.lst (bw (ws.map aL)))=HH at sCF hD ⊢
   have OU:=sC.trans sCF
   refine ⟨_,rfl, .list (kl (ws.map aL)), .list (kl (ws.map aL)), .lst (aT.of hD) (ft _), .lst (aT.of (OU _ _ (sB _ _ Vc))) (ft _),⟨ly,ly⟩,dp,?_⟩
   rw[eqv_refl (.list (kl (ws.map aL))) (show PyData.hasDictAll (kl (ws.map aL))=false from pX _)]
   refine ⟨_,rfl,cO rfl ?_⟩
   exact ⟨OQ,cw,co,ds,_,rfl,Vg.same OU,OT,hrB,OU _ _ Vh,fun x hx=>(Vi x hx).ts (aJ.of OU),Vj,hPB,hRB,sB.trans OU⟩
 ·rintro σ HA ⟨ca,cw,co,ds,kv,rfl,ON,Il,OO,Ec,Gv,Vd,Rv,OP,sA⟩
  have s6A:=Vb.trans sA
  have OV:=U_.same s6A
  refine ⟨_,rfl,_,rfl,_,rfl,_,rfl,dl,_,rfl, .inl (aT.of Ec),fun t2 L0=>?_⟩
  have e2:=ai.upd (o:=HO.lst (dJ ds)) L0
  refine ⟨y,dr,ws,os,t2,ds,rfl,hy,by omega,hg,OV.same e2,ae,fun x hx=>(Gv x hx).ts (aJ.of e2),by omega,Rv,fun m ms HC hm L7 hmg sC=>?_⟩
  rw[OP]at hm L7
  replace hm:eK HC m cw ms:=hm
  replace L7:ms.map bj=co.map bj:=L7
  have Ma:=e2.trans sC
  have Mc:=ON.same Ma
  have Vl:=Dy hy (by omega) Mc Il
  have rm:qE K HC (.ref m) (Kh cw (co.map bj)):=by rw[<-L7];exact zE hm
  refine ⟨_,_,zE Mc,rm,⟨Vl.ly,Vl.ly⟩,Nat.le_trans Vl.dp (by decide),_,rfl,cO (by rw[eqv_refl _ (zG _ _)];rfl) ?_⟩
  have OW:=OV.same Ma
  refine ⟨_,rfl,_,rfl,_,rfl,_,rfl,_,rfl,y,ca,dr,cw,ws,co,os,rfl,hy,by omega,Il,hg,Mc,OW,fun lU=>absurd OO lU,fun _=>?_⟩
  intro t dl2 HD nt ht sR hP Vm sD
  obtain ⟨hP1,hP2⟩:=hP
  refine ⟨y,ca,cw,co,t,dl2,rfl,hy,by omega,Il,Mc.same sD,ht,sR,Vm,hP1,fun bk bo HE hb LD hbg sE=>?_⟩
  rw[hP2]at hb LD
  replace hb:eK HE bk ws bo:=hb
  replace LD:bo.map bj=os.map bj:=LD
  have OX:=OW.same (sD.trans sE)
  have Vn:=Dy hy (by omega) OX hg
  have rb:qE K HE (.ref bk) (Kh ws (os.map bj)):=by rw[<-LD];exact zE hb
  refine ⟨_,rfl,_,rfl,_,_,rb,zE OX,⟨Vn.ly,Vn.ly⟩,Nat.le_trans Vn.dp (by decide),_,rfl,cO (by rw[eqv_refl _ (zG _ _)];rfl) ?_⟩
  have hgb:Good y ws (bo.map bj):=by rw[LD];exact hg
  have eod:nc bo=nc os:=LD
  refine ⟨_,rfl,_,rfl,y,bk,ws,bo,rfl,hb,by rw[eod];exact Ih,fun HF sF=>?_⟩
  rw[eod]
  refine ⟨_,rfl,_,_,rfl,rfl,_,rfl,cO (by rw[decide_eq_true rfl];rfl) ?_⟩
  have hbF:=hb.same sF
  refine ⟨_,rfl,_,rfl,y,bk,ws,bo,rfl,hy,by omega,ql,hgb.os,hbF,fun q1 Md HG nq1 hq1 LW hv1 sG=>?_⟩
  refine ⟨_,rfl,_,rfl,_,rfl,y,ws,nc os,rfl,Ih,fun d5 Vo HI k1 k2 sI=>?_⟩
  have k3:Vo.map bj=os.map bj:=k2
  have Ld:Good y ws (Vo.map bj):=by rw[k3];exact hg
  refine ⟨y,d5,ws,Vo,rfl,hy,by omega,ql,Ld.os,k1,fun q2 qs2 HJ nq2 TR Ao T4 sJ=>?_⟩
  have ev:qs2.map Q4.v=Md.map Q4.v:=by rw[hv1,T4];exact yc (k3.trans LD.symm)
  have sGJ:=sI.trans sJ
  have JY:=DD (os:=bo) ql
  have Vp:oQ 40 100000 (.list ((Md.map Q4.v).map qD)):=by
   rw[hv1]
   exact NO (ya (os:=bo) ql) (by omega)
  refine ⟨.list ((Md.map Q4.v).map qD), .list ((Md.map Q4.v).map qD), .lst (aT.of (sGJ _ _ hq1)) (uz fun p hp=>(LW p hp).ts (aJ.of sGJ)), .lst (aT.of TR) (by rw[<-ev];exact uz Ao),⟨Vp.ly,Vp.ly⟩,Nat.le_trans Vp.dp (by decide),?_⟩
  rw[eqv_refl (.list ((Md.map Q4.v).map qD)) (show PyData.hasDictAll ((Md.map Q4.v).map qD)=false from zJ _)]
  exact q _
end
theorem bR {M:List Value->Prop} (h:M []): ∀us:List Value,us.length=0->M us
 | [],_=>h
theorem aQ {M:List Value->Prop} {n:Nat} (h: ∀(a:Value) (us:List Value),us.length=n->M (a::us)): ∀us:List Value,us.length=n+1->M us
 | a::us,e=>h a us (Nat.succ.inj e)
theorem all_mk {l:PySem.W.OpenLaw} {w:World} {K:PySem.W.Frag} {h:Heap} {mg:Str->Option Value} {fa f0 f1 f2 f3 f4 f5 f6 f7 f8 f9 G_ Ha Hb Hc Hd He Hf Hg Hh Hi Hj Hk Hl Hm Hn Ho Hq Hr Hs Ht Hu Hv Hw Hx Hy Hz HK HL HM HN HP HQ HR HS HU HV HW HX HY HZ H_:Addr} (X:K.In h) (G:h.Ns mainGlobals mg) (hfa:mg "law"=some (.ref fa))
  {Gw q8 Gx:Tok}
  {od0 an0 od1 an1 od2 an2 od3 an3 od4 an4 od5 an5 od6 an6 od7 an7 od8 an8 od9 an9 Vq Vr Vs Vt Vu Vv Vw Vx Vy Vz VA VB VC VD VE VF VG VH VI VJ VL VM VN VO VP VQ VR VS VT VU VV VW VX VY VZ V0 V1 V2 V3 V4 V5 V6 V7 V8 V9 V_ Wa Wb Wc Wd We Wf Wg Wh Wi Wj Wl Wm Wn Wo Wq Wr Ws Wt Wu Wv Ww Wx Wy Wz WA WB WC WD WE WG WH WI WJ WK WL WM:Option Addr} {sl0 sl1 P6 sl3 sl4 sl5 sl6 sl7 sl8 sl9 WN WO WQ WR WS WT WU WV WW WX WY WZ W0 W3 W4 W5 W6 W7 W8 W9 W_ Xa Xb Xc Xd Xe Xf Xg Xh Xi Xj Xk Xl Xm Xn Xo Xp Xq Xr Xs Xt:Array (Option Value)} {oc0 kV0 dc0 pm0 cd0 ct0 oc1 kV1 dc1 Uo cd1 ct1 oc2 kV2 dc2 Rc cd2 ct2 oc3 kV3 dc3 pm3 cd3 ct3 oc4 kV4 dc4 pm4 cd4 ct4 oc5 kV5 dc5 pm5 cd5 ct5 oc6 kV6 dc6 pm6 cd6 ct6 oc7 kV7 dc7 pm7 cd7 ct7 oc8 kV8 dc8 pm8 cd8 ct8 oc9 kV9 dc9 Rj cd9 ct9 Xu Xv Xw Lk OY Xx Xy Xz XA XB OZ XC XD XE XF XG O0 XH XI XJ XM XN O1 XO XQ XR XS XT O2 XU XW XX XY XZ O3 X0 X1 X2 X3 X4 O4 X5 X6 X7 X8 X9 O5 X_ Ya Yb Yc Ye O6 Yf Yg Yh Yi Yj O7 Yk Yl Ym Yn Yo O8 Yp Yq Yr Ys Yt O9 Yu Yv Yw Yx Yy O_ Yz YA YB YC YD Pa YE YF YG YH YI Pb YJ YK YL YM YN Pc YO YQ YR YS YT Pd YU YV YW YX YY Pe YZ Y0 Y1 Y2 Y3 Pf Y4 Y5 Y6 Y7 Y8 Pg Y9 Y_ Za Zb Zc Ph Zd Ze Zf Zg Zh Pj Zi Zj Zk Zl Zm Pk Zn Zo Zp Zq Zr Pl Zs Zt Zu Zv Zw Pn Zx Zy Zz ZC ZD Po ZE ZF ZG ZH ZI Pp ZJ ZK ZL ZM ZN Pu ZO ZP ZQ ZR ZU Pw ZV ZW ZX ZY ZZ Px Z0 Z1 Z2 Z3 Z4 Py Z5 Z6 Z7 Z8 Z9 Pz Z_ aaa aab aac aad PB aae aaf aag aah aai PD aaj aak aal aam aan PH aao aap aaq aar aas PJ aat aau aav aaw aax PK aay aaz aaA aaB aaC PL aaD aaE aaF aaG aaH PM aaI aaJ aaK aaL aaM PN aaN aaO aaP aaQ aaR PQ aaS:Value}
  (a0:PySem.W.nsIn K mainGlobals "contrary"=some (some (.ref f0)))
  (l0:K.lookup f0=some ⟨oc0,od0, .func (PySem.W.fnOf "contrary" "contrary" (aG eX) (aE eX) (aj eX) .none kV0 dc0 pm0 an0 cd0 ct0),sl0⟩)
  (c0:PySem.W.codeIn K cd0 "contrary"=true)
  (k0:PySem.W.keepIn K (.ref f0)=true)
  (a1:PySem.W.nsIn K mainGlobals "foreign_sign"=some (some (.ref f1)))
  (l1:K.lookup f1=some ⟨oc1,od1, .func (PySem.W.fnOf "foreign_sign" "foreign_sign" (aG cF) (aE cF) (aj cF) .none kV1 dc1 Uo an1 cd1 ct1),sl1⟩)
  (c1:PySem.W.codeIn K cd1 "foreign_sign"=true)
  (k1:PySem.W.keepIn K (.ref f1)=true)
  (a2:PySem.W.nsIn K mainGlobals "bands"=some (some (.ref f2)))
  (l2:K.lookup f2=some ⟨oc2,od2, .func (PySem.W.fnOf "bands" "bands" (aG jF) (aE jF) (aj jF) .none kV2 dc2 Rc an2 cd2 ct2),P6⟩)
  (c2:PySem.W.codeIn K cd2 "bands"=true)
  (k2:PySem.W.keepIn K (.ref f2)=true)
  (a3:PySem.W.nsIn K mainGlobals "strands_in"=some (some (.ref f3)))
  (l3:K.lookup f3=some ⟨oc3,od3, .func (PySem.W.fnOf "strands_in" "strands_in" (aG dj) (aE dj) (aj dj) .none kV3 dc3 pm3 an3 cd3 ct3),sl3⟩)
  (c3:PySem.W.codeIn K cd3 "strands_in"=true)
  (k3:PySem.W.keepIn K (.ref f3)=true)
  (a4:PySem.W.nsIn K mainGlobals "look_words"=some (some (.ref f4)))
  (l4:K.lookup f4=some ⟨oc4,od4, .func (PySem.W.fnOf "look_words" "look_words" (aG dm) (aE dm) (aj dm) .none kV4 dc4 pm4 an4 cd4 ct4),sl4⟩)
  (c4:PySem.W.codeIn K cd4 "look_words"=true)
  (k4:PySem.W.keepIn K (.ref f4)=true)
  (a5:PySem.W.nsIn K mainGlobals "look_orders"=some (some (.ref f5)))
  (l5:K.lookup f5=some ⟨oc5,od5, .func (PySem.W.fnOf "look_orders" "look_orders" (aG cR) (aE cR) (aj cR) .none kV5 dc5 pm5 an5 cd5 ct5),sl5⟩)
  (c5:PySem.W.codeIn K cd5 "look_orders"=true)
  (k5:PySem.W.keepIn K (.ref f5)=true)
  (a6:PySem.W.nsIn K mainGlobals "look_drawing"=some (some (.ref f6)))
  (l6:K.lookup f6=some ⟨oc6,od6, .func (PySem.W.fnOf "look_drawing" "look_drawing" (aG cG) (aE cG) (aj cG) .none kV6 dc6 pm6 an6 cd6 ct6),sl6⟩)
  (c6:PySem.W.codeIn K cd6 "look_drawing"=true)
  (k6:PySem.W.keepIn K (.ref f6)=true)
  (a7:PySem.W.nsIn K mainGlobals "strand_text"=some (some (.ref f7)))
  (l7:K.lookup f7=some ⟨oc7,od7, .func (PySem.W.fnOf "strand_text" "strand_text" (aG cS) (aE cS) (aj cS) .none kV7 dc7 pm7 an7 cd7 ct7),sl7⟩)
  (c7:PySem.W.codeIn K cd7 "strand_text"=true)
  (k7:PySem.W.keepIn K (.ref f7)=true)
  (a8:PySem.W.nsIn K mainGlobals "cord_row"=some (some (.ref f8)))
  (l8:K.lookup f8=some ⟨oc8,od8, .func (PySem.W.fnOf "cord_row" "cord_row" (aG eY) (aE eY) (aj eY) .none kV8 dc8 pm8 an8 cd8 ct8),sl8⟩)
  (c8:PySem.W.codeIn K cd8 "cord_row"=true)
  (k8:PySem.W.keepIn K (.ref f8)=true)
  (a9:PySem.W.nsIn K mainGlobals "band_row"=some (some (.ref f9)))
  (l9:K.lookup f9=some ⟨oc9,od9, .func (PySem.W.fnOf "band_row" "band_row" (aG eZ) (aE eZ) (aj eZ) .none kV9 dc9 Rj an9 cd9 ct9),sl9⟩)
  (c9:PySem.W.codeIn K cd9 "band_row"=true)
  (k9:PySem.W.keepIn K (.ref f9)=true)
  (a10:PySem.W.nsIn K mainGlobals "show_drawing"=some (some (.ref G_)))
  (l10:K.lookup G_=some ⟨Xu,Vq, .func (PySem.W.fnOf "show_drawing" "show_drawing" (aG cH) (aE cH) (aj cH) .none Xv Xw Lk Vr OY Xx),WN⟩)
  (c10:PySem.W.codeIn K OY "show_drawing"=true)
  (k10:PySem.W.keepIn K (.ref G_)=true)
  (a11:PySem.W.nsIn K mainGlobals "read_cord"=some (some (.ref Ha)))
  (l11:K.lookup Ha=some ⟨Xy,Vs, .func (PySem.W.fnOf "read_cord" "read_cord" (aG dY) (aE dY) (aj dY) .none Xz XA XB Vt OZ XC),WO⟩)
  (c11:PySem.W.codeIn K OZ "read_cord"=true)
  (k11:PySem.W.keepIn K (.ref Ha)=true)
  (a12:PySem.W.nsIn K mainGlobals "read_words"=some (some (.ref Hb)))
  (l12:K.lookup Hb=some ⟨XD,Vu, .func (PySem.W.fnOf "read_words" "read_words" (aG dq) (aE dq) (aj dq) .none XE XF XG Vv O0 XH),WQ⟩)
  (c12:PySem.W.codeIn K O0 "read_words"=true)
  (k12:PySem.W.keepIn K (.ref Hb)=true)
  (a13:PySem.W.nsIn K mainGlobals "read_order"=some (some (.ref Hc)))
  (l13:K.lookup Hc=some ⟨XI,Vw, .func (PySem.W.fnOf "read_order" "read_order" (aG du) (aE du) (aj du) .none XJ XM XN Vx O1 XO),WR⟩)
  (c13:PySem.W.codeIn K O1 "read_order"=true)
  (k13:PySem.W.keepIn K (.ref Hc)=true)
  (a14:PySem.W.nsIn K mainGlobals "read_drawing"=some (some (.ref Hd)))
  (l14:K.lookup Hd=some ⟨XQ,Vy, .func (PySem.W.fnOf "read_drawing" "read_drawing" (aG cI) (aE cI) (aj cI) .none XR XS XT Vz O2 XU),WS⟩)
  (c14:PySem.W.codeIn K O2 "read_drawing"=true)
  (k14:PySem.W.keepIn K (.ref Hd)=true)
  (a15:PySem.W.nsIn K mainGlobals "renumber"=some (some (.ref He)))
  (l15:K.lookup He=some ⟨XW,VA, .func (PySem.W.fnOf "renumber" "renumber" (aG e_) (aE e_) (aj e_) .none XX XY XZ VB O3 X0),WT⟩)
  (c15:PySem.W.codeIn K O3 "renumber"=true)
  (k15:PySem.W.keepIn K (.ref He)=true)
  (a16:PySem.W.nsIn K mainGlobals "do_swap"=some (some (.ref Hf)))
  (l16:K.lookup Hf=some ⟨X1,VC, .func (PySem.W.fnOf "do_swap" "do_swap" (aG fS) (aE fS) (aj fS) .none X2 X3 X4 VD O4 X5),WU⟩)
  (c16:PySem.W.codeIn K O4 "do_swap"=true)
  (k16:PySem.W.keepIn K (.ref Hf)=true)
  (a17:PySem.W.nsIn K mainGlobals "do_out"=some (some (.ref Hg)))
  (l17:K.lookup Hg=some ⟨X6,VE, .func (PySem.W.fnOf "do_out" "do_out" (aG hW) (aE hW) (aj hW) .none X7 X8 X9 VF O5 X_),WV⟩)
  (c17:PySem.W.codeIn K O5 "do_out"=true)
  (k17:PySem.W.keepIn K (.ref Hg)=true)
  (a18:PySem.W.nsIn K mainGlobals "do_in"=some (some (.ref Hh)))
  (l18:K.lookup Hh=some ⟨Ya,VG, .func (PySem.W.fnOf "do_in" "do_in" (aG jG) (aE jG) (aj jG) .none Yb Yc Ye VH O6 Yf),WW⟩)
  (c18:PySem.W.codeIn K O6 "do_in"=true)
  (k18:PySem.W.keepIn K (.ref Hh)=true)
  (a19:PySem.W.nsIn K mainGlobals "do_turn"=some (some (.ref Hi)))
  (l19:K.lookup Hi=some ⟨Yg,VI, .func (PySem.W.fnOf "do_turn" "do_turn" (aG fT) (aE fT) (aj fT) .none Yh Yi Yj VJ O7 Yk),WX⟩)
  (c19:PySem.W.codeIn K O7 "do_turn"=true)
  (k19:PySem.W.keepIn K (.ref Hi)=true)
  (a20:PySem.W.nsIn K mainGlobals "do_deed"=some (some (.ref Hj)))
  (l20:K.lookup Hj=some ⟨Yl,VL, .func (PySem.W.fnOf "do_deed" "do_deed" (aG fU) (aE fU) (aj fU) .none Ym Yn Yo VM O8 Yp),WY⟩)
  (c20:PySem.W.codeIn K O8 "do_deed"=true)
  (k20:PySem.W.keepIn K (.ref Hj)=true)
  (a21:PySem.W.nsIn K mainGlobals "done"=some (some (.ref Hk)))
  (l21:K.lookup Hk=some ⟨Yq,VN, .func (PySem.W.fnOf "done" "done" (aG mI) (aE mI) (aj mI) .none Yr Ys Yt VO O9 Yu),WZ⟩)
  (c21:PySem.W.codeIn K O9 "done"=true)
  (k21:PySem.W.keepIn K (.ref Hk)=true)
  (a22:PySem.W.nsIn K mainGlobals "strands_at"=some (some (.ref Hl)))
  (l22:K.lookup Hl=some ⟨Yv,VP, .func (PySem.W.fnOf "strands_at" "strands_at" (aG dz) (aE dz) (aj dz) .none Yw Yx Yy VQ O_ Yz),W0⟩)
  (c22:PySem.W.codeIn K O_ "strands_at"=true)
  (k22:PySem.W.keepIn K (.ref Hl)=true)
  (a23:PySem.W.nsIn K mainGlobals "points"=some (some (.ref Hm)))
  (l23:K.lookup Hm=some ⟨YA,VR, .func (PySem.W.fnOf "points" "points" (aG hZ) (aE hZ) (aj hZ) .none YB YC YD VS Pa YE),W3⟩)
  (c23:PySem.W.codeIn K Pa "points"=true)
  (k23:PySem.W.keepIn K (.ref Hm)=true)
  (a24:PySem.W.nsIn K mainGlobals "corner_points"=some (some (.ref Hn)))
  (l24:K.lookup Hn=some ⟨YF,VT, .func (PySem.W.fnOf "corner_points" "corner_points" (aG cm) (aE cm) (aj cm) .none YG YH YI VU Pb YJ),W4⟩)
  (c24:PySem.W.codeIn K Pb "corner_points"=true)
  (k24:PySem.W.keepIn K (.ref Hn)=true)
  (a25:PySem.W.nsIn K mainGlobals "corners"=some (some (.ref Ho)))
  (l25:K.lookup Ho=some ⟨YK,VV, .func (PySem.W.fnOf "corners" "corners" (aG fW) (aE fW) (aj fW) .none YL YM YN VW Pc YO),W5⟩)
  (c25:PySem.W.codeIn K Pc "corners"=true)
  (k25:PySem.W.keepIn K (.ref Ho)=true)
  (a26:PySem.W.nsIn K mainGlobals "corners_meet"=some (some (.ref Hq)))
  (l26:K.lookup Hq=some ⟨YQ,VX, .func (PySem.W.fnOf "corners_meet" "corners_meet" (aG cJ) (aE cJ) (aj cJ) .none YR YS YT VY Pd YU),W6⟩)
  (c26:PySem.W.codeIn K Pd "corners_meet"=true)
  (k26:PySem.W.keepIn K (.ref Hq)=true)
  (a27:PySem.W.nsIn K mainGlobals "meetings"=some (some (.ref Hr)))
  (l27:K.lookup Hr=some ⟨YV,VZ, .func (PySem.W.fnOf "meetings" "meetings" (aG fb) (aE fb) (aj fb) .none YW YX YY V0 Pe YZ),W7⟩)
  (c27:PySem.W.codeIn K Pe "meetings"=true)
  (k27:PySem.W.keepIn K (.ref Hr)=true)
  (a28:PySem.W.nsIn K mainGlobals "shortened"=some (some (.ref Hs)))
  (l28:K.lookup Hs=some ⟨Y0,V1, .func (PySem.W.fnOf "shortened" "shortened" (aG dZ) (aE dZ) (aj dZ) .none Y1 Y2 Y3 V2 Pf Y4),W8⟩)
  (c28:PySem.W.codeIn K Pf "shortened"=true)
  (k28:PySem.W.keepIn K (.ref Hs)=true)
  (a29:PySem.W.nsIn K mainGlobals "shortest"=some (some (.ref Ht)))
  (l29:K.lookup Ht=some ⟨Y5,V3, .func (PySem.W.fnOf "shortest" "shortest" (aG fc) (aE fc) (aj fc) .none Y6 Y7 Y8 V4 Pg Y9),W9⟩)
  (c29:PySem.W.codeIn K Pg "shortest"=true)
  (k29:PySem.W.keepIn K (.ref Ht)=true)
  (a30:PySem.W.nsIn K mainGlobals "ring"=some (some (.ref Hu)))
  (l30:K.lookup Hu=some ⟨Y_,V5, .func (PySem.W.fnOf "ring" "ring" (aG mJ) (aE mJ) (aj mJ) .none Za Zb Zc V6 Ph Zd),W_⟩)
  (c30:PySem.W.codeIn K Ph "ring"=true)
  (k30:PySem.W.keepIn K (.ref Hu)=true)
  (a31:PySem.W.nsIn K mainGlobals "are_one"=some (some (.ref Hv)))
  (l31:K.lookup Hv=some ⟨Ze,V7, .func (PySem.W.fnOf "are_one" "are_one" (aG fX) (aE fX) (aj fX) .none Zf Zg Zh V8 Pj Zi),Xa⟩)
  (c31:PySem.W.codeIn K Pj "are_one"=true)
  (k31:PySem.W.keepIn K (.ref Hv)=true)
  (a32:PySem.W.nsIn K mainGlobals "pairs_out"=some (some (.ref Hw)))
  (l32:K.lookup Hw=some ⟨Zj,V9, .func (PySem.W.fnOf "pairs_out" "pairs_out" (aG d_) (aE d_) (aj d_) .none Zk Zl Zm V_ Pk Zn),Xb⟩)
  (c32:PySem.W.codeIn K Pk "pairs_out"=true)
  (k32:PySem.W.keepIn K (.ref Hw)=true)
  (a33:PySem.W.nsIn K mainGlobals "way_down"=some (some (.ref Hx)))
  (l33:K.lookup Hx=some ⟨Zo,Wa, .func (PySem.W.fnOf "way_down" "way_down" (aG fe) (aE fe) (aj fe) .none Zp Zq Zr Wb Pl Zs),Xc⟩)
  (c33:PySem.W.codeIn K Pl "way_down"=true)
  (k33:PySem.W.keepIn K (.ref Hx)=true)
  (a34:PySem.W.nsIn K mainGlobals "way_up"=some (some (.ref Hy)))
  (l34:K.lookup Hy=some ⟨Zt,Wc, .func (PySem.W.fnOf "way_up" "way_up" (aG h7) (aE h7) (aj h7) .none Zu Zv Zw Wd Pn Zx),Xd⟩)
  (c34:PySem.W.codeIn K Pn "way_up"=true)
  (k34:PySem.W.keepIn K (.ref Hy)=true)
  (a35:PySem.W.nsIn K mainGlobals "turns_between"=some (some (.ref Hz)))
  (l35:K.lookup Hz=some ⟨Zy,We, .func (PySem.W.fnOf "turns_between" "turns_between" (aG cn) (aE cn) (aj cn) .none Zz ZC ZD Wf Po ZE),Xe⟩)
  (c35:PySem.W.codeIn K Po "turns_between"=true)
  (k35:PySem.W.keepIn K (.ref Hz)=true)
  (a36:PySem.W.nsIn K mainGlobals "word_road"=some (some (.ref HK)))
  (l36:K.lookup HK=some ⟨ZF,Wg, .func (PySem.W.fnOf "word_road" "word_road" (aG ee) (aE ee) (aj ee) .none ZG ZH ZI Wh Pp ZJ),Xf⟩)
  (c36:PySem.W.codeIn K Pp "word_road"=true)
  (k36:PySem.W.keepIn K (.ref HK)=true)
  (a37:PySem.W.nsIn K mainGlobals "order_road"=some (some (.ref HL)))
  (l37:K.lookup HL=some ⟨ZK,Wi, .func (PySem.W.fnOf "order_road" "order_road" (aG dA) (aE dA) (aj dA) .none ZL ZM ZN Wj Pu ZO),Xg⟩)
  (c37:PySem.W.codeIn K Pu "order_road"=true)
  (k37:PySem.W.keepIn K (.ref HL)=true)
  (a38:PySem.W.nsIn K mainGlobals "same_cords"=some (some (.ref HM)))
  (l38:K.lookup HM=some ⟨ZP,Wl, .func (PySem.W.fnOf "same_cords" "same_cords" (aG dB) (aE dB) (aj dB) .none ZQ ZR ZU Wm Pw ZV),Xh⟩)
  (c38:PySem.W.codeIn K Pw "same_cords"=true)
  (k38:PySem.W.keepIn K (.ref HM)=true)
  (a39:PySem.W.nsIn K mainGlobals "road"=some (some (.ref HN)))
  (l39:K.lookup HN=some ⟨ZW,Wn, .func (PySem.W.fnOf "road" "road" (aG mK) (aE mK) (aj mK) .none ZX ZY ZZ Wo Px Z0),Xi⟩)
  (c39:PySem.W.codeIn K Px "road"=true)
  (k39:PySem.W.keepIn K (.ref HN)=true)
  (a40:PySem.W.nsIn K mainGlobals "_law_box"=some (some (.ref HP)))
  (l40:K.lookup HP=some ⟨Z1,Wq, .func (PySem.W.fnOf "_law_box" "_law_box" (aG mL) (aE mL) (aj mL) .none Z2 Z3 Z4 Wr Py Z5),Xj⟩)
  (c40:PySem.W.codeIn K Py "_law_box"=true)
  (k40:PySem.W.keepIn K (.ref HP)=true)
  (a41:PySem.W.nsIn K mainGlobals "_law_take"=some (some (.ref HQ)))
  (l41:K.lookup HQ=some ⟨Z6,Ws, .func (PySem.W.fnOf "_law_take" "_law_take" (aG jH) (aE jH) (aj jH) .none Z7 Z8 Z9 Wt Pz Z_),Xk⟩)
  (c41:PySem.W.codeIn K Pz "_law_take"=true)
  (k41:PySem.W.keepIn K (.ref HQ)=true)
  (a42:PySem.W.nsIn K mainGlobals "_law_other"=some (some (.ref HR)))
  (l42:K.lookup HR=some ⟨aaa,Wu, .func (PySem.W.fnOf "_law_other" "_law_other" (aG h_) (aE h_) (aj h_) .none aab aac aad Wv PB aae),Xl⟩)
  (c42:PySem.W.codeIn K PB "_law_other"=true)
  (k42:PySem.W.keepIn K (.ref HR)=true)
  (a43:PySem.W.nsIn K mainGlobals "_law_yard"=some (some (.ref HS)))
  (l43:K.lookup HS=some ⟨aaf,Ww, .func (PySem.W.fnOf "_law_yard" "_law_yard" (aG jI) (aE jI) (aj jI) .none aag aah aai Wx PD aaj),Xm⟩)
  (c43:PySem.W.codeIn K PD "_law_yard"=true)
  (k43:PySem.W.keepIn K (.ref HS)=true)
  (a44:PySem.W.nsIn K mainGlobals "_law_word"=some (some (.ref HU)))
  (l44:K.lookup HU=some ⟨aak,Wy, .func (PySem.W.fnOf "_law_word" "_law_word" (aG jJ) (aE jJ) (aj jJ) .none aal aam aan Wz PH aao),Xn⟩)
  (c44:PySem.W.codeIn K PH "_law_word"=true)
  (k44:PySem.W.keepIn K (.ref HU)=true)
  (a45:PySem.W.nsIn K mainGlobals "_law_order"=some (some (.ref HV)))
  (l45:K.lookup HV=some ⟨aap,WA, .func (PySem.W.fnOf "_law_order" "_law_order" (aG ia) (aE ia) (aj ia) .none aaq aar aas WB PJ aat),Xo⟩)
  (c45:PySem.W.codeIn K PJ "_law_order"=true)
  (k45:PySem.W.keepIn K (.ref HV)=true)
  (a46:PySem.W.nsIn K mainGlobals "_law_bands"=some (some (.ref HW)))
  (l46:K.lookup HW=some ⟨aau,WC, .func (PySem.W.fnOf "_law_bands" "_law_bands" (aG ib) (aE ib) (aj ib) .none aav aaw aax WD PK aay),Xp⟩)
  (c46:PySem.W.codeIn K PK "_law_bands"=true)
  (k46:PySem.W.keepIn K (.ref HW)=true)
  (a47:PySem.W.nsIn K mainGlobals "_law_drawing"=some (some (.ref HX)))
  (l47:K.lookup HX=some ⟨aaz,WE, .func (PySem.W.fnOf "_law_drawing" "_law_drawing" (aG ff) (aE ff) (aj ff) .none aaA aaB aaC WG PL aaD),Xq⟩)
  (c47:PySem.W.codeIn K PL "_law_drawing"=true)
  (k47:PySem.W.keepIn K (.ref HX)=true)
  (a48:PySem.W.nsIn K mainGlobals "_law_words"=some (some (.ref HY)))
  (l48:K.lookup HY=some ⟨aaE,WH, .func (PySem.W.fnOf "_law_words" "_law_words" (aG ic) (aE ic) (aj ic) .none aaF aaG aaH WI PM aaI),Xr⟩)
  (c48:PySem.W.codeIn K PM "_law_words"=true)
  (k48:PySem.W.keepIn K (.ref HY)=true)
  (a49:PySem.W.nsIn K mainGlobals "_law_deed"=some (some (.ref HZ)))
  (l49:K.lookup HZ=some ⟨aaJ,WJ, .func (PySem.W.fnOf "_law_deed" "_law_deed" (aG jK) (aE jK) (aj jK) .none aaK aaL aaM WK PN aaN),Xs⟩)
  (c49:PySem.W.codeIn K PN "_law_deed"=true)
  (k49:PySem.W.keepIn K (.ref HZ)=true)
  (a50:PySem.W.nsIn K mainGlobals "law"=some (some (.ref H_)))
  (l50:K.lookup H_=some ⟨aaO,WL, .func (PySem.W.fnOf "law" "law" (aG sN) (aE sN) (aj sN) .none aaP aaQ aaR WM PQ aaS),Xt⟩)
  (c50:PySem.W.codeIn K PQ "law"=true)
  (k50:PySem.W.keepIn K (.ref H_)=true)
  (g_CORD:PySem.W.nsIn K mainGlobals "CORD"=some (some (.str (S [99,111,114,100]) Gw)))
  (g_NO_LETTERS:PySem.W.nsIn K mainGlobals "NO_LETTERS"=some (some (.str (S [45]) q8)))
  (g_BAND:PySem.W.nsIn K mainGlobals "BAND"=some (some (.str (S [98,97,110,100]) Gx)))
  (z_all:PySem.W.nsIn K mainGlobals "all"=some none)
  (z_enumerate:PySem.W.nsIn K mainGlobals "enumerate"=some none)
  (z_int:PySem.W.nsIn K mainGlobals "int"=some none)
  (z_len:PySem.W.nsIn K mainGlobals "len"=some none)
  (z_list:PySem.W.nsIn K mainGlobals "list"=some none)
  (z_max:PySem.W.nsIn K mainGlobals "max"=some none)
  (z_min:PySem.W.nsIn K mainGlobals "min"=some none)
  (z_range:PySem.W.nsIn K mainGlobals "range"=some none)
  (z_reversed:PySem.W.nsIn K mainGlobals "reversed"=some none)
  (z_sorted:PySem.W.nsIn K mainGlobals "sorted"=some none)
  (z_tuple:PySem.W.nsIn K mainGlobals "tuple"=some none)
  (z_zip:PySem.W.nsIn K mainGlobals "zip"=some none):
  ∃fd:FuncData,(∀(s:Shared) (v:Value),BindsTo s fd ⟨[v],[]⟩ [("_law_script",v)])/\ ∀base:Heap,K.In base->base.Ns mainGlobals mg->bE l.prog w K mg base eI 8 fa fd ["_law_script"] (md K):=by
 have e:=hfa.symm.trans (PySem.W.mg_of X G a50)
 cases e
 have F0:=aS (st:=eX) l0 c0 k0
 have b0:=F0.binds (ps:=["letter"]) fun _ _ _ _ _ _=>aQ fun _=>bR rfl
 have F1:=aS (st:=cF) l1 c1 k1
 have b1:=F1.binds (ps:=["yard","text"]) fun _ _ _ _ _ _=>aQ fun _=>aQ fun _=>bR rfl
 have F2:=aS (st:=jF) l2 c2 k2
 have b2:=F2.binds (ps:=["yard"]) fun _ _ _ _ _ _=>aQ fun _=>bR rfl
 have F3:=aS (st:=dj) l3 c3 k3
 have b3:=F3.binds (ps:=["words","band"]) fun _ _ _ _ _ _=>aQ fun _=>aQ fun _=>bR rfl
 have F4:=aS (st:=dm) l4 c4 k4
 have b4:=F4.binds (ps:=["yard","words"]) fun _ _ _ _ _ _=>aQ fun _=>aQ fun _=>bR rfl
 have F5:=aS (st:=cR) l5 c5 k5
 have b5:=F5.binds (ps:=["yard","words","orders"]) fun _ _ _ _ _ _=>aQ fun _=>aQ fun _=>aQ fun _=>bR rfl
 have F6:=aS (st:=cG) l6 c6 k6
 have b6:=F6.binds (ps:=["yard","drawing"]) fun _ _ _ _ _ _=>aQ fun _=>aQ fun _=>bR rfl
 have F7:=aS (st:=cS) l7 c7 k7
 have b7:=F7.binds (ps:=["strand"]) fun _ _ _ _ _ _=>aQ fun _=>bR rfl
 have F8:=aS (st:=eY) l8 c8 k8
 have b8:=F8.binds (ps:=["word"]) fun _ _ _ _ _ _=>aQ fun _=>bR rfl
 have F9:=aS (st:=eZ) l9 c9 k9
 have b9:=F9.binds (ps:=["band","order"]) fun _ _ _ _ _ _=>aQ fun _=>aQ fun _=>bR rfl
 have Bo:=aS (st:=cH) l10 c10 k10
 have b10:=Bo.binds (ps:=["yard","drawing"]) fun _ _ _ _ _ _=>aQ fun _=>aQ fun _=>bR rfl
 have Kr:=aS (st:=dY) l11 c11 k11
 have b11:=Kr.binds (ps:=["yard","row"]) fun _ _ _ _ _ _=>aQ fun _=>aQ fun _=>bR rfl
 have Ks:=aS (st:=dq) l12 c12 k12
 have b12:=Ks.binds (ps:=["yard","rows"]) fun _ _ _ _ _ _=>aQ fun _=>aQ fun _=>bR rfl
 have Kt:=aS (st:=du) l13 c13 k13
 have b13:=Kt.binds (ps:=["words","band","row"]) fun _ _ _ _ _ _=>aQ fun _=>aQ fun _=>aQ fun _=>bR rfl
 have Bp:=aS (st:=cI) l14 c14 k14
 have b14:=Bp.binds (ps:=["yard","text"]) fun _ _ _ _ _ _=>aQ fun _=>aQ fun _=>bR rfl
 have Bq:=aS (st:=e_) l15 c15 k15
 have b15:=Bq.binds (ps:=["orders","cord","places"]) fun _ _ _ _ _ _=>aQ fun _=>aQ fun _=>aQ fun _=>bR rfl
 have Ku:=aS (st:=fS) l16 c16 k16
 have b16:=Ku.binds (ps:=["orders","band","number"]) fun _ _ _ _ _ _=>aQ fun _=>aQ fun _=>aQ fun _=>bR rfl
 have Kv:=aS (st:=hW) l17 c17 k17
 have b17:=Kv.binds (ps:=["words","orders","cord","place"]) fun _ _ _ _ _ _=>aQ fun _=>aQ fun _=>aQ fun _=>aQ fun _=>bR rfl
 have Kw:=aS (st:=jG) l18 c18 k18
 have b18:=Kw.binds (ps:=["words","orders","cord","place","letter","number"]) fun _ _ _ _ _ _=>aQ fun _=>aQ fun _=>aQ fun _=>aQ fun _=>aQ fun _=>aQ fun _=>bR rfl
 have Kx:=aS (st:=fT) l19 c19 k19
 have b19:=Kx.binds (ps:=["words","orders","cord"]) fun _ _ _ _ _ _=>aQ fun _=>aQ fun _=>aQ fun _=>bR rfl
 have Ky:=aS (st:=fU) l20 c20 k20
 have b20:=Ky.binds (ps:=["yard","words","orders","deed"]) fun _ _ _ _ _ _=>aQ fun _=>aQ fun _=>aQ fun _=>aQ fun _=>bR rfl
 have wZ:=aS (st:=mI) l21 c21 k21
 have b21:=wZ.binds (ps:=["yard","drawing","deeds"]) fun _ _ _ _ _ _=>aQ fun _=>aQ fun _=>aQ fun _=>bR rfl
 have Kz:=aS (st:=dz) l22 c22 k22
 have b22:=Kz.binds (ps:=["yard","drawing","end"]) fun _ _ _ _ _ _=>aQ fun _=>aQ fun _=>aQ fun _=>bR rfl
 have KA:=aS (st:=hZ) l23 c23 k23
 have b23:=KA.binds (ps:=["yard","drawing"]) fun _ _ _ _ _ _=>aQ fun _=>aQ fun _=>bR rfl
 have KC:=aS (st:=cm) l24 c24 k24
 have b24:=KC.binds (ps:=["word","cord","place"]) fun _ _ _ _ _ _=>aQ fun _=>aQ fun _=>aQ fun _=>bR rfl
 have KD:=aS (st:=fW) l25 c25 k25
 have b25:=KD.binds (ps:=["yard","drawing"]) fun _ _ _ _ _ _=>aQ fun _=>aQ fun _=>bR rfl
 have KG:=aS (st:=cJ) l26 c26 k26
 have b26:=KG.binds (ps:=["one","other"]) fun _ _ _ _ _ _=>aQ fun _=>aQ fun _=>bR rfl
 have Er:=aS (st:=fb) l27 c27 k27
 have b27:=Er.binds (ps:=["yard","drawing"]) fun _ _ _ _ _ _=>aQ fun _=>aQ fun _=>bR rfl
 have Br:=aS (st:=dZ) l28 c28 k28
 have b28:=Br.binds (ps:=["word"]) fun _ _ _ _ _ _=>aQ fun _=>bR rfl
 have uD:=aS (st:=fc) l29 c29 k29
 have b29:=uD.binds (ps:=["word"]) fun _ _ _ _ _ _=>aQ fun _=>bR rfl
 have w4:=aS (st:=mJ) l30 c30 k30
 have b30:=w4.binds (ps:=["word"]) fun _ _ _ _ _ _=>aQ fun _=>bR rfl
 have KH:=aS (st:=fX) l31 c31 k31
 have b31:=KH.binds (ps:=["one","other"]) fun _ _ _ _ _ _=>aQ fun _=>aQ fun _=>bR rfl
 have Es:=aS (st:=d_) l32 c32 k32
 have b32:=Es.binds (ps:=["word"]) fun _ _ _ _ _ _=>aQ fun _=>bR rfl
 have KI:=aS (st:=fe) l33 c33 k33
 have b33:=KI.binds (ps:=["cord","word"]) fun _ _ _ _ _ _=>aQ fun _=>aQ fun _=>bR rfl
 have KJ:=aS (st:=h7) l34 c34 k34
 have b34:=KJ.binds (ps:=["cord","word"]) fun _ _ _ _ _ _=>aQ fun _=>aQ fun _=>bR rfl
 have KL:=aS (st:=cn) l35 c35 k35
 have b35:=KL.binds (ps:=["one","other"]) fun _ _ _ _ _ _=>aQ fun _=>aQ fun _=>bR rfl
 have KN:=aS (st:=ee) l36 c36 k36
 have b36:=KN.binds (ps:=["cord","one","other"]) fun _ _ _ _ _ _=>aQ fun _=>aQ fun _=>aQ fun _=>bR rfl
 have KO:=aS (st:=dA) l37 c37 k37
 have b37:=KO.binds (ps:=["band","one","other"]) fun _ _ _ _ _ _=>aQ fun _=>aQ fun _=>aQ fun _=>bR rfl
 have KP:=aS (st:=dB) l38 c38 k38
 have b38:=KP.binds (ps:=["one","other"]) fun _ _ _ _ _ _=>aQ fun _=>aQ fun _=>bR rfl
 have KQ:=aS (st:=mK) l39 c39 k39
 have b39:=KQ.binds (ps:=["yard","one","other"]) fun _ _ _ _ _ _=>aQ fun _=>aQ fun _=>aQ fun _=>bR rfl
 have Bs:=aS (st:=mL) l40 c40 k40
 have b40:=Bs.binds (ps:=["_law_script","_law_k"]) fun _ _ _ _ _ _=>aQ fun _=>aQ fun _=>bR rfl
 have fE:=aS (st:=jH) l41 c41 k41
 have b41:=fE.binds (ps:=["_law_box_here","_law_many"]) fun _ _ _ _ _ _=>aQ fun _=>aQ fun _=>bR rfl
 have w5:=aS (st:=h_) l42 c42 k42
 have b42:=w5.binds (ps:=["_law_letter"]) fun _ _ _ _ _ _=>aQ fun _=>bR rfl
 have KR:=aS (st:=jI) l43 c43 k43
 have b43:=KR.binds (ps:=["_law_box_here","_law_few","_law_top"]) fun _ _ _ _ _ _=>aQ fun _=>aQ fun _=>aQ fun _=>bR rfl
 have KS:=aS (st:=jJ) l44 c44 k44
 have b44:=KS.binds (ps:=["_law_box_here","_law_yard_here","_law_top"]) fun _ _ _ _ _ _=>aQ fun _=>aQ fun _=>aQ fun _=>bR rfl
 have KU:=aS (st:=ia) l45 c45 k45
 have b45:=KU.binds (ps:=["_law_box_here","_law_things"]) fun _ _ _ _ _ _=>aQ fun _=>aQ fun _=>bR rfl
 have Et:=aS (st:=ib) l46 c46 k46
 have b46:=Et.binds (ps:=["_law_yard_here"]) fun _ _ _ _ _ _=>aQ fun _=>bR rfl
 have KW:=aS (st:=ff) l47 c47 k47
 have b47:=KW.binds (ps:=["_law_box_here","_law_yard_here","_law_words_here"]) fun _ _ _ _ _ _=>aQ fun _=>aQ fun _=>aQ fun _=>bR rfl
 have KY:=aS (st:=ic) l48 c48 k48
 have b48:=KY.binds (ps:=["_law_box_here","_law_yard_here"]) fun _ _ _ _ _ _=>aQ fun _=>aQ fun _=>bR rfl
 have KZ:=aS (st:=jK) l49 c49 k49
 have b49:=KZ.binds (ps:=["_law_box_here","_law_yard_here","_law_drawing_here"]) fun _ _ _ _ _ _=>aQ fun _=>aQ fun _=>aQ fun _=>bR rfl
 have QZ:=aS (st:=sN) l50 c50 k50
 have b50:=QZ.binds (ps:=["_law_script"]) fun _ _ _ _ _ _=>aQ fun _=>bR rfl
 have T:Txt K mg _ _ _ _ _ _ _ _ _ _ _ _ _ _ _ _ _ _ _ _ _ _ _ _ _ _ _ _ _ _ _ _ _ _ _ _ _ _ _ _ _ _ _ _ _ _ _ _ _ _ _ _ _ _ _ _ _ _ _ _ _ _ _ _ _ _ _ _ _ _ _ _ _ _ _ _ _ _ _ _ _ _ _ _ _ _ _ _ _ _ _ _ _ _ _ _ _ _ _ _ _ _:=⟨⟨F0,PySem.W.mg_of X G a0,b0⟩,⟨F1,PySem.W.mg_of X G a1,b1⟩,⟨F2,PySem.W.mg_of X G a2,b2⟩,⟨F3,PySem.W.mg_of X G a3,b3⟩,⟨F4,PySem.W.mg_of X G a4,b4⟩,⟨F5,PySem.W.mg_of X G a5,b5⟩,⟨F6,PySem.W.mg_of X G a6,b6⟩,⟨F7,PySem.W.mg_of X G a7,b7⟩,⟨F8,PySem.W.mg_of X G a8,b8⟩,⟨F9,PySem.W.mg_of X G a9,b9⟩,⟨Bo,PySem.W.mg_of X G a10,b10⟩,⟨Kr,PySem.W.mg_of X G a11,b11⟩,⟨Ks,PySem.W.mg_of X G a12,b12⟩,⟨Kt,PySem.W.mg_of X G a13,b13⟩,⟨Bp,PySem.W.mg_of X G a14,b14⟩,⟨Bq,PySem.W.mg_of X G a15,b15⟩,⟨Ku,PySem.W.mg_of X G a16,b16⟩,⟨Kv,PySem.W.mg_of X G a17,b17⟩,⟨Kw,PySem.W.mg_of X G a18,b18⟩,⟨Kx,PySem.W.mg_of X G a19,b19⟩,⟨Ky,PySem.W.mg_of X G a20,b20⟩,⟨wZ,PySem.W.mg_of X G a21,b21⟩,⟨Kz,PySem.W.mg_of X G a22,b22⟩,⟨KA,PySem.W.mg_of X G a23,b23⟩,⟨KC,PySem.W.mg_of X G a24,b24⟩,⟨KD,PySem.W.mg_of X G a25,b25⟩,⟨KG,PySem.W.mg_of X G a26,b26⟩,⟨Er,PySem.W.mg_of X G a27,b27⟩,⟨Br,PySem.W.mg_of X G a28,b28⟩,⟨uD,PySem.W.mg_of X G a29,b29⟩,⟨w4,PySem.W.mg_of X G a30,b30⟩,⟨KH,PySem.W.mg_of X G a31,b31⟩,⟨Es,PySem.W.mg_of X G a32,b32⟩,⟨KI,PySem.W.mg_of X G a33,b33⟩,⟨KJ,PySem.W.mg_of X G a34,b34⟩,⟨KL,PySem.W.mg_of X G a35,b35⟩,⟨KN,PySem.W.mg_of X G a36,b36⟩,⟨KO,PySem.W.mg_of X G a37,b37⟩,⟨KP,PySem.W.mg_of X G a38,b38⟩,⟨KQ,PySem.W.mg_of X G a39,b39⟩,⟨Bs,PySem.W.mg_of X G a40,b40⟩,⟨fE,PySem.W.mg_of X G a41,b41⟩,⟨w5,PySem.W.mg_of X G a42,b42⟩,⟨KR,PySem.W.mg_of X G a43,b43⟩,⟨KS,PySem.W.mg_of X G a44,b44⟩,⟨KU,PySem.W.mg_of X G a45,b45⟩,⟨Et,PySem.W.mg_of X G a46,b46⟩,⟨KW,PySem.W.mg_of X G a47,b47⟩,⟨KY,PySem.W.mg_of X G a48,b48⟩,⟨KZ,PySem.W.mg_of X G a49,b49⟩,⟨QZ,PySem.W.mg_of X G a50,b50⟩,PySem.W.mg_none_of X G z_all,PySem.W.mg_none_of X G z_enumerate,PySem.W.mg_none_of X G z_int,PySem.W.mg_none_of X G z_len,PySem.W.mg_none_of X G z_list,PySem.W.mg_none_of X G z_max,PySem.W.mg_none_of X G z_min,PySem.W.mg_none_of X G z_range,PySem.W.mg_none_of X G z_reversed,PySem.W.mg_none_of X G z_sorted,PySem.W.mg_none_of X G z_tuple,PySem.W.mg_none_of X G z_zip,⟨_,PySem.W.mg_of X G g_CORD⟩,⟨_,PySem.W.mg_of X G g_NO_LETTERS⟩,⟨_,PySem.W.mg_of X G g_BAND⟩⟩
 exact ⟨_,fun s v=> .of_eq rfl,fun base _ _=>Ly T⟩
theorem walk {l:PySem.W.OpenLaw} {q:Program} {loose:List Str} {XP:(Str->Option Value)->Heap->Prop} {YP:World->Heap->Prop} {d:DefRec} {K:Params->PySem.W.Frag} (hn:l.most=some 63) (MS:d.params.defaults=[])
  (hY: ∀(w:World) (h:Heap),YP w h->(K w.params).In h)
  (F: ∀(w:World) (mg:Str->Option Value) (fa:Addr) (h:Heap),(K w.params).In h->h.Ns mainGlobals mg->mg d.name=some (.ref fa)->
   ∃fd:FuncData,(∀(s:Shared) (u:Value),BindsTo s fd ⟨[u],[]⟩ [("_law_script",u)])/\ ∀base:Heap,(K w.params).In base->base.Ns mainGlobals mg->bE l.prog w (K w.params) mg base eI 8 fa fd ["_law_script"] (md (K w.params))):
  PySem.W.WalkO q loose XP YP l.row.toRowW d [] (fun f vs=>PySem.call f vs):=
 L2.yJ (n:=63) (k:=8) (x:="_law_script") (CX:=fun _=>eI) (sp:=fun w=>md (K w.params)) hn (by decide) MS ⟨rfl,by decide,by decide,rfl⟩ hY F (fun _ _ a ns hl _ hS=>⟨a,ns,rfl,hS,hl,fun _=>rfl⟩) fun _ _ _ _ _ z=>z
end My
namespace PySem.W.Fast
def tw10109728225378876313:=0
def tw10252012103738774661:=0
def tw10394545133529210785:=0
def tw10442258685096598226:=0
def tw10478164990620003486:=0
def tw10531327526238411098:=0
def tw10537663749990169050:=0
def tw10610158776559498751:=0
def tw10677157230531281767:=0
def tw10699091983369198987:=0
def tw10784389989057274897:=0
def tw10955285104034654316:=0
def tw10977319849647695685:=0
def tw11078080713490015214:=0
def tw11235835478310738556:=0
def tw11314616430380081172:=0
def tw11380695475936929139:=0
def tw11427025328174960593:=0
def tw11763526758886572313:=0
def tw12080713481722511243:=0
def tw12114671108939128506:=0
def tw12214933696211457678:=0
def tw12215820891514570935:=0
def tw12266948626201377539:=0
def tw12340773086604508809:=0
def tw12426905948261561840:=0
def tw12546869416067436705:=0
def tw12580698370525903587:=0
def tw12632605758709679694:=0
def tw12968661358222318688:=0
def tw13019152073515529320:=0
def tw13058077939542659455:=0
def tw13173008772300993513:=0
def tw13202570920882142625:=0
def tw13268576807576403772:=0
def tw13416534229800678362:=0
def tw13492233064192477159:=0
def tw13573374689567033510:=0
def tw1358745415790891774:=0
def tw13588885560767345518:=0
def tw13629891842976714873:=0
def tw13706223504409138863:=0
def tw13754889155218245543:=0
def tw13774560987013773126:=0
def tw13893189947836920897:=0
def tw13902758520405541136:=0
def tw13913329177749212264:=0
def tw13917231575988641981:=0
def tw14014259717958540069:=0
def tw14506706770180070970:=0
def tw14545420368885768138:=0
def tw14561246255145424112:=0
def tw14730963456794813063:=0
def tw14746988775803190698:=0
def tw14830804490138179783:=0
def tw14834856774121259348:=0
def tw14869429437987613111:=0
def tw14915778656624318968:=0
def tw1503004804320918280:=0
def tw1516271414601405695:=0
def tw15186104724713651393:=0
def tw15197357018862389187:=0
def tw15264689494364287234:=0
def tw15467559750014011388:=0
def tw15533508382570475636:=0
def tw15533613905908957235:=0
def tw15630520850895697942:=0
def tw15712511155562433769:=0
def tw15790863963957300119:=0
def tw15816269440276508450:=0
def tw15829446619344769652:=0
def tw15832602576095604255:=0
def tw15870237646023321336:=0
def tw159814342005441882:=0
def tw16067436476373249110:=0
def tw16121503427183769808:=0
def tw16208595235613760102:=0
def tw16250008192547838386:=0
def tw16262104311676221616:=0
def tw16346599673420322350:=0
def tw16368764433204956726:=0
def tw16415196970552185110:=0
def tw16578018790312480416:=0
def tw16595928067299088728:=0
def tw16610172763789743764:=0
def tw16683473230596513667:=0
def tw16707708377463000945:=0
def tw16731852352121256515:=0
def tw17084769150591967975:=0
def tw17107827548503270060:=0
def tw17233773697489576190:=0
def tw17370597060885770141:=0
def tw17479982994586375405:=0
def tw17571365267749273226:=0
def tw17661870335199214825:=0
def tw17765498929748967755:=0
def tw17983120237760821381:=0
def tw18140755018323174686:=0
def tw18147500090439282076:=0
def tw1815863123462287574:=0
def tw1837171457758924123:=0
def tw1839296938124716102:=0
def tw1856959128535750908:=0
def tw2260900550274669820:=0
def tw2313933934895818335:=0
def tw2379140003637254048:=0
def tw2394620413515093178:=0
def tw2716263290598608303:=0
def tw2809162486865199368:=0
def tw2883081857460502795:=0
def tw2887615565407202799:=0
def tw2896253916891979599:=0
def tw3091058940673020766:=0
def tw3150452343344361678:=0
def tw3231489719853657616:=0
def tw3293443052310576363:=0
def tw331805460372637069:=0
def tw3366227655683458323:=0
def tw3369527329275905801:=0
def tw3370450009037287406:=0
def tw3396587386247036415:=0
def tw3555989810458802267:=0
def tw3557807516836277468:=0
def tw3592880380905642915:=0
def tw3742255474519948676:=0
def tw3761324513884479823:=0
def tw3808028587189986624:=0
def tw3816600530725646490:=0
def tw3824666157961949638:=0
def tw388536132010993738:=0
def tw389330692695644571:=0
def tw3929818827101142130:=0
def tw3935090803160034438:=0
def tw3967637751738598030:=0
def tw4011370680159488527:=0
def tw4145281112046715806:=0
def tw4155224220564038750:=0
def tw4250583461873972832:=0
def tw428560487330449804:=0
def tw4303434621546642489:=0
def tw4362823587981441136:=0
def tw437631010295947474:=0
def tw4416185569145818428:=0
def tw4507160624292273238:=0
def tw4903897316127811323:=0
def tw5051032015252557465:=0
def tw5053099301637009801:=0
def tw5073553287282523621:=0
def tw5164476698210039887:=0
def tw5291402152907183322:=0
def tw5474201359068462288:=0
def tw5536319320146564526:=0
def tw5654311732094352877:=0
def tw5691575865813890063:=0
def tw5945385358020176026:=0
def tw6005070817656560918:=0
def tw6033385421102456200:=0
def tw605834935619074784:=0
def tw6108449472932840410:=0
def tw6144339070355500750:=0
def tw618204389845839016:=0
def tw666320193909143965:=0
def tw6704379265212393546:=0
def tw7014614347804157931:=0
def tw7048263766490782619:=0
def tw709296328004139918:=0
def tw7272860155739467430:=0
def tw7275621298940918623:=0
def tw7372926959951049582:=0
def tw7481619445480583125:=0
def tw7506906593269221905:=0
def tw7616658059465566917:=0
def tw7696234519956748270:=0
def tw7909288446601825588:=0
def tw796877383821714396:=0
def tw8020871190253982511:=0
def tw8032409571078720417:=0
def tw8119379078785586293:=0
def tw8123011026747613883:=0
def tw8240065859557506598:=0
def tw824644531618536410:=0
def tw8257758912106146908:=0
def tw830198803658418884:=0
def tw8304089854325593670:=0
def tw8314645732553131559:=0
def tw8349205325291163287:=0
def tw8440529891916457896:=0
def tw8525746292543596948:=0
def tw8607578910322016927:=0
def tw8808000951895578492:=0
def tw8828282558900206922:=0
def tw8964268570487958313:=0
def tw8995380264594177172:=0
def tw9029905366394661306:=0
def tw9322490626909138064:=0
def tw9468019173652022526:=0
def tw9502819730275280723:=0
def tw9521166398419309143:=0
def tw9699672647028301733:=0
def tw9855973984204280347:=0
end PySem.W.Fast
open PySem PySem.W PyProof.Rows
set_option maxRecDepth 100000 in
set_option maxHeartbeats 0 in
theorem PySem.Challenge.cw_mustmeet_k71_whole_written_turned_and_le_holds : PySem.Challenge.rw_mustmeet_k71_whole_written_turned_and_le.Holds := by
 w_on;o_law;k_head;(case hw=>w_witness2)
 k_fill
 refine My.walk (l:=PySem.Challenge.rw_mustmeet_k71_whole_written_turned_and_le) rfl rfl (fun w h Y=>PySem.W.kIn_of Y) ?F
 case F=>
  intro w mg fa h KX G hmg
  refine' My.all_mk KX G hmg ?a0 ?l0 ?c0 ?k0 ?a1 ?l1 ?c1 ?k1 ?a2 ?l2 ?c2 ?k2 ?a3 ?l3 ?c3 ?k3 ?a4 ?l4 ?c4 ?k4 ?a5 ?l5 ?c5 ?k5 ?a6 ?l6 ?c6 ?k6 ?a7 ?l7 ?c7 ?k7 ?a8 ?l8 ?c8 ?k8 ?a9 ?l9 ?c9 ?k9 ?a10 ?l10 ?c10 ?k10 ?a11 ?l11 ?c11 ?k11 ?a12 ?l12 ?c12 ?k12 ?a13 ?l13 ?c13 ?k13 ?a14 ?l14 ?c14 ?k14 ?a15 ?l15 ?c15 ?k15 ?a16 ?l16 ?c16 ?k16 ?a17 ?l17 ?c17 ?k17 ?a18 ?l18 ?c18 ?k18 ?a19 ?l19 ?c19 ?k19 ?a20 ?l20 ?c20 ?k20 ?a21 ?l21 ?c21 ?k21 ?a22 ?l22 ?c22 ?k22 ?a23 ?l23 ?c23 ?k23 ?a24 ?l24 ?c24 ?k24 ?a25 ?l25 ?c25 ?k25 ?a26 ?l26 ?c26 ?k26 ?a27 ?l27 ?c27 ?k27 ?a28 ?l28 ?c28 ?k28 ?a29 ?l29 ?c29 ?k29 ?a30 ?l30 ?c30 ?k30 ?a31 ?l31 ?c31 ?k31 ?a32 ?l32 ?c32 ?k32 ?a33 ?l33 ?c33 ?k33 ?a34 ?l34 ?c34 ?k34 ?a35 ?l35 ?c35 ?k35 ?a36 ?l36 ?c36 ?k36 ?a37 ?l37 ?c37 ?k37 ?a38 ?l38 ?c38 ?k38 ?a39 ?l39 ?c39 ?k39 ?a40 ?l40 ?c40 ?k40 ?a41 ?l41 ?c41 ?k41 ?a42 ?l42 ?c42 ?k42 ?a43 ?l43 ?c43 ?k43 ?a44 ?l44 ?c44 ?k44 ?a45 ?l45 ?c45 ?k45 ?a46 ?l46 ?c46 ?k46 ?a47 ?l47 ?c47 ?k47 ?a48 ?l48 ?c48 ?k48 ?a49 ?l49 ?c49 ?k49 ?a50 ?l50 ?c50 ?k50 ?g_CORD ?g_NO_LETTERS ?g_BAND ?z_all ?z_enumerate ?z_int ?z_len ?z_list ?z_max ?z_min ?z_range ?z_reversed ?z_sorted ?z_tuple ?z_zip
  case a0|l0|c0|k0|a1|l1|c1|k1|a2|l2|c2|k2|a3|l3|c3|k3|a4|l4|c4|k4|a5|l5|c5|k5|a6|l6|c6|k6|a7|l7|c7|k7|a8|l8|c8|k8|a9|l9|c9|k9|a10|l10|c10|k10|a11|l11|c11|k11|a12|l12|c12|k12|a13|l13|c13|k13|a14|l14|c14|k14|a15|l15|c15|k15|a16|l16|c16|k16|a17|l17|c17|k17|a18|l18|c18|k18|a19|l19|c19|k19|a20|l20|c20|k20|a21|l21|c21|k21|a22|l22|c22|k22|a23|l23|c23|k23|a24|l24|c24|k24|a25|l25|c25|k25|a26|l26|c26|k26|a27|l27|c27|k27|a28|l28|c28|k28|a29|l29|c29|k29|a30|l30|c30|k30|a31|l31|c31|k31|a32|l32|c32|k32|a33|l33|c33|k33|a34|l34|c34|k34|a35|l35|c35|k35|a36|l36|c36|k36|a37|l37|c37|k37|a38|l38|c38|k38|a39|l39|c39|k39|a40|l40|c40|k40|a41|l41|c41|k41|a42|l42|c42|k42|a43|l43|c43|k43|a44|l44|c44|k44|a45|l45|c45|k45|a46|l46|c46|k46|a47|l47|c47|k47|a48|l48|c48|k48|a49|l49|c49|k49|a50|l50|c50|k50|g_CORD|g_NO_LETTERS|g_BAND|z_all|z_enumerate|z_int|z_len|z_list|z_max|z_min|z_range|z_reversed|z_sorted|z_tuple|z_zip=>k_is
