import PyProof.Rows.All
import Wide.All
import OpenK.AllK
import Wide.FinOn
import Lean
import PyProof.EqAt
import PyProof.EqKinds
import PyProof.TupleCall
import PySem.Challenge.RW_mustmeet_k31_whole_rims_meet_nothing
set_option Elab.async false
set_option linter.all false
set_option maxRecDepth 100000
open List renaming getElem?_eq_getElem→Jd,getElem?_eq_some_iff→Je,length_map→K4,mem_singleton→O8,length_append→SD,length_pos_iff→SE,idxOf_lt_length_of_mem→Uy,mem_cons_self→Uz,mem_cons_of_mem→UB,getD_eq_getElem?_getD→UC,mem_cons→WG,size_toArray→WH,map_append→WI,mem_append→WJ,mem_of_getElem?→W9,getElem?_map→Xd,not_mem_nil→Xg,length_take→Xh,mem_append_right→Xj,mem_filter→Xk,map_cons→Xl,length_drop→Xn,take_of_length_le→Xo,getElem_mem→Xp,mem_map→Xr,filter_cons_of_neg→Xu,nodup_cons→Xw,append_assoc→Xx,append_nil→Xy,length_reverse→XA,length_cons→XB,filter_cons_of_pos→XC,flatMap_cons→XE,getElem_idxOf→XF,getElem?_append_left→XG,mem_flatMap→XH,lookup_cons→XI,length_eq_zero_iff→XM,take_append_drop→XT,flatMap_append→XU,mem_range→XX,getElem?_append_right→XY,mem_append_left→X0,drop_eq_getElem_cons→X1,nodup_append→X4,map_map→X5,drop_of_length_le→X8,pairwise_map→X9,length_filter_le→X_,take_length→Yb,flatten_cons→Ye,range_succ→Yf,pairwise_cons→Yk,getElem?_drop→Yl,pairwise_append→Ym,mem_of_mem_take→Yn,dropLast_concat→Yo,any_cons→Yq,getElem?_eq_none→Ys,pairwise_iff_getElem→Yt,foldl_cons→Yu,find?_cons→Yv,sum_cons→Yx,nodup_nil→Yy,filter_append→YA,map_reverse→YL,cons_append→YM,all_eq_true→YN,getLast?_eq_getElem?→YQ,getElem_of_mem→YS,getElem?_take→YU,eraseIdx_cons_succ→YV,lt_irrefl→Y2,flatMap_singleton→Y3,drop_eq_nil_of_le→Y4,getElem?_reverse→Y7,map_take→Za,mem_of_mem_drop→Zb,eq_nil_of_length_eq_zero→Zc,forIn_cons→Zf,map_congr_left→Zg,map_id→Zm,length_range→Zn,foldl_append→Zo,mem_reverse→Zw,getElem_map→Zx,length_pos_of_mem→ZE,head?_eq_getElem?→ZF,nil_append→ZJ,cons_lt_cons_iff→ZL,replicate_succ→ZN,filterMap_cons→ZO,map_drop→ZQ,take_add_one→ZX,filter_congr→ZY,ext_getElem?→ZZ,any_eq_false→Z0,flatMap_nil→Z6,of_mem_zip→Z9
open Nat renaming le_refl→SA,zero_le→Xb,ne_of_lt→Xm,lt_of_lt_of_le→Xq,le_trans→Xt,lt_of_le_of_lt→Xz,le_of_lt→XD,lt_irrefl→XN,min_eq_left→X6,min_eq_right→X7,succ_le_succ→Yi,mod_eq_of_lt→Yj,le_succ→Yp,lt_succ_self→Yr,mul_comm→Yw,lt_or_gt_of_ne→Yz,max_eq_left→YD,lt_succ_of_lt→YG,mod_lt→YH,max_eq_right→YJ,lt_trans→YK,le_succ_of_le→Y1,succ_ne_zero→Y8,div_add_mod→Ze,succ_mul→Zh,lt_asymm→Zi,succ_ne_self→Zv,zero_add→ZC,ne_of_gt→ZD,not_lt_zero→ZH,mod_add_div→ZI,div_lt_iff_lt_mul→ZK,mod_eq_sub_mod→ZT,sub_self→ZV,add_comm→ZW,le_antisymm→Z8
open PySem.Heap renaming get?_push_of_some→SF,get?_push_size→Xe,lt_size→Xf,get?_update_other→XJ,get?_update_self→Ya,size_push→Zd
open Int renaming toNat_natCast→UA,emod_eq_of_lt→Xv,emod_lt_of_pos→XS,natCast_add→XW,emod_nonneg→X2,add_emod_right→YB,emod_emod_of_dvd→YI,emod_eq_emod_iff_emod_sub_eq_zero→YO,dvd_of_emod_eq_zero→YW,zero_add→Y5,add_zero→Y6,natCast_emod→Y9,natCast_ediv→Y_,sub_zero→Zj,add_mul_emod_self_left→Zl,emod_add_emod→Zp,emod_eq_zero_of_dvd→Zy,emod_add_mul_ediv→ZM,emod_self→ZR,natCast_nonneg→ZU,zero_sub→Z2,sub_emod→Z3,emod_sub_emod→Z4,dvd_refl→Z5,natCast_mul→Z_
open PySem renaming boot_len→W_,mem_of_lookup→YR
open Option.some renaming inj→Xa
open PySem.F renaming plainAttrs_str→Xc,plainAttrs_list→Xs,type_list_append→XQ,slot_list_append→XR,plain_max_loop→Yc,type_str_join→Yg,slot_str_join→Yh,type_list_pop→YE,slot_list_pop→YF,type_str_lower→YX,type_str_index→YY,slot_str_lower→YZ,slot_str_index→Y0,type_str_islower→Zq,slot_str_islower→Zr,entry_max_loop→ZA
open Bool renaming false_ne_true→Xi,and_eq_true→XZ,false_eq_true→YC,eq_iff_iff→YT,or_false→Zt,false_or→Zu,not_true→ZS,decide_and→kb
open PySem.W renaming mg_none_of→XO,callWith_K→Zk,mg_of→ZP
open PyProof.Rows renaming callWith_type1→X3
open List.Pairwise renaming imp_of_mem→Zs,imp→Z1
open Array renaming toList_inj→Zz
open Option renaming map_some→ZG
open PySem.Heap.SameBut renaming update→Z7
namespace L2
open PySem PySem.Spec PyProof.Rows
abbrev Key:=Sum Int Str
noncomputable def qI:Key->Value->Bool
 | .inl k,v=>Value.isInt k v
 | .inr x,v=>Value.isStrOf x v
noncomputable def Qd (w:World):Key->Int
 | .inl k=>hashInt k
 | .inr x=>hashStr w x
theorem b8: ∀{k:Key} {v:Value},qI k v=true->(∃i t,k=Sum.inl i/\v=Value.int i t)\/(∃x t,k=Sum.inr x/\v=Value.str x t)
 | .inl i,v,h=>by
  obtain ⟨t,e⟩:=Value.isInt_shape (k:=i) (v:=v) h
  exact .inl ⟨i,t,rfl,e⟩
 | .inr x,v,h=>by
  obtain ⟨t,e⟩:=Value.isStrOf_shape (x:=x) (v:=v) h
  exact .inr ⟨x,t,rfl,e⟩
theorem Aj (i:Int) (t:Tok):qI (.inl i) (.int i t)=true:=by simp[qI,Value.isInt]
theorem Ak (x:Str) (t:Tok):qI (.inr x) (.str x t)=true:=by simp[qI,Value.isStrOf]
theorem Ij (a b:Int):decide ((Sum.inl a:Key)=Sum.inl b)=(a==b):=by
 by_cases e:a=b
 ·subst e;simp
 ·have h: ¬(Sum.inl a:Key)=Sum.inl b:=fun q=>e (Sum.inl.inj q)
  rw[decide_eq_false h]
  exact (beq_eq_false_iff_ne.mpr e).symm
theorem Ik (a b:Str):decide ((Sum.inr a:Key)=Sum.inr b)=decide (a=b):=by
 by_cases e:a=b
 ·subst e;simp
 ·have h: ¬(Sum.inr a:Key)=Sum.inr b:=fun q=>e (Sum.inr.inj q)
  rw[decide_eq_false h,decide_eq_false e]
theorem Il (a:Int) (b:Str):decide ((Sum.inl a:Key)=Sum.inr b)=false:=decide_eq_false (fun q=>nomatch q)
theorem Im (a:Str) (b:Int):decide ((Sum.inr a:Key)=Sum.inl b)=false:=decide_eq_false (fun q=>nomatch q)
noncomputable def cA (prog:Program) (w:World):PySem.KeyKind prog w Key where
 is:=qI
 hash:=Qd w
 inj:=fun v a b ha hb=>by
  rcases b8 ha with ⟨i,t,rfl,rfl⟩ | ⟨x,t,rfl,rfl⟩
  ·rcases b8 hb with ⟨j,u,rfl,e⟩ | ⟨y,u,rfl,e⟩
   ·injection e with e1 _;rw[e1]
   ·exact nomatch e
  ·rcases b8 hb with ⟨j,u,rfl,e⟩ | ⟨y,u,rfl,e⟩
   ·exact nomatch e
   ·injection e with e1 _;rw[e1]
 byValue:=fun k v h=>by
  rcases b8 h with ⟨i,t,rfl,rfl⟩ | ⟨x,t,rfl,rfl⟩<;>rfl
 pyHash:=fun hv h=>by
  rcases b8 hv with ⟨i,t,rfl,rfl⟩ | ⟨x,t,rfl,rfl⟩
  ·exact wpAny_pyHash_int h
  ·exact wpAny_pyHash_str h
 eqBool:=fun hu hv h=>by
  rcases b8 hu with ⟨i,t,rfl,rfl⟩ | ⟨x,t,rfl,rfl⟩
  ·rcases b8 hv with ⟨j,u,rfl,rfl⟩ | ⟨y,u,rfl,rfl⟩
   ·rw[Ij]at h;exact wpAny_eqBool_int h
   ·rw[Il]at h;exact SeqAt.EqAt.int_str i t y u _ _ _ _ h
  ·rcases b8 hv with ⟨j,u,rfl,rfl⟩ | ⟨y,u,rfl,rfl⟩
   ·rw[Im]at h;exact SeqAt.EqAt.str_int x t j u _ _ _ _ h
   ·rw[Ik]at h;exact wpAny_eqBool_str h
 «strs» :=fun k x t v h=>by
  rcases b8 h with ⟨i,u,rfl,e⟩ | ⟨y,u,rfl,e⟩
  ·exact nomatch e
  ·injection e with e1 _
   subst e1
   cases v<;>rfl
theorem uM (prog:Program) (w:World) (i:Int) (t:Tok):(cA prog w).is (.inl i) (.int i t)=true:=Aj i t
theorem uN (prog:Program) (w:World) (x:Str) (t:Tok):(cA prog w).is (.inr x) (.str x t)=true:=Ak x t
inductive V where
 | fE | bl (b:Bool) | int (i:Int) | str (x:Str) | yI (b:Array UInt8) | OV (b:UInt64) | ref (a:Addr) | ty (n:String)
 deriving DecidableEq
def RelV:V->Value->Prop
 | .fE,u=>u=Value.none
 | .bl b,u=>u=Value.bool b
 | .int i,u=> ∃t,u=Value.int i t
 | .str x,u=> ∃t,u=Value.str x t
 | .yI b,u=> ∃t,u=Value.bytes b t
 | .OV b,u=> ∃t,u=Value.float b t
 | .ref a,u=>u=Value.ref a
 | .ty n,u=>u=Value.type n
abbrev Vals:List V->List Value->Prop:=Paired RelV
theorem Vals.length {xs:List V} {us:List Value} (r:Vals xs us):xs.length=us.length:=Paired.length r
theorem Vals.get: ∀{xs:List V} {us:List Value} {i:Nat} {x:V},Vals xs us->xs[i]? =some x-> ∃u,us[i]? =some u/\RelV x u
 | _,_,_,_, .nil,e=>by simp at e
 | _,_,0,_, .cons r _,e=>by simp at e;subst e;exact ⟨_,rfl,r⟩
 | _,_,i+1,x, .cons _ t,e=>by
  obtain ⟨u,h1,h2⟩:=Vals.get (i:=i) (x:=x) t (by simpa using e)
  exact ⟨u,by simpa using h1,h2⟩
theorem Vals.set {x:V} {u:Value} (r:RelV x u): ∀{xs:List V} {us:List Value} (i:Nat),Vals xs us->Vals (xs.set i x) (us.set i u)
 | _,_,_, .nil=> .nil
 | _,_,0, .cons _ t=> .cons r t
 | _,_,i+1, .cons q t=> .cons q (Vals.set r i t)
theorem Vals.append: ∀{xs ys:List V} {us ws:List Value},Vals xs us->Vals ys ws->Vals (xs++ys) (us++ws)
 | _,_,_,_, .nil,s=>s
 | _,_,_,_, .cons r t,s=> .cons r (Vals.append t s)
theorem Vals.take: ∀{xs:List V} {us:List Value} (n:Nat),Vals xs us->Vals (xs.take n) (us.take n)
 | _,_,0,_=> .nil
 | _,_,_+1, .nil=> .nil
 | _,_,n+1, .cons r t=> .cons r (Vals.take n t)
theorem Vals.drop: ∀{xs:List V} {us:List Value} (n:Nat),Vals xs us->Vals (xs.drop n) (us.drop n)
 | _,_,0,r=>r
 | _,_,_+1, .nil=> .nil
 | _,_,n+1, .cons _ t=>Vals.drop n t
def lL:Option V->Option Value->Prop
 | some v,some u=>RelV v u
 | none,none=>True
 | _,_=>False
def KV {κ:Type}:List (κ×V)->List (κ×Value)->Prop:=Paired fun (p:κ×V) (q:κ×Value)=>p.1=q.1/\RelV p.2 q.2
noncomputable def kV:Key->V
 | .inl i=> .int i
 | .inr x=> .str x
inductive HO where
  | lst (xs:List V)
  | tup (xs:List V)
  | dK (aL:List (Key×V)) | dT (aL:List (List Key×V))
  | set (S:Int->Bool) (n:Nat)
  | ins (C dx:Addr) (fs:List (Str×V))
  | own (x:Addr)
  | xd (fs:List (Str×V))
  | met (f x:Addr)
  | Qe (lo hi:Int)
  | EW (o:Obj) (u:HO)
  | Io (ps:Array Value)
  | ext (φ:Heap->Prop)
abbrev Hp:=Addr->Option HO
noncomputable def upd (H:Hp) (a:Addr) (o:HO):Hp:=fun b=>if b=a then some o else H b
theorem ah {H:Hp} {a:Addr} {o:HO}:upd H a o a=some o:=by unfold upd;rw[if_pos rfl]
theorem ay {H:Hp} {a b:Addr} {o:HO} (h:b≠a):upd H a o b=H b:=by unfold upd;rw[if_neg h]
theorem MH {H:Hp} {a b:Addr} {o u:HO} (h:H a=some o) (h':H b=some u) (d:o≠u):a≠b:=by
 intro e;subst e;rw[h]at h';exact d (Xa h')
theorem az {H:Hp} {a b:Addr} {o:HO} (h:H a=some o) (h':H b=none):a≠b:=by
 intro e;subst e;rw[h]at h';cases h'
section
variable (P:Program) (w:World)
def cQ (H:Hp) (h:Heap) (a:Addr):HO->Prop
 | .lst xs=>xs.length<=sizeLine/\ ∃(aJ:List Value) (n:Nat),Vals xs aJ/\h.get? a=some { cls:= .type "list",data:= .seq aJ.toArray n }
 | .tup xs=>xs.length<=sizeLine/\ ∃aJ:List Value,Vals xs aJ/\IsTup h a aJ.toArray
 | .dK aL=>aL.length<=sizeLine/\(a==sysModules)=false/\ ∃vs,KV aL vs/\h.DictOf (cA P w) a vs
 | .dT aL=>aL.length<=sizeLine/\(a==sysModules)=false/\ ∃xs:List (List Key×Addr×Value),
   Paired (fun (p:List Key×V) (q:List Key×Addr×Value)=>p.1=q.1/\H q.2.1=some (.tup (p.1.map kV))/\RelV p.2 q.2.2) aL xs/\
   ∃o es ep,h.get? a=some o/\o.ExactDict/\o.data= .dict es ep/\es.toList=xs.map (entryOfKey (tupleKind (cA P w)))/\(xs.map (·.1)).Nodup
 | .set S n=>h.SetOf (intKind P w) a S n
 | .ins C dx fs=>H dx=some (.own a)/\fs.length<=1000/\dx≠a/\h.get? a=some (PySem.W.instObj C dx)/\
   ∃mA,h.Ns1 dx mA/\(∀f,lL (fs.lookup f) (mA f))/\PySem.Within mA (fs.map (·.1))
 | .own _=> ∃o,h.get? a=some o
 | .xd fs=> ∃mA,h.Ns1 a mA/\ ∀f,lL (fs.lookup f) (mA f)
 | .Qe lo hi=> ∃t u v,h.get? a=some { cls:= .type "range",data:= .fields #[.int lo t, .int hi u, .int 1 v] }
 | .EW o u=>h.get? a=some o/\cQ H h a u
 | .Io ps=>h.get? a=some { cls:= .none,data:= .fields ps }
 | .met f x=>h.get? a=some (PySem.W.methodObj (.ref f) (.ref x))
 | .ext φ=>φ h/\(∃o,h.get? a=some o)/\ ∀h1 h2:Heap,φ h1->(∀o,h1.get? a=some o->h2.get? a=some o)->φ h2
def jX (H:Hp) (h:Heap):Prop:= ∀a o,H a=some o->cQ P w H h a o
end
section
variable {P:Program} {w:World} {H H':Hp} {h h':Heap} {a:Addr} {o:HO}
theorem cQ.lt (x:cQ P w H h a o):a<h.objs.size:=by
 cases o with
 | lst xs=>obtain ⟨_,_,_,_,e⟩:=x;exact Xf e
 | tup xs=>obtain ⟨_,_,_,p⟩:=x;exact p.lt
 | dK aL=>obtain ⟨_,_,_,_,o,_,_,e,_⟩:=x;exact Xf e
 | dT aL=>obtain ⟨_,_,_,_,o,_,_,e,_⟩:=x;exact Xf e
 | set S n=>obtain ⟨o,_,_,_,e,_⟩:=x;exact Xf e
 | ins C dx fs=>obtain ⟨_,_,_,e,_⟩:=x;exact Xf e
 | own y=>obtain ⟨_,e⟩:=x;exact Xf e
 | xd fs=>obtain ⟨_,⟨_,_,_,e,_⟩,_⟩:=x;exact Xf e
 | Qe lo hi=>obtain ⟨_,_,_,e⟩:=x;exact Xf e
 | EW ob u=>obtain ⟨e,_⟩:=x;exact Xf e
 | Io ps=>exact Xf (show h.get? a=some _ from x)
 | met f y=>exact Xf (show h.get? a=some _ from x)
 | ext φ=>obtain ⟨_,⟨_,e⟩,_⟩:=x;exact Xf e
theorem Paired.Ip {α β:Type} {F G:α->β->Prop}: ∀{l₁:List α} {l₂:List β},Paired F l₁ l₂->(∀a b,F a b->G a b)->Paired G l₁ l₂
 | _,_, .nil,_=> .nil
 | _,_, .cons r t,f=> .cons (f _ _ r) (Paired.Ip t f)
theorem cQ.uO (x:cQ P w H h a o) (k: ∀b u,(b=a\/H b=some (.own a))->h.get? b=some u->h'.get? b=some u)
  (ho: ∀b,H b=some (.own a)->H' b=some (.own a)) (ht: ∀b xs,H b=some (.tup xs)->H' b=some (.tup xs)):cQ P w H' h' a o:=by
 induction o with
 | lst xs=>obtain ⟨z,aJ,n,r,e⟩:=x;exact ⟨z,aJ,n,r,k _ _ (.inl rfl) e⟩
 | tup xs=>obtain ⟨z,aJ,r,ob,e,c⟩:=x;exact ⟨z,aJ,r,ob,k _ _ (.inl rfl) e,c⟩
 | dK aL=>obtain ⟨z,y,vs,r,ob,es,ep,e,c⟩:=x;exact ⟨z,y,vs,r,ob,es,ep,k _ _ (.inl rfl) e,c⟩
 | dT aL=>
  obtain ⟨z,y,xs,r,ob,es,ep,e,c⟩:=x
  exact ⟨z,y,xs,Paired.Ip r fun p q z=>⟨z.1,ht _ _ z.2.1,z.2.2⟩,ob,es,ep,k _ _ (.inl rfl) e,c⟩
 | set S n=>obtain ⟨ob,es,ep,t,e,c⟩:=x;exact ⟨ob,es,ep,t,k _ _ (.inl rfl) e,c⟩
 | ins C dx fs=>
  obtain ⟨d,z,ne,e,mA,⟨od,es,ep,e2,c⟩,r⟩:=x
  exact ⟨ho _ d,z,ne,k _ _ (.inl rfl) e,mA,⟨od,es,ep,k _ _ (.inr d) e2,c⟩,r⟩
 | own y=>obtain ⟨ob,e⟩:=x;exact ⟨ob,k _ _ (.inl rfl) e⟩
 | xd fs=>obtain ⟨mA,⟨od,es,ep,e,c⟩,r⟩:=x;exact ⟨mA,⟨od,es,ep,k _ _ (.inl rfl) e,c⟩,r⟩
 | Qe lo hi=>obtain ⟨t,u,v,e⟩:=x;exact ⟨t,u,v,k _ _ (.inl rfl) e⟩
 | EW ob u ih=>obtain ⟨e,q⟩:=x;exact ⟨k _ _ (.inl rfl) e,ih q⟩
 | Io ps=>
  have e:h.get? a=some { cls:= .none,data:= .fields ps }:=x
  show h'.get? a=some { cls:= .none,data:= .fields ps }
  exact k a _ (.inl rfl) e
 | met f y=>
  have e:h.get? a=some (PySem.W.methodObj (.ref f) (.ref y)):=x
  show h'.get? a=some (PySem.W.methodObj (.ref f) (.ref y))
  exact k a _ (.inl rfl) e
 | ext φ=>obtain ⟨p,⟨o,e⟩,st⟩:=x;exact ⟨st _ _ p fun o q=>k _ _ (.inl rfl) q,⟨o,k _ _ (.inl rfl) e⟩,st⟩
theorem jX.lt (x:jX P w H h) (e:H a=some o):a<h.objs.size:=(x a o e).lt
theorem jX.fresh (x:jX P w H h) (e:h.objs.size<=a):H a=none:=by
 cases q:H a with
 | none=>rfl
 | some u=>exact absurd (Xq (x.lt q) e) (XN _)
theorem jX.kept (x:jX P w H h) (k: ∀b u,h.get? b=some u->h'.get? b=some u):jX P w H h':=fun a o e=>
 (x a o e).uO (fun b u _ q=>k b u q) (fun _ q=>q) fun _ _ q=>q
theorem jX.laid (x:jX P w H h) (k: ∀b u,h.get? b=some u->h'.get? b=some u) (hp:h.objs.size<=a) (new:cQ P w (upd H a o) h' a o):jX P w (upd H a o) h':=fun b u e=>by
 have hn:=x.fresh hp
 by_cases hb:b=a
 ·subst hb;rw[ah]at e;cases e;exact new
 ·rw[ay hb]at e
  exact (x b u e).uO (fun c v _ q=>k c v q) (fun c q=>by rw[ay (az q hn)];exact q) fun c xs q=>by rw[ay (az q hn)];exact q
end
def Rd (H:Hp) (a:Addr) (u:HO):Prop:=H a=some u\/ ∃o,H a=some (.EW o u)
theorem Rd.ok {P:Program} {w:World} {H:Hp} {h:Heap} {a:Addr} {u:HO} (r:Rd H a u) (x:jX P w H h):cQ P w H h a u:=by
 rcases r with r | ⟨o,r⟩
 ·exact x a u r
 ·obtain ⟨_,q⟩:=x a _ r
  exact q
def MI:Option HO->Prop
 | some (.lst _)=>True
 | some (.dK _)=>True
 | some (.dT _)=>True
 | some (.set _ _)=>True
 | some (.ins _ _ _)=>True
 | some (.ext _)=>True
 | _=>False
section
variable {P:Program} {w:World} {H:Hp} {h h':Heap} {x e:Addr} {o':HO}
theorem jX.write (ok:jX P w H h) (mu:MI (H x)) (he:e=x\/H e=some (.own x)) (k: ∀b u,b≠e->h.get? b=some u->h'.get? b=some u) (KY: ∃u,h'.get? e=some u)
  (new:cQ P w (upd H x o') h' x o'):jX P w (upd H x o') h':=fun b u q=>by
 have MJ: ∀c y,H c=some (.own y)->c≠x:=fun c y r z=>by subst z;rw[r]at mu;exact mu
 have Qf: ∀c xs,H c=some (.tup xs)->c≠x:=fun c xs r z=>by subst z;rw[r]at mu;exact mu
 by_cases hb:b=x
 ·subst hb;rw[ah]at q;cases q;exact new
 ·rw[ay hb]at q
  by_cases EX:b=e
  ·have q':H b=some (.own x):=by
    rcases he with z | z
    ·exact absurd (EX.trans z) hb
    ·rw[EX];exact z
   rw[q]at q';cases q'
   obtain ⟨v,hv⟩:=KY
   exact ⟨v,by rw[EX];exact hv⟩
  ·refine (ok b u q).uO (fun c v hc r=>k c v ?_ r) (fun c r=>by rw[ay (MJ c b r)];exact r) fun c xs r=>by rw[ay (Qf c xs r)];exact r
   rcases hc with rfl | hc
   ·exact EX
   ·rintro rfl
    rcases he with z | z
    ·exact MJ c b hc z
    ·rw[hc]at z;cases z;exact hb rfl
end
structure Un (fs ex:List Addr) (H H':Hp) (h h':Heap):Prop where
 keep: ∀b o,h.get? b=some o->H b=none->b∉fs->b∉ex->h'.get? b=some o
 slot: ∀b o,h.get? b=some o->H b=none->b∈fs->b∉ex-> ∃sl,h'.get? b=some { o with slots:=sl }
 free: ∀b o,h.get? b=some o->H b=none->b∉ex->H' b=none
 there: ∀b o,h.get? b=some o->b∉ex-> ∃o',h'.get? b=some o'
 qh: ∀b xs,H b=some (.tup xs)->H' b=some (.tup xs)
 oa: ∀b o u,H b=some (.EW o u)->H' b=some (.EW o u)
 sj: ∀b ps,H b=some (.Io ps)-> ∃more,H' b=some (.Io (ps++more))
section
variable {fs Ue ex Wz:List Addr} {H H1 H2:Hp} {h h1 h2 h':Heap} {a x e:Addr} {o:HO}
theorem Un.any (u:Un fs ex H H1 h h1) {b:Addr} {ob:Obj} (q:h.get? b=some ob) (n:H b=none) (hx:b∉ex): ∃sl,h1.get? b=some { ob with slots:=sl }:=by
 by_cases hb:b∈fs
 ·exact u.slot b ob q n hb hx
 ·exact ⟨ob.slots,u.keep b ob q n hb hx⟩
theorem Un.kept (k: ∀b u,h.get? b=some u->h'.get? b=some u):Un fs ex H H h h':=
 ⟨fun b ob q _ _ _=>k b ob q,fun b ob q _ _ _=>⟨ob.slots,k b ob q⟩,fun _ _ _ n _=>n,fun b ob q _=>⟨ob,k b ob q⟩,fun _ _ q=>q,fun _ _ _ q=>q,fun _ ps q=>⟨#[],by rw[q];simp⟩⟩
theorem Un.refl:Un fs ex H H h h:=Un.kept fun _ _ q=>q
theorem Un.laid (k: ∀b u,h.get? b=some u->h'.get? b=some u) (hp:h.objs.size<=a) (hn:H a=none):Un fs ex H (upd H a o) h h' where
 keep:=fun b u q _ _ _=>k b u q
 slot:=fun b u q _ _ _=>⟨u.slots,k b u q⟩
 free:=fun b u q n _=>by rw[ay (Xm (Xq (Xf q) hp))];exact n
 there:=fun b u q _=>⟨u,k b u q⟩
 qh:=fun b xs q=>by rw[ay (az q hn)];exact q
 oa:=fun b u xs q=>by rw[ay (az q hn)];exact q
 sj:=fun b ps q=>⟨#[],by rw[ay (az q hn),q];simp⟩
theorem Un.write (mu:MI (H x)) (he:e=x\/H e=some (.own x)) (k: ∀b u,b≠e->h.get? b=some u->h'.get? b=some u) (KY: ∃u,h'.get? e=some u):Un fs ex H (upd H x o) h h':=by
 have hx: ∀b,H b=none->b≠x:=fun b n z=>by subst z;rw[n]at mu;exact mu
 have hb: ∀b,H b=none->b≠e:=fun b n z=>by
  subst z
  rcases he with r | r
  ·exact hx b n r
  ·rw[n]at r;cases r
 have hm: ∀b u,H b=some u-> ¬MI (some u)->b≠x:=fun b u q nm z=>by subst z;rw[q]at mu;exact nm mu
 refine ⟨fun b u q n _ _=>k b u (hb b n) q,fun b u q n _ _=>⟨u.slots,k b u (hb b n) q⟩,fun b u q n _=>by rw[ay (hx b n)];exact n,fun b u q _=>?_,
  fun b xs q=>by rw[ay (hm b _ q fun z=>z)];exact q,fun b u xs q=>by rw[ay (hm b _ q fun z=>z)];exact q,fun b ps q=>⟨#[],by rw[ay (hm b _ q fun z=>z),q];simp⟩⟩
 by_cases EX:b=e
 ·subst EX;exact KY
 ·exact ⟨u,k b u EX q⟩
end
noncomputable def OW (h:Heap) (H:Hp):List Addr:=(List.range h.objs.size).filter fun a=>(H a).isSome
noncomputable def sk (h:Heap) (H:Hp):Heap:=PySem.W.hideAll h (OW h H)
theorem Al (h:Heap) (H:Hp):(sk h H).objs.size=h.objs.size:=PySem.W.hideAll_size _ _
theorem BU {h:Heap} {H:Hp} {b:Addr} {o:Obj} (e:h.get? b=some o) (n:H b=none):(sk h H).get? b=some o:=
 PySem.W.hideAll_get _ e fun hm=>by
  have q:(H b).isSome=true:=(Xk.mp hm).2
  rw[n]at q;simp at q
theorem Fg {h:Heap} {H:Hp} {b:Addr} {o:Obj} (e:(sk h H).get? b=some o):h.get? b=some o/\H b=none:=by
 have e':h.get? b=some o:=PySem.W.of_hideAll (OW h H) e
 refine ⟨e',?_⟩
 cases q:H b with
 | none=>rfl
 | some x=>
  have hm:b∈OW h H:=Xk.mpr ⟨XX.mpr (Xf e'),by simp[q]⟩
  have z:(sk h H).get? b=none:=PySem.W.hideAll_none (OW h H) hm
  rw[z]at e;cases e
structure Mod (K:PySem.W.Frag) (mg:Str->Option Value) (base:Heap):Prop where
 KZ:K.In base
 glob:base.Ns mainGlobals mg
 blt: ∃mb,base.Ns builtinsNs mb/\ ∀x:Str,x≠"__name__"->mb x=bootBuiltins x
 nolimit:base.NoLimit
structure Cx where
 prog:Program
 w:World
 K:PySem.W.Frag
 mg:Str->Option Value
 base:Heap
 A:Around
 N:List Str
 s₀:Shared
 H₀:Hp
 env:Env
 outer:List Env
 stack:List Env
 ex:List Addr
 fn:Str->Bool
 calm:Bool
 pn:List (Addr×Obj)
 xe:Value->Shared->Prop
noncomputable def yJ (l:List Env):List Addr:=l.filterMap (·.frame)
noncomputable abbrev Cx.fs (X:Cx):List Addr:=yJ X.outer
def MK (sc:Scope) (x:Str):Prop:=sc.names.lookup x=some .local\/sc.names.lookup x=some .cell\/sc.names.lookup x=some .free
def Loc (sc:Scope) (x:Str):Prop:=sc.names.lookup x=some .local\/sc.names.lookup x=some .cell
def Look (env:Env) (h:Heap) (m:Str->Option Value) (x:Str) (u:Value):Prop:=
 (env.kindOf x=some .local/\m x=some u)\/((env.kindOf x=some .cell\/env.kindOf x=some .free)/\ ∃c,env.cells.lookup x=some c/\h.IsCell c (some u))
structure Cx.Ok (X:Cx):Prop where
 mod:Mod X.K X.mg X.base
 kind:X.env.scope.kind= .function
 glob:X.env.globals=mainGlobals
 blt:X.env.builtins=builtinsNs
 above:X.s₀.heap.objs.size<=X.env.locals
 inj: ∀x y c,X.env.cells.lookup x=some c->X.env.cells.lookup y=some c->x=y
 has: ∀x,(X.env.kindOf x=some .cell\/X.env.kindOf x=some .free)-> ∃c,X.env.cells.lookup x=some c
 ML: ∀x c,X.fn x=true->X.env.cells.lookup x=some c->X.s₀.heap.objs.size<=c
 hd:X.calm=true->X.A.handled=none
 frames:X.A.frames=some X.stack
 OX:X.stack=X.outer\/(X.stack=X.env::X.outer/\X.env.frame=some X.env.locals)
 Sk: ∀b∈X.ex,b≠X.env.locals/\ ∀x c,X.env.cells.lookup x=some c->c≠b
 bs: ∀b o,X.base.get? b=some o->X.s₀.heap.get? b=some o/\X.H₀ b=none
 Fh:X.base.objs.size<=X.s₀.heap.objs.size
 BV: ∀b o,X.base.get? b=some o->b∉X.ex
 Fi: ∀b∈X.ex,b∉X.fs
 m4:X.s₀.heap.FunFrames X.base X.outer
 Iq: ∀b∈X.fs,X.H₀ b=none
structure Inv (X:Cx) (pins:List (Addr×Obj)) (σ:List (Option V)) (H:Hp) (s:Shared):Prop where
 ok:X.Ok
 os:s.os=X.s₀.os
 bare:AllBare s.gens
 base:Un X.fs X.ex X.H₀ H X.s₀.heap s.heap
 loc: ∃m,s.heap.Ns X.env.locals m/\ ∀(i:Nat) (x:Str) (v:V),X.N[i]? =some x->σ[i]? =some (some v)->MK X.env.scope x-> ∃u,RelV v u/\Look X.env s.heap m x u
 cell: ∀x c,X.env.cells.lookup x=some c-> ∃v,s.heap.IsCell c v
 free:H X.env.locals=none
 iB: ∀x c,X.env.cells.lookup x=some c->H c=none
 pin: ∀p∈X.pn++pins,s.heap.get? p.1=some p.2/\H p.1=none/\p.1≠X.env.locals/\p.1∉X.fs/\ ∀v,p.2.data≠ .cell v
 b5:jX X.prog X.w H s.heap
 len:σ.length=X.N.length
section
variable {X:Cx} {pins:List (Addr×Obj)} {σ:List (Option V)} {H H':Hp} {s:Shared} {h':Heap}
theorem Cx.Ok.Qg (ok:X.Ok) {b:Addr} {o:Obj} (e:X.base.get? b=some o):b∉X.fs:=fun hb=>by
 have:=(ok.m4.mem hb).1
 rw[e]at this;cases this
theorem Inv.bs (I:Inv X pins σ H s): ∀b o,X.base.get? b=some o->s.heap.get? b=some o/\H b=none:=fun b o e=>
 ⟨I.base.keep b o (I.ok.bs b o e).1 (I.ok.bs b o e).2 (I.ok.Qg e) (I.ok.BV b o e),I.base.free b o (I.ok.bs b o e).1 (I.ok.bs b o e).2 (I.ok.BV b o e)⟩
theorem Inv.bk (I:Inv X pins σ H s): ∀b o,X.base.get? b=some o->s.heap.get? b=some o:=fun b o e=>(I.bs b o e).1
theorem Inv.mod (I:Inv X pins σ H s):Mod X.K X.mg X.base:=I.ok.mod
theorem Inv.Am (I:Inv X pins σ H s):X.K.In s.heap:=I.ok.mod.KZ.keeps I.bk
theorem Inv.lt (I:Inv X pins σ H s):X.env.locals<s.heap.objs.size:=let ⟨_,hn,_⟩:=I.loc;hn.lt
theorem Inv.sz (I:Inv X pins σ H s):X.s₀.heap.objs.size<=s.heap.objs.size:=Xt I.ok.above (XD I.lt)
theorem Inv.Ir (I:Inv X pins σ H s) {a:Addr} (h:s.heap.objs.size<=a):a∉X.fs:=fun hb=>by
 obtain ⟨_,o,ho,_⟩:=I.ok.m4.mem hb
 exact absurd (Xq (Xf ho) (Xt I.sz h)) (XN _)
theorem Inv.Iu (I:Inv X pins σ H s): ∀x c,X.env.cells.lookup x=some c->c≠X.env.locals:=fun x c e z=>by
 obtain ⟨v,o,ho,hd⟩:=I.cell x c e
 obtain ⟨m,⟨o',es,ep,Fj,Qh,_⟩,_⟩:=I.loc
 rw[z,Fj]at ho;cases ho;rw[Qh]at hd;cases hd
theorem Inv.m4 (I:Inv X pins σ H s):s.heap.FunFrames X.base X.outer:=by
 have all: ∀(l:List Env),(∀b∈yJ l,b∈X.fs)->X.s₀.heap.FunFrames X.base l->s.heap.FunFrames X.base l:=by
  intro l
  induction l with
  | nil=>intro _ _;trivial
  | cons env r ih=>
   intro hs hl
   obtain ⟨hk,⟨L,o,hf,hn,ho,hd⟩,hr⟩:=hl
   have hL:L∈X.fs:=hs L (by unfold yJ;rw[ZO,hf];exact Uz)
   obtain ⟨sl,e⟩:=I.base.slot L o ho (I.ok.Iq L hL) hL fun z=>I.ok.Fi L z hL
   exact ⟨hk,⟨L,_,hf,hn,e,hd⟩,ih (fun b hb=>hs b (by unfold yJ;rw[ZO,hf];exact UB _ hb)) hr⟩
 exact all X.outer (fun _ hb=>hb) I.ok.m4
theorem Inv.stack (I:Inv X pins σ H s):s.heap.FunFrames X.base X.stack:=by
 rcases I.ok.OX with e | ⟨e,hf⟩
 ·rw[e];exact I.m4
 ·rw[e]
  obtain ⟨m,hn,_⟩:=I.loc
  refine .cons (by rw[I.ok.kind];decide) hf hn ?_ I.m4
  exact Heap.get?_none_of_le (Xt I.ok.Fh I.ok.above)
theorem Inv.oe (I:Inv X pins σ H s): ∀b∈yJ X.stack,b∈X.env.locals::X.fs:=fun b hb=>by
 rcases I.ok.OX with e | ⟨e,hf⟩
 ·rw[e]at hb;exact UB _ hb
 ·rw[e]at hb
  unfold yJ at hb
  rw[ZO,hf]at hb
  exact hb
theorem Inv.yK (I:Inv X pins σ H s): ∀b∈yJ X.stack,H b=none:=fun b hb=>by
 rcases WG.mp (I.oe b hb) with e | hb
 ·rw[e];exact I.free
 ·obtain ⟨_,o,ho,_⟩:=I.ok.m4.mem hb
  exact I.base.free b o ho (I.ok.Iq b hb) fun z=>I.ok.Fi b z hb
theorem Inv.step {g':Array GenState} {t':Nat} {d':Drawn} {ch:List Addr} (I:Inv X pins σ H s)
  (EY: ∀b∈ch,(b∈X.ex\/X.s₀.heap.objs.size<=b)/\b≠X.env.locals/\(∀x c,X.env.cells.lookup x=some c->c≠b)/\ ∀p∈X.pn++pins,p.1≠b)
  (keep: ∀b o,b≠X.env.locals->b∉X.fs->b∉ch->s.heap.get? b=some o->H b=none->h'.get? b=some o)
  (slot: ∀b o,b≠X.env.locals->b∈X.fs->b∉ch->s.heap.get? b=some o->H b=none-> ∃sl,h'.get? b=some { o with slots:=sl }) (free: ∀b o,b∉ch->s.heap.get? b=some o->H b=none->H' b=none)
  (there: ∀b o,b∉ch->s.heap.get? b=some o-> ∃o',h'.get? b=some o')
  (qh: ∀b xs,H b=some (.tup xs)->H' b=some (.tup xs)) (oa: ∀b o u,H b=some (.EW o u)->H' b=some (.EW o u)) (sj: ∀b ps,H b=some (.Io ps)-> ∃more,H' b=some (.Io (ps++more)))
  (ns: ∀m,s.heap.Ns X.env.locals m->h'.Ns X.env.locals m) (b5:jX X.prog X.w H' h') (hg:AllBare g'):
  Inv X pins σ H' { s with heap:=h',gens:=g',drawn:=d',toks:=t' }:=by
 have Sl: ∀b o,X.s₀.heap.get? b=some o->b≠X.env.locals:=fun b o e=>Xm (Xq (Xf e) I.ok.above)
 have Iv: ∀b o,X.s₀.heap.get? b=some o->b∉X.ex->b∉ch:=fun b o e hx hb=>by
  rcases (EY b hb).1 with z | z
  ·exact hx z
  ·exact absurd (Xq (Xf e) z) (XN _)
 have cellK: ∀x c,X.env.cells.lookup x=some c-> ∀v,s.heap.IsCell c v->h'.IsCell c v:=fun x c e v ⟨o,ho,hd⟩=>by
  have MM:c∉ch:=fun z=>(EY c z).2.2.1 x c e rfl
  by_cases hc:c∈X.fs
  ·obtain ⟨sl,q⟩:=slot c o (I.Iu x c e) hc MM ho (I.iB x c e)
   exact ⟨_,q,hd⟩
  ·exact ⟨o,keep c o (I.Iu x c e) hc MM ho (I.iB x c e),hd⟩
 refine ⟨I.ok,I.os,hg,⟨fun b o e n hb hx=>?_,fun b o e n hb hx=>?_,fun b o e n hx=>?_,fun b o e hx=>?_,fun b xs e=>qh b xs (I.base.qh b xs e),fun b o xs e=>oa b o xs (I.base.oa b o xs e),fun b ps e=>?_⟩,?_,fun x c e=>?_,?_,fun x c e=>?_,fun p hp=>?_,b5,I.len⟩
 ·exact keep b o (Sl b o e) hb (Iv b o e hx) (I.base.keep b o e n hb hx) (I.base.free b o e n hx)
 ·obtain ⟨sl,e1⟩:=I.base.slot b o e n hb hx
  obtain ⟨Ug,e2⟩:=slot b _ (Sl b o e) hb (Iv b o e hx) e1 (I.base.free b o e n hx)
  exact ⟨Ug,e2⟩
 ·obtain ⟨o',e1⟩:=I.base.there b o e hx
  exact free b o' (Iv b o e hx) e1 (I.base.free b o e n hx)
 ·obtain ⟨o',e1⟩:=I.base.there b o e hx
  exact there b o' (Iv b o e hx) e1
 ·obtain ⟨m1,e1⟩:=I.base.sj b ps e
  obtain ⟨m2,e2⟩:=sj b _ e1
  exact ⟨m1++m2,by rw[e2,Array.append_assoc]⟩
 ·obtain ⟨m,hn,hl⟩:=I.loc
  refine ⟨m,ns m hn,fun i x v e1 e2 e3=>?_⟩
  obtain ⟨u,r,l⟩:=hl i x v e1 e2 e3
  refine ⟨u,r,?_⟩
  rcases l with l | ⟨k,c,e,z⟩
  ·exact .inl l
  ·exact .inr ⟨k,c,e,cellK x c e _ z⟩
 ·obtain ⟨v,z⟩:=I.cell x c e
  exact ⟨v,cellK x c e v z⟩
 ·obtain ⟨m,⟨o,_,_,ho,_⟩,_⟩:=I.loc
  exact free _ o (fun z=>(EY _ z).2.1 rfl) ho I.free
 ·obtain ⟨v,o,ho,hd⟩:=I.cell x c e
  exact free c o (fun z=>(EY c z).2.2.1 x c e rfl) ho (I.iB x c e)
 ·obtain ⟨e,n,ne,nf,d⟩:=I.pin p hp
  have MM:p.1∉ch:=fun z=>(EY p.1 z).2.2.2 p hp rfl
  exact ⟨keep p.1 p.2 ne nf MM e n,free p.1 p.2 MM e n,ne,nf,d⟩
theorem Inv.un {t':Nat} (I:Inv X pins σ H s) (u:Un X.fs [] H H' s.heap h') (b5:jX X.prog X.w H' h'):Inv X pins σ H' { s with heap:=h',toks:=t' }:=by
 obtain ⟨m,⟨o,es,ep,ho,r⟩,_⟩:=id I.loc
 obtain ⟨sl,hL⟩:=u.any ho I.free (by simp)
 exact I.step (g':=s.gens) (d':=s.drawn) (ch:=[]) (fun _ z=>nomatch z) (fun b o _ hb _ e n=>u.keep b o e n hb (by simp)) (fun b o _ hb _ e n=>u.slot b o e n hb (by simp)) (fun b o _ e n=>u.free b o e n (by simp)) (fun b o _ e=>u.there b o e (by simp)) u.qh u.oa u.sj (fun m' hm=>by
  obtain ⟨o',Qi,MN,Fj,r'⟩:=hm
  rw[ho]at Fj;cases Fj
  exact ⟨_,Qi,MN,hL,r'⟩) b5 I.bare
theorem Inv.call {g':Array GenState} {t':Nat} {d':Drawn} {ch:List Addr} (I:Inv X pins σ H s) (u:Un (yJ X.stack) ch H H' s.heap h') (b5:jX X.prog X.w H' h') (hg:AllBare g')
  (EY: ∀b∈ch,(b∈X.ex\/X.s₀.heap.objs.size<=b)/\b≠X.env.locals/\(∀x c,X.env.cells.lookup x=some c->c≠b)/\ ∀p∈X.pn++pins,p.1≠b):
  Inv X pins σ H' { s with heap:=h',gens:=g',drawn:=d',toks:=t' }:=by
 obtain ⟨m,⟨o,es,ep,ho,r⟩,_⟩:=id I.loc
 obtain ⟨sl,hL⟩:=u.any ho I.free fun z=>(EY _ z).2.1 rfl
 exact I.step (ch:=ch) EY (fun b o hL hb hc e n=>u.keep b o e n (fun z=>(WG.mp (I.oe b z)).elim hL hb) hc) (fun b o _ _ hc e n=>u.any e n hc) (fun b o hc e n=>u.free b o e n hc) (fun b o hc e=>u.there b o e hc) u.qh u.oa u.sj (fun m' hm=>by
  obtain ⟨o',Qi,MN,Fj,r'⟩:=hm
  rw[ho]at Fj;cases Fj
  exact ⟨_,Qi,MN,hL,r'⟩) b5 hg
theorem Inv.turned {t':Nat} {it:Addr} (I:Inv X pins σ H s) (k: ∀b o,b≠it->s.heap.get? b=some o->h'.get? b=some o) (hn:H it=none) (hL:it≠X.env.locals)
  (h1:it∈X.ex\/X.s₀.heap.objs.size<=it) (h2: ∀x c,X.env.cells.lookup x=some c->c≠it) (h3: ∀p∈X.pn++pins,p.1≠it):Inv X pins σ H { s with heap:=h',toks:=t' }:=by
 have Hs: ∀b u,H b=some u->b≠it:=fun b u e z=>by rw[z,hn]at e;cases e
 refine I.step (g':=s.gens) (d':=s.drawn) (ch:=[it]) (fun b hb=>?_) (fun b o _ _ hc e _=>k b o (fun z=>hc (by simp[z])) e) (fun b o _ _ hc e _=>⟨o.slots,k b o (fun z=>hc (by simp[z])) e⟩) (fun _ _ _ _ n=>n)
  (fun b o hc e=>⟨o,k b o (fun z=>hc (by simp[z])) e⟩) (fun _ _ e=>e) (fun _ _ _ e=>e) (fun b ps e=>⟨#[],by rw[e];simp⟩) (fun m hm=>?_) (fun b u e=>?_) I.bare
 ·have e:b=it:=by simpa using hb
  subst e
  exact ⟨h1,hL,h2,h3⟩
 ·obtain ⟨o,es,ep,ho,r⟩:=hm
  exact ⟨o,es,ep,k _ o (Ne.symm hL) ho,r⟩
 ·refine (I.b5 b u e).uO (fun c v hc q=>k c v ?_ q) (fun _ q=>q) fun _ _ q=>q
  rcases hc with z | z
  ·rw[z];exact Hs b u e
  ·exact Hs c _ z
theorem Inv.tok (I:Inv X pins σ H s) (t:Nat):Inv X pins σ H { s with toks:=t }:=I.un (h':=s.heap) (t':=t) Un.refl I.b5
theorem Inv.kept {t':Nat} (I:Inv X pins σ H s) (k: ∀b u,s.heap.get? b=some u->h'.get? b=some u):Inv X pins σ H { s with heap:=h',toks:=t' }:=I.un (Un.kept k) (I.b5.kept k)
theorem Inv.laid {a:Addr} {o:HO} {t':Nat} (I:Inv X pins σ H s) (k: ∀b u,s.heap.get? b=some u->h'.get? b=some u) (hp:s.heap.objs.size<=a) (new:cQ X.prog X.w (upd H a o) h' a o):
  Inv X pins σ (upd H a o) { s with heap:=h',toks:=t' }:=I.un (Un.laid k hp (I.b5.fresh hp)) (I.b5.laid k hp new)
theorem Inv.write {x e:Addr} {o:HO} {t':Nat} (I:Inv X pins σ H s) (mu:MI (H x)) (he:e=x\/H e=some (.own x)) (k: ∀b u,b≠e->s.heap.get? b=some u->h'.get? b=some u) (KY: ∃u,h'.get? e=some u)
  (new:cQ X.prog X.w (upd H x o) h' x o):Inv X pins σ (upd H x o) { s with heap:=h',toks:=t' }:=I.un (Un.write mu he k KY) (I.b5.write mu he k KY new)
theorem Inv.weak {σ':List (Option V)} (I:Inv X pins σ H s) (hl:σ'.length=σ.length) (w: ∀(i:Nat) v,σ'[i]? =some (some v)->σ[i]? =some (some v)):Inv X pins σ' H s:=
 ⟨I.ok,I.os,I.bare,I.base,let ⟨m,hn,yL⟩:=I.loc;⟨m,hn,fun i x v e1 e2 e3=>yL i x v e1 (w i v e2) e3⟩,I.cell,I.free,I.iB,I.pin,I.b5,hl.trans I.len⟩
theorem Inv.km {yM:List (Addr×Obj)} (I:Inv X pins σ H s) (h: ∀p∈yM,s.heap.get? p.1=some p.2/\H p.1=none/\p.1≠X.env.locals/\p.1∉X.fs/\ ∀v,p.2.data≠ .cell v):Inv X yM σ H s:=
 ⟨I.ok,I.os,I.bare,I.base,I.loc,I.cell,I.free,I.iB,fun p hp=>(WJ.mp hp).elim (fun z=>I.pin p (X0 _ z)) (h p),I.b5,I.len⟩
theorem uQ {N:List Str} (hN:N.Nodup) {i j:Nat} {x:Str} (a:N[i]? =some x) (b:N[j]? =some x):i=j:=by
 obtain ⟨h1,e1⟩:=Je.mp a
 obtain ⟨h2,e2⟩:=Je.mp b
 exact (List.getElem_inj hN).mp (e1.trans e2.symm)
theorem An {M:Model} {A:Around} {E:Value->Shared->Prop} {i:Nat} {x:Str} {v:V} {u:Value} {Q:Unit->Shared->Prop} (I:Inv X pins σ H s) (hN:X.N.Nodup) (hi:X.N[i]? =some x) (hx:Loc X.env.scope x) (r:RelV v u)
  (h: ∀s',Inv X pins (σ.set i (some v)) H s'->(∃a,Heap.SameBut a s.heap s'.heap/\(a=X.env.locals\/X.env.cells.lookup x=some a))->Q () s') (hf:X.fn x=true\/X.env.scope.names.lookup x=some .local:=by first | exact .inl rfl | exact .inr rfl | assumption):wpAny M A (storeName X.env x u) Q E s:=by
 obtain ⟨m,hn,hl⟩:=id I.loc
 have Qj:(X.env.scope.kind== .class||(X.env.scope.kind== .module&&X.env.locals != X.env.globals))=false:=by rw[I.ok.kind];rfl
 have Sm:i<σ.length:=by rw[I.len];exact (Je.mp hi).1
 have Iu:=I.Iu
 have tracked: ∀{a:Addr} {h':Heap},(∃o,s.heap.get? a=some o/\H a=none)->Heap.SameBut a s.heap h'->jX X.prog X.w H h':=fun {a h'} ha hs b ob e=>by
  obtain ⟨_,_,Ht⟩:=ha
  refine (I.b5 b ob e).uO (fun c w' hc q=>(hs.2 c ?_).trans q) (fun _ q=>q) fun _ _ q=>q
  rintro rfl
  rcases hc with rfl | hc
  ·rw[Ht]at e;cases e
  ·rw[Ht]at hc;cases hc
 rcases hx with hk | hk
 ·refine wpAny_storeName_local hk hn (fun h' OY hs=>?_) Qj
  obtain ⟨oL,_,_,MO,_⟩:=id hn
  refine h _ ⟨I.ok,I.os,I.bare,⟨fun b o e n hb hx=>?_,fun b o e n hb hx=>?_,I.base.free,fun b o e hx=>?_,I.base.qh,I.base.oa,I.base.sj⟩,⟨_,OY,fun j y v' e1 e2 e3=>?_⟩,fun y c e=>?_,I.free,I.iB,fun p hp=>?_,tracked ⟨oL,MO,I.free⟩ hs,by simpa using I.len⟩ ⟨_,hs, .inl rfl⟩
  ·exact (hs.2 b (Xm (Xq (Xf e) I.ok.above))).trans (I.base.keep b o e n hb hx)
  ·obtain ⟨sl,e1⟩:=I.base.slot b o e n hb hx
   exact ⟨sl,(hs.2 b (Xm (Xq (Xf e) I.ok.above))).trans e1⟩
  ·obtain ⟨o',e1⟩:=I.base.there b o e hx
   exact ⟨o',(hs.2 b (Xm (Xq (Xf e) I.ok.above))).trans e1⟩
  ·by_cases hj:j=i
   ·subst hj
    rw[hi]at e1;cases e1
    rw[List.getElem?_set_self Sm]at e2
    cases e2
    exact ⟨u,r, .inl ⟨hk,by simp⟩⟩
   ·rw[List.getElem?_set_ne (Ne.symm hj)]at e2
    obtain ⟨u',r',q⟩:=hl j y v' e1 e2 e3
    refine ⟨u',r',?_⟩
    rcases q with ⟨k,e⟩ | ⟨k,c,e,z⟩
    ·refine .inl ⟨k,?_⟩
     have:y≠x:=fun e=>hj (uQ hN e1 (e▸hi))
     simp[this,e]
    ·exact .inr ⟨k,c,e,z.sameBut hs (Iu y c e)⟩
  ·obtain ⟨w',z⟩:=I.cell y c e
   exact ⟨w',z.sameBut hs (Iu y c e)⟩
  ·obtain ⟨e,n,ne,nf,d⟩:=I.pin p hp
   exact ⟨(hs.2 p.1 ne).trans e,n,ne,nf,d⟩
 ·have Qk:X.fn x=true:=by
   rcases hf with z | z
   ·exact z
   ·rw[z]at hk;cases hk
  obtain ⟨c,hc⟩:=I.ok.has x (.inl hk)
  obtain ⟨w',z⟩:=I.cell x c hc
  refine wpAny_storeName_cell I.ok.kind hk hc z (fun h' qj hs=>?_)
  obtain ⟨oc,So,Ql⟩:=id z
  refine h { s with heap:=h' } ⟨I.ok,I.os,I.bare,⟨fun b o e n hb hx=>?_,fun b o e n hb hx=>?_,I.base.free,fun b o e hx=>?_,I.base.qh,I.base.oa,I.base.sj⟩,⟨m,hn.sameBut hs (Ne.symm (Iu x c hc)),fun j y v' e1 e2 e3=>?_⟩,fun y c' e=>?_,I.free,I.iB,fun p hp=>?_,tracked ⟨oc,So,I.iB x c hc⟩ hs,by simpa using I.len⟩ ⟨c,hs, .inr hc⟩
  ·exact (hs.2 b (Xm (Xq (Xf e) (I.ok.ML x c Qk hc)))).trans (I.base.keep b o e n hb hx)
  ·obtain ⟨sl,e1⟩:=I.base.slot b o e n hb hx
   exact ⟨sl,(hs.2 b (Xm (Xq (Xf e) (I.ok.ML x c Qk hc)))).trans e1⟩
  ·obtain ⟨o',e1⟩:=I.base.there b o e hx
   exact ⟨o',(hs.2 b (Xm (Xq (Xf e) (I.ok.ML x c Qk hc)))).trans e1⟩
  ·by_cases hj:j=i
   ·subst hj
    rw[hi]at e1;cases e1
    rw[List.getElem?_set_self Sm]at e2
    cases e2
    exact ⟨u,r, .inr ⟨.inl hk,c,hc,qj⟩⟩
   ·rw[List.getElem?_set_ne (Ne.symm hj)]at e2
    obtain ⟨u',r',q⟩:=hl j y v' e1 e2 e3
    refine ⟨u',r',?_⟩
    rcases q with q | ⟨k,c',e,z'⟩
    ·exact .inl q
    ·refine .inr ⟨k,c',e,z'.sameBut hs ?_⟩
     rintro rfl
     exact hj (uQ hN e1 (I.ok.inj _ _ _ e hc▸hi))
  ·by_cases K0:c'=c
   ·subst K0;exact ⟨_,qj⟩
   ·obtain ⟨w2,z2⟩:=I.cell y c' e
    exact ⟨w2,z2.sameBut hs K0⟩
  ·obtain ⟨e,n,ne,nf,d⟩:=I.pin p hp
   refine ⟨(hs.2 p.1 ?_).trans e,n,ne,nf,d⟩
   intro q
   rw[q,So]at e
   have q':oc=p.2:=Xa e
   exact d w' (by rw[<-q'];exact Ql)
theorem ko {M:Model} {A:Around} {E:Value->Shared->Prop} {i:Nat} {x:Str} {v:V} {u:Value} {Q:Unit->Shared->Prop} (I:Inv X pins σ H s) (hN:X.N.Nodup) (hi:X.N[i]? =some x) (hx:Loc X.env.scope x) (r:RelV v u)
  (h: ∀s',Inv X pins (σ.set i (some v)) H s'->Q () s') (hf:X.fn x=true\/X.env.scope.names.lookup x=some .local:=by first | exact .inl rfl | exact .inr rfl | assumption):wpAny M A (storeName X.env x u) Q E s:=
 An I hN hi hx r (fun s' I' _=>h s' I') hf
theorem Inv.MP {s':Shared} {ch:List Addr} (I:Inv X pins σ H s) (ho:s'.os=s.os) (u:Un (yJ X.stack) ch H H' s.heap s'.heap) (b5:jX X.prog X.w H' s'.heap) (hg:AllBare s'.gens)
  (EY: ∀b∈ch,(b∈X.ex\/X.s₀.heap.objs.size<=b)/\b≠X.env.locals/\(∀x c,X.env.cells.lookup x=some c->c≠b)/\ ∀p∈X.pn++pins,p.1≠b):Inv X pins σ H' s':=by
 obtain ⟨h',g',d',t',o'⟩:=s'
 have e:o'=s.os:=ho
 subst e
 exact I.call (g':=g') (t':=t') (d':=d') u b5 hg EY
end
abbrev XK:=Value->Option Addr->Hp->Prop
abbrev St:=List (Option V)
abbrev VK:=V->Hp->Prop
abbrev TE:=St->Hp->VK->Prop
abbrev TT:=St->Hp->(Bool->Hp->Prop)->Prop
abbrev TA:=St->Hp->(List V->Hp->Prop)->Prop
structure Ends where
 nx:St->Hp->Prop
 rt:VK
 bk:St->Hp->Prop:=fun _ _=>False
 ct:St->Hp->Prop:=fun _ _=>False
abbrev TS:=Ends->St->Hp->Prop
def EP (X:Cx) (pins:List (Addr×Obj)) (σ:St) (Q:VK) (u:Value) (s':Shared):Prop:= ∃v H',Inv X pins σ H' s'/\RelV v u/\Q v H'
def TP (X:Cx) (pins:List (Addr×Obj)) (σ:St) (Q:Bool->Hp->Prop) (b:Bool) (s':Shared):Prop:= ∃H',Inv X pins σ H' s'/\Q b H'
def AP (X:Cx) (pins:List (Addr×Obj)) (σ:St) (Q:List V->Hp->Prop) (us:List Value) (s':Shared):Prop:= ∃vs H',Inv X pins σ H' s'/\Vals vs us/\Q vs H'
def SP (X:Cx) (pins:List (Addr×Obj)) (D:Ends) (f:Flow) (s':Shared):Prop:=
 match f with
 | .next=> ∃σ' H',Inv X pins σ' H' s'/\D.nx σ' H'
 | .brk=> ∃σ' H',Inv X pins σ' H' s'/\D.bk σ' H'
 | .cont=> ∃σ' H',Inv X pins σ' H' s'/\D.ct σ' H'
 | .ret u=> ∃v σ' H',Inv X pins σ' H' s'/\RelV v u/\D.rt v H'
def PE (X:Cx) (e:Expr) (t:TE):Prop:=
 ∀(pins:List (Addr×Obj)) (s:Shared) (σ:St) (H:Hp) (Q:VK),Inv X pins σ H s->t σ H Q->wpAny (model X.prog X.w) X.A (eval e X.env) (EP X pins σ Q) X.xe s
def PT (X:Cx) (e:Expr) (t:TT):Prop:=
 ∀(pins:List (Addr×Obj)) (s:Shared) (σ:St) (H:Hp) (Q:Bool->Hp->Prop),Inv X pins σ H s->t σ H Q->wpAny (model X.prog X.w) X.A (isTrue e X.env (eval e X.env)) (TP X pins σ Q) X.xe s
def PW (X:Cx) (e:Expr) (t:TT):Prop:=
 ∀(whole:Sem Value) (pins:List (Addr×Obj)) (s:Shared) (σ:St) (H:Hp) (Q:Bool->Hp->Prop),Inv X pins σ H s->t σ H Q->wpAny (model X.prog X.w) X.A (isTrue e X.env whole) (TP X pins σ Q) X.xe s
theorem PW.pt {X:Cx} {e:Expr} {t:TT} (h:PW X e t):PT X e t:=h _
def PA (X:Cx) (es:List Expr) (t:TA):Prop:=
 ∀(pos:Pos) (pins:List (Addr×Obj)) (s:Shared) (σ:St) (H:Hp) (Q:List V->Hp->Prop),Inv X pins σ H s->t σ H Q->wpAny (model X.prog X.w) X.A (spliced (backTo pos (starEach es X.env))) (AP X pins σ Q) X.xe s
def PS (X:Cx) (st:Stmt) (t:TS):Prop:=
 ∀(pins:List (Addr×Obj)) (s:Shared) (σ:St) (H:Hp) (D:Ends),Inv X pins σ H s->t D σ H->wpAny (model X.prog X.w) X.A (exec st X.env) (SP X pins D) X.xe s
def wR (X:Cx) (st:List Stmt) (t:TS):Prop:=
 ∀(pins:List (Addr×Obj)) (s:Shared) (σ:St) (H:Hp) (D:Ends),Inv X pins σ H s->t D σ H->wpAny (model X.prog X.w) X.A (execs st X.env) (SP X pins D) X.xe s
theorem b_ {α:Type} {t:Sem α} {Q Q':α->Shared->Prop} {M:Model} {A:Around} {E:Value->Shared->Prop} {s:Shared} (h:wpAny M A t Q E s) (hQ: ∀a s,Q a s->Q' a s):wpAny M A t Q' E s:=wpAny_mono h hQ fun _ _ x=>x
section
variable {X:Cx}
def Iw (i:Nat):TE:=fun σ H Q=> ∃v,σ[i]? =some (some v)/\Q v H
def tC (v:V):TE:=fun _ H Q=>Q v H
theorem Iy {i:Nat} {x:Str} {pos:Pos} (hN:X.N[i]? =some x) (hv:MK X.env.scope x) (hd:(x==("__debug__":Str))=false:=by decide) (jY:(x==("__classdict__":Str))=false:=by decide):PE X (.Name x pos) (Iw i):=by
 intro pins s σ H Q I h
 obtain ⟨v,e,h⟩:=h
 obtain ⟨m,hn,hl⟩:=I.loc
 obtain ⟨u,r,l⟩:=hl i x v hN e hv
 have fin:EP X pins σ Q u s:=⟨v,H,I,r,h⟩
 rcases l with ⟨hk,hm⟩ | ⟨hk,c,hc,gw⟩
 ·exact wpAny_Name (wpAny_loadName_local I.ok.kind hk hn hm fin) hd
 ·rcases hk with hk | hk
  ·exact wpAny_Name (wpAny_loadName_cell I.ok.kind hk hc gw fin) hd
  ·exact wpAny_Name (wpAny_loadName_free I.ok.kind hk hc gw fin jY) hd
theorem aj {i j pos}:PE X (.Constant (.int i) j pos) (tC (.int i)):=fun _ _ _ H _ I h=>wpAny_Constant_int ⟨.int i,H,I.tok _,⟨_,rfl⟩,h⟩
theorem mN {b j pos}:PE X (.Constant (.bool b) j pos) (tC (.bl b)):=fun _ _ _ H _ I h=>Constant_bool ⟨.bl b,H,I,rfl,h⟩
theorem Iz {x j pos}:PE X (.Constant (.str x) j pos) (tC (.str x)):=fun _ _ _ H _ I h=>Calls.Constant_str ⟨.str x,H,I.tok _,⟨_,rfl⟩,h⟩
def Gl (X:Cx) (x:Str):Prop:=X.env.kindOf x=some .globalImplicit
theorem sx {E:Value->Shared->Prop} {pins:List (Addr×Obj)} {s:Shared} {σ:St} {H:Hp} {x:Str} {u:Value} {pos:Pos} {Q:Value->Shared->Prop} (I:Inv X pins σ H s) (hg:Gl X x) (hm:X.mg x=some u) (h:Q u s)
  (hd:(x==("__debug__":Str))=false:=by decide):wpAny (model X.prog X.w) X.A (eval (.Name x pos) X.env) Q E s:=
 Calls.Name_function_global I.ok.kind hg (Calls.loadGlobal_global (by rw[I.ok.glob];exact I.mod.glob.keeps I.bk) hm h) hd
theorem gL {E:Value->Shared->Prop} {pins:List (Addr×Obj)} {s:Shared} {σ:St} {H:Hp} {x:Str} {u:Value} {pos:Pos} {Q:Value->Shared->Prop} (I:Inv X pins σ H s) (hg:Gl X x) (hm:X.mg x=none) (hv:bootBuiltins x=some u) (h:Q u s)
  (hn:x≠"__name__":=by decide) (hd:(x==("__debug__":Str))=false:=by decide):wpAny (model X.prog X.w) X.A (eval (.Name x pos) X.env) Q E s:=by
 obtain ⟨mb,h1,h2⟩:=I.mod.blt
 exact Calls.Name_function_global I.ok.kind hg (Calls.loadGlobal_builtin (by rw[I.ok.glob];exact I.mod.glob.keeps I.bk) hm (by rw[I.ok.blt];exact h1.keeps I.bk) ((h2 x hn).trans hv) h) hd
theorem yN {x:Str} {v:V} {u:Value} {pos:Pos} (hg:Gl X x) (hm:X.mg x=some u) (r:RelV v u) (hd:(x==("__debug__":Str))=false:=by decide):PE X (.Name x pos) (tC v):=
 fun _ _ _ H _ I h=>sx I hg hm ⟨v,H,I,r,h⟩ hd
variable {a b:Expr} {ta tb:TE} {pos:Pos}
def PC (X:Cx) (op:CmpOp) (a b:Expr) (t:TE):Prop:=
 ∀(pins:List (Addr×Obj)) (s:Shared) (σ:St) (H:Hp) (Q:VK),Inv X pins σ H s->t σ H Q->
  wpAny (model X.prog X.w) X.A (eval a X.env) (fun v s₁=>wpAny (model X.prog X.w) X.A (eval b X.env) (fun u s₂=>wpAny (model X.prog X.w) X.A (compareOp op v u) (EP X pins σ Q) X.xe s₂) X.xe s₁) X.xe s
def tB (t:TE):TT:=fun σ H Q=>t σ H fun x H1=> ∃c,x= .bl c/\Q c H1
theorem IA {op:CmpOp} {t:TE} (h:PC X op a b t) (h1:behindInMarks op b=false:=by first | exact MQ _ (by decide) (by decide) | rfl):PT X (.Compare a [op] [b] pos) (tB t):=by
 intro pins s σ H Q I hw
 refine wpAny_isTrue_Compare1 (b_ (h pins s σ H _ I hw) fun v s1 h1=>b_ h1 fun u s2 h2=>b_ h2 fun c s3 ⟨x,H1,I1,r1,q1⟩=>?_) h1
 obtain ⟨d,rfl,q⟩:=q1
 cases r1
 exact wpAny_truthy_bool ⟨H1,I1,q⟩
theorem gM {e:Expr} {t:TE} (h:PE X e t) (he: ∀whole,isTrue e X.env whole=(do let v <-whole;standAt e.pos;holding [v] (truthy v)):=by intro _;rfl):PT X e (tB t):=by
 intro pins s σ H Q I hw
 refine isTrue_plain (b_ (h pins s σ H _ I hw) fun v s1 ⟨x,H1,I1,r1,q1⟩=>?_) (he _)
 obtain ⟨d,rfl,q⟩:=q1
 cases r1
 exact wpAny_truthy_bool ⟨H1,I1,q⟩
variable {tA OZ:TT} {rest:List Expr}
def Qm (t u:TT):TT:=fun σ H Q=>t σ H fun c H1=>if c=true then u σ H1 Q else Q false H1
def Uh (t u:TT):TT:=fun σ H Q=>t σ H fun c H1=>if c=true then Q true H1 else u σ H1 Q
def Qn (t:TT):TT:=fun σ H Q=>t σ H fun c H1=>Q (!c) H1
theorem ji (ha:PT X a tA):PW X (.BoolOp .And [a] pos) tA:=by
 intro wh pins s σ H Q I h
 refine isTrue_and (b_ (ha pins s σ H Q I h) fun c s1 e=>?_)
 cases c with
 | true=>exact isTrue_and_nil e
 | false=>exact e
theorem wU (ha:PT X a tA):PW X (.BoolOp .Or [a] pos) tA:=by
 intro wh pins s σ H Q I h
 refine isTrue_or (b_ (ha pins s σ H Q I h) fun c s1 e=>?_)
 cases c with
 | false=>exact isTrue_or_nil e
 | true=>exact e
theorem jZ (ha:PT X a tA) (hb:PW X (.BoolOp .And (b::rest) pos) OZ):PW X (.BoolOp .And (a::b::rest) pos) (Qm tA OZ):=by
 intro wh pins s σ H Q I h
 refine isTrue_and (b_ (ha pins s σ H _ I h) fun c s1 ⟨H1,I1,q1⟩=>?_)
 cases c with
 | true=>exact hb wh pins s1 σ H1 Q I1 q1
 | false=>exact ⟨H1,I1,q1⟩
theorem BW (ha:PT X a tA) (hb:PW X (.BoolOp .Or (b::rest) pos) OZ):PW X (.BoolOp .Or (a::b::rest) pos) (Uh tA OZ):=by
 intro wh pins s σ H Q I h
 refine isTrue_or (b_ (ha pins s σ H _ I h) fun c s1 ⟨H1,I1,q1⟩=>?_)
 cases c with
 | true=>exact ⟨H1,I1,q1⟩
 | false=>exact hb wh pins s1 σ H1 Q I1 q1
theorem BX (ha:PT X a tA):PT X (.UnaryOp .Not a pos) (Qn tA):=by
 intro pins s σ H Q I h
 exact isTrue_not (ha pins s σ H (fun c H1=>Q (!c) H1) I h)
end
def bA (K:PySem.W.Frag) (H:Hp) (a:Addr) (xs:List V):Prop:=
 Rd H a (.lst xs)\/
  ∃(o:Obj) (aJ:Array Value) (n:Nat),K.lookup a=some o/\o.cls= .type "list"/\o.dict=none/\o.data= .seq aJ n/\aJ.size<=sizeLine/\Vals xs aJ.toList
def cT (K:PySem.W.Frag) (H:Hp) (a:Addr) (xs:List V):Prop:=
 Rd H a (.tup xs)\/
  ∃(o:Obj) (aJ:Array Value) (n:Nat),K.lookup a=some o/\o.cls= .type "tuple"/\o.data= .seq aJ n/\aJ.size<=sizeLine/\Vals xs aJ.toList
noncomputable def Qo:Value->Option V
 | .none=>some .fE
 | .bool b=>some (.bl b)
 | .int i _=>some (.int i)
 | .str x _=>some (.str x)
 | .bytes b _=>some (.yI b)
 | .float b _=>some (.OV b)
 | .ref a=>some (.ref a)
 | .type n=>some (.ty n)
 | _=>none
theorem RelV.abs {x:V} {u:Value} (r:RelV x u):Qo u=some x:=by
 cases x with
 | fE=>cases r;rfl
 | bl _=>cases r;rfl
 | int _=>obtain ⟨t,rfl⟩:=r;rfl
 | str _=>obtain ⟨t,rfl⟩:=r;rfl
 | yI _=>obtain ⟨t,rfl⟩:=r;rfl
 | OV _=>obtain ⟨t,rfl⟩:=r;rfl
 | ref _=>cases r;rfl
 | ty _=>cases r;rfl
theorem RelV.inj {x y:V} {u:Value} (r:RelV x u) (q:RelV y u):x=y:=Xa (r.abs.symm.trans q.abs)
theorem Vals.inj: ∀{xs ys:List V} {us:List Value},Vals xs us->Vals ys us->xs=ys
 | _,_,_, .nil, .nil=>rfl
 | _,_,_, .cons r t, .cons r' t'=>by rw[r.inj r',Vals.inj t t']
section
variable {X:Cx} {pins:List (Addr×Obj)} {σ:St} {H:Hp} {s:Shared} {a:Addr} {xs ys:List V}
theorem bA.of {K:PySem.W.Frag} (h:H a=some (.lst xs)):bA K H a xs:= .inl (.inl h)
theorem cT.of {K:PySem.W.Frag} (h:H a=some (.tup xs)):cT K H a xs:= .inl (.inl h)
theorem Inv.list (I:Inv X pins σ H s) (h:bA X.K H a xs): ∃aJ:List Value,Vals xs aJ/\PlainL s.heap a aJ.toArray/\xs.length<=sizeLine:=by
 rcases h with h | ⟨o,aJ,n,hk,hc,hd,hs,hz,r⟩
 ·obtain ⟨z,aJ,n,r,e⟩:=h.ok I.b5
  exact ⟨aJ,r,⟨_,n,e,rfl,rfl,rfl⟩,z⟩
 ·refine ⟨aJ.toList,r,⟨o,n,I.Am a o hk,hc,hd,by simpa using hs⟩,?_⟩
  have e:=r.length
  simp only[Array.length_toList]at e
  omega
theorem Inv.tuple (I:Inv X pins σ H s) (h:cT X.K H a xs): ∃aJ:List Value,Vals xs aJ/\IsTup s.heap a aJ.toArray/\xs.length<=sizeLine:=by
 rcases h with h | ⟨o,aJ,n,hk,hc,hs,hz,r⟩
 ·obtain ⟨z,aJ,r,p⟩:=h.ok I.b5
  exact ⟨aJ,r,p,z⟩
 ·refine ⟨aJ.toList,r,⟨o,I.Am a o hk,hc,n,by simpa using hs⟩,?_⟩
  have e:=r.length
  simp only[Array.length_toList]at e
  omega
theorem Inv.uR (I:Inv X pins σ H s) (h:bA X.K H a xs) (h':bA X.K H a ys):xs=ys:=by
 obtain ⟨aJ,r,⟨o,n,e,_,_,d⟩,_⟩:=I.list h
 obtain ⟨its',r',⟨o',n',e',_,_,d'⟩,_⟩:=I.list h'
 rw[e]at e';cases e'
 rw[d]at d'
 injection d' with d1 _
 have:aJ=its':=by simpa using congrArg Array.toList d1
 subst this
 exact r.inj r'
theorem Inv.qJ (I:Inv X pins σ H s) (h:cT X.K H a xs) (h':cT X.K H a ys):xs=ys:=by
 obtain ⟨aJ,r,⟨o,e,_,n,d⟩,_⟩:=I.tuple h
 obtain ⟨its',r',⟨o',e',_,n',d'⟩,_⟩:=I.tuple h'
 rw[e]at e';cases e'
 rw[d]at d'
 injection d' with d1 _
 have:aJ=its':=by simpa using congrArg Array.toList d1
 subst this
 exact r.inj r'
end
noncomputable abbrev Cx.qk (X:Cx) (E:Value->Shared->Prop):Cx:={ X with xe:=E }
noncomputable abbrev Cx.O0 (X:Cx):Cx:=X.qk fun _ _=>False
theorem Cx.Ok.qk {X:Cx} (ok:X.Ok) (E:Value->Shared->Prop):(X.qk E).Ok:=
 ⟨ok.mod,ok.kind,ok.glob,ok.blt,ok.above,ok.inj,ok.has,ok.ML,ok.hd,ok.frames,ok.OX,ok.Sk,ok.bs,ok.Fh,ok.BV,ok.Fi,ok.m4,ok.Iq⟩
theorem Cx.Ok.iC {X:Cx} {E:Value->Shared->Prop} (ok:(X.qk E).Ok):X.Ok:=
 ⟨ok.mod,ok.kind,ok.glob,ok.blt,ok.above,ok.inj,ok.has,ok.ML,ok.hd,ok.frames,ok.OX,ok.Sk,ok.bs,ok.Fh,ok.BV,ok.Fi,ok.m4,ok.Iq⟩
section
variable {X:Cx} {pins:List (Addr×Obj)} {σ:St} {H:Hp} {s:Shared} {E:Value->Shared->Prop}
theorem Inv.qk (I:Inv X pins σ H s) (E:Value->Shared->Prop):Inv (X.qk E) pins σ H s:=⟨I.ok.qk E,I.os,I.bare,I.base,I.loc,I.cell,I.free,I.iB,I.pin,I.b5,I.len⟩
theorem Inv.iC (I:Inv (X.qk E) pins σ H s):Inv X pins σ H s:=⟨I.ok.iC,I.os,I.bare,I.base,I.loc,I.cell,I.free,I.iB,I.pin,I.b5,I.len⟩
theorem SP.iC {D:Ends} {f:Flow} {s':Shared} (h:SP (X.qk E) pins D f s'):SP X pins D f s':=by
 cases f with
 | next=>obtain ⟨σ',H',I,q⟩:=h;exact ⟨σ',H',I.iC,q⟩
 | brk=>obtain ⟨σ',H',I,q⟩:=h;exact ⟨σ',H',I.iC,q⟩
 | cont=>obtain ⟨σ',H',I,q⟩:=h;exact ⟨σ',H',I.iC,q⟩
 | ret u=>obtain ⟨v,σ',H',I,r,q⟩:=h;exact ⟨v,σ',H',I.iC,r,q⟩
theorem wR.O0 {st:List Stmt} {t:TS} (h:wR X.O0 st t):wR X st t:=fun pins s σ H D I hw=>
 wpAny_mono (h pins s σ H D (I.qk _) hw) (fun _ _ q=>q.iC) fun _ _ z=>False.elim z
end
section
variable {X:Cx} {st:Stmt} {rest:List Stmt} {t u:TS} {e:Expr} {te:TE} {pos:Pos}
def MR:TS:=fun D σ H=>D.nx σ H
def Qp (t u:TS):TS:=fun D σ H=>t { D with nx:=u D } σ H
theorem bu:wR X [] MR:=fun _ _ σ H _ I h=>wpAny_execs_nil ⟨σ,H,I,h⟩
theorem ag (h1:PS X st t) (h2:wR X rest u):wR X (st::rest) (Qp t u):=by
 intro pins s σ H D I h
 refine wpAny_execs_cons (b_ (h1 pins s σ H { D with nx:=u D } I h) fun f s1 q=>?_)
 cases f with
 | next=>
  obtain ⟨σ',H',I',q⟩:=q
  exact h2 pins s1 σ' H' D I' q
 | ret v=>exact q
 | brk=>exact q
 | cont=>exact q
theorem ai (h1:PS X st t):wR X [st] t:=by
 intro pins s σ H D I h
 refine wpAny_execs_cons (b_ (h1 pins s σ H D I h) fun f s1 q=>?_)
 cases f with
 | next=>exact wpAny_execs_nil q
 | ret v=>exact q
 | brk=>exact q
 | cont=>exact q
theorem Inv.quiet {pins:List (Addr×Obj)} {σ:St} {H:Hp} {s:Shared} (I:Inv X pins σ H s):interactive X.env=false:=by simp[interactive,I.ok.kind]
def MS (te:TE):TS:=fun D σ H=>te σ H fun _ H1=>D.nx σ H1
theorem da (he:PE X e te) (hs:swapsWith e none pos.line X.env=pure false:=by rfl):PS X (.Expr e pos) (MS te):=by
 intro pins s σ H D I h
 exact wpAny_Expr_any (b_ (he pins s σ H _ I h) fun v s1 ⟨x,H1,I1,r1,q1⟩=>⟨σ,H1,I1,q1⟩) I.quiet hs
def Qq (te:TE):TS:=fun D σ H=>te σ H D.rt
theorem aG (he:PE X e te):PS X (.Return (some e) pos) (Qq te):=by
 intro pins s σ H D I h
 exact wpAny_Return_some (b_ (he pins s σ H _ I h) fun v s1 ⟨x,H1,I1,r1,q1⟩=>⟨x,σ,H1,I1,r1,q1⟩)
def Qr (c:TT) (t u:TS):TS:=fun D σ H=>c σ H fun b H1=>if b=true then t D σ H1 else u D σ H1
theorem bV {c:Expr} {a b:List Stmt} {tc:TT} (hc:PT X c tc) (ha:wR X a t) (hb:wR X b u):PS X (.If c a b pos) (Qr tc t u):=by
 intro pins s σ H D I h
 refine wpAny_If (b_ (hc pins s σ H _ I h) fun d s1 ⟨H1,I1,q1⟩=>?_)
 cases d with
 | true=>exact ha pins s1 σ H1 D I1 q1
 | false=>exact hb pins s1 σ H1 D I1 q1
end
abbrev TG:=V->St->Hp->(St->Hp->Prop)->Prop
abbrev Hu:=List V->St->Hp->(St->Hp->Prop)->Prop
def PG (X:Cx) (target:Expr) (t:TG):Prop:=
 ∀(pins:List (Addr×Obj)) (s:Shared) (σ:St) (H:Hp) (v:V) (u:Value) (Q:St->Hp->Prop),Inv X pins σ H s->RelV v u->t v σ H Q->
  wpAny (model X.prog X.w) X.A (assign target X.env u) (fun _ s'=> ∃σ' H',Inv X pins σ' H' s'/\Q σ' H') X.xe s
def MT (X:Cx) (ts:List Expr) (t:Hu):Prop:=
 ∀(pins:List (Addr×Obj)) (s:Shared) (σ:St) (H:Hp) (vs:List V) (us:List Value) (Q:St->Hp->Prop),Inv X pins σ H s->Vals vs us->t vs σ H Q->
  wpAny (model X.prog X.w) X.A (assignInOrder ((assignEach ts X.env).map (·.2)) us) (fun _ s'=> ∃σ' H',Inv X pins σ' H' s'/\Q σ' H') X.xe s
abbrev IB:=V->V->V->Hp->(Hp->Prop)->Prop
def MU (X:Cx) (t:IB):Prop:=
 ∀(pins:List (Addr×Obj)) (s:Shared) (σ:St) (H:Hp) (o i v:V) (ov iv u:Value) (Q:Hp->Prop),Inv X pins σ H s->RelV o ov->RelV i iv->RelV v u->t o i v H Q->
  wpAny (model X.prog X.w) X.A (setItem ov iv u) (fun _ s'=> ∃H',Inv X pins σ H' s'/\Q H') X.xe s
abbrev O1:=V->V->Hp->VK->Prop
def K1 (X:Cx) (op:Operator) (t:O1):Prop:=
 ∀(pins:List (Addr×Obj)) (s:Shared) (σ:St) (H:Hp) (x y:V) (v u:Value) (Q:VK),Inv X pins σ H s->RelV x v->RelV y u->t x y H Q->
  wpAny (model X.prog X.w) X.A (inplaceOp op v u) (EP X pins σ Q) X.xe s
section
variable {X:Cx} {pos:Pos}
def uS (i:Nat):TG:=fun v σ H Q=>Q (σ.set i (some v)) H
theorem aQ {i:Nat} {x:Str} (hN:X.N.Nodup) (hi:X.N[i]? =some x) (hx:Loc X.env.scope x) (hf:X.fn x=true\/X.env.scope.names.lookup x=some .local:=by first | exact .inl rfl | exact .inr rfl | assumption):PG X (.Name x pos) (uS i):=by
 intro pins s σ H v u Q I r h
 exact wpAny_assign_Name (ko I hN hi hx r (fun s' I'=>⟨_,H,I',h⟩) hf)
def Qs:Hu:=fun vs σ H Q=>vs=[]/\Q σ H
def MV (t:TG) (u:Hu):Hu:=fun vs σ H Q=> ∃v r,vs=v::r/\t v σ H fun σ' H'=>u r σ' H' Q
theorem ku:MT X [] Qs:=by
 intro pins s σ H vs us Q I r h
 obtain ⟨e,h⟩:=h
 subst e
 cases r
 exact assignInOrder_nil ⟨σ,H,I,h⟩
theorem dA {e:Expr} {es:List Expr} {t:TG} {u:Hu} (h1:PG X e t) (h2:MT X es u)
  (hs:(assignEach (e::es) X.env).map (·.2)=assign e X.env::(assignEach es X.env).map (·.2):=by rfl):MT X (e::es) (MV t u):=by
 intro pins s σ H vs us Q I r h
 obtain ⟨v,vr,e1,h⟩:=h
 subst e1
 cases r with
 | cons r rr=>
  rw[hs]
  refine assignInOrder_cons (b_ (h1 pins s σ H _ _ _ I r h) fun _ s1 ⟨σ1,H1,I1,q1⟩=>?_)
  exact h2 pins s1 σ1 H1 _ _ Q I1 rr q1
def MW (K:PySem.W.Frag) (n:Nat) (t:Hu):TG:=fun v σ H Q=> ∃a xs,v= .ref a/\cT K H a xs/\xs.length=n/\t xs σ H Q
theorem IC {es:List Expr} {k:Nat} {t:Hu} {n:Nat} (hc:X.calm=true) (h:MT X es t)
  (hn:(assignEach es X.env).length=n:=by rfl) (mO:(assignEach es X.env).findIdx? (·.1)=none:=by rfl):PG X (.Tuple es k pos) (MW X.K n t):=by
 intro pins s σ H v u Q I r hw
 obtain ⟨a,xs,e1,hq,hl,hw⟩:=hw
 subst e1
 cases r
 obtain ⟨aJ,rv,ht,hz⟩:=I.tuple hq
 refine assign_Tuple_tuple (I.ok.hd hc) ht (by simp[hn, <-hl,rv.length]) mO fun h' hx=>?_
 have I1:Inv X pins σ H { s with heap:=h' }:=I.kept (t':=s.toks) fun b o e=>hx b o (Xm (Xf e)) e
 exact h pins _ σ H xs _ Q I1 (by simpa using rv) hw
def Qt (to ti:TE) (t:IB):TG:=fun v σ H Q=>to σ H fun o H1=>ti σ H1 fun i H2=>t o i v H2 fun H3=>Q σ H3
theorem BY {o i:Expr} {to ti:TE} {t:IB} (ho:PE X o to) (hi:PE X i ti) (hs:MU X t)
  (ha: ∀v,assign (.Subscript o i pos) X.env v=(do
   let ov <-holding [v] (eval o X.env)
   let iv <-holding [v,ov] (eval i X.env)
   standAt pos
   holding [v,ov,iv] (setItem ov iv v)
   release [v,ov,iv] []):=by intro _;rfl):PG X (.Subscript o i pos) (Qt to ti t):=by
 intro pins s σ H v u Q I r h
 rw[ha]
 refine wpAny_bind (wpAny_holding (b_ (ho pins s σ H _ I h) fun ov s1 ⟨x,H1,I1,r1,q1⟩=>?_))
 refine wpAny_bind (wpAny_holding (b_ (hi pins s1 σ H1 _ I1 q1) fun iv s2 ⟨y,H2,I2,r2,q2⟩=>?_))
 refine wpAny_bind (wpAny_standAt (wpAny_bind (wpAny_holding (b_ (hs pins s2 σ H2 x y v ov iv u _ I2 r1 r2 r q2) fun _ s3 ⟨H3,I3,q3⟩=>?_))))
 exact wpAny_release ⟨σ,H3,I3,q3⟩
def Fl (te:TE) (g:TG):TS:=fun D σ H=>te σ H fun x H1=>g x σ H1 D.nx
theorem BZ {tg e:Expr} {te:TE} {g:TG} (he:PE X e te) (hg:PG X tg g) (hs:swapsWithSole [tg] e pos.line X.env=pure false:=by rfl) (hw:swappedStores [tg] e X.env=pure none:=by rfl)
  (h1:(assignEach [tg] X.env).map (·.2)=[assign tg X.env]:=by rfl):PS X (.Assign [tg] e pos) (Fl te g):=by
 intro pins s σ H D I h
 refine wpAny_Assign_stores (b_ (he pins s σ H _ I h) fun v s1 ⟨x,H1,I1,r1,q1⟩=>?_) hs hw
 rw[h1]
 exact b_ (hg pins s1 σ H1 x v _ I1 r1 q1) fun _ s2 q=>q
theorem ao {i:Nat} {x:Str} {e:Expr} {te:TE} {pos':Pos} (hN:X.N.Nodup) (hi:X.N[i]? =some x) (hx:Loc X.env.scope x) (he:PE X e te) (hs:swapsWith e (some (.Name x pos')) pos.line X.env=pure false:=by rfl) (hf:X.fn x=true\/X.env.scope.names.lookup x=some .local:=by first | exact .inl rfl | exact .inr rfl | assumption):
  PS X (.Assign [.Name x pos'] e pos) (Fl te (uS i)):=by
 intro pins s σ H D I h
 refine wpAny_Assign_Name (b_ (he pins s σ H _ I h) fun v s1 ⟨y,H1,I1,r1,q1⟩=>?_) hs
 exact ko I1 hN hi hx r1 (fun s2 I2=>⟨_,H1,I2,q1⟩) hf
def Qu (i:Nat) (te:TE) (ti:O1):TS:=fun D σ H=> ∃x,σ[i]? =some (some x)/\te σ H fun y H1=>ti x y H1 fun z H2=>D.nx (σ.set i (some z)) H2
theorem iD {i:Nat} {x:Str} {e:Expr} {te:TE} {op:Operator} {ti:O1} {pos':Pos} (hN:X.N.Nodup) (hi:X.N[i]? =some x) (hx:Loc X.env.scope x) (he:PE X e te) (ho:K1 X op ti) (hf:X.fn x=true\/X.env.scope.names.lookup x=some .local:=by first | exact .inl rfl | exact .inr rfl | assumption):
  PS X (.AugAssign (.Name x pos') op e pos) (Qu i te ti):=by
 intro pins s σ H D I h
 obtain ⟨v,e1,h⟩:=h
 obtain ⟨m,hn,hl⟩:=I.loc
 have Ui:MK X.env.scope x:=by rcases hx with k | k;exact .inl k;exact .inr (.inl k)
 obtain ⟨u,r,l⟩:=hl i x v hi e1 Ui
 refine wpAny_AugAssign_Name ?_
 have go:wpAny (model X.prog X.w) X.A (eval e X.env) (fun w s₂=>wpAny (model X.prog X.w) X.A (inplaceOp op u w) (fun r s₃=>wpAny (model X.prog X.w) X.A (storeName X.env x r) (fun _=>SP X pins D .next) X.xe s₃) X.xe s₂) X.xe s:=by
  refine b_ (he pins s σ H _ I h) fun w s1 ⟨y,H1,I1,r1,q1⟩=>?_
  refine b_ (ho pins s1 σ H1 v y u w _ I1 r r1 q1) fun z s2 ⟨zv,H2,I2,r2,q2⟩=>?_
  exact ko I2 hN hi hx r2 (fun s3 I3=>⟨_,H2,I3,q2⟩) hf
 rcases l with ⟨hk,hm⟩ | ⟨hk,c,hc,gw⟩
 ·exact wpAny_loadName_local I.ok.kind hk hn hm go
 ·rcases hk with hk | hk
  ·exact wpAny_loadName_cell I.ok.kind hk hc gw go
  ·rcases hx with k | k
   ·have:X.env.scope.names.lookup x=some .free:=hk
    rw[k]at this;cases this
   ·have:X.env.scope.names.lookup x=some .free:=hk
    rw[k]at this;cases this
def Sq (f:Int->Int->Int):O1:=fun x y H Q=> ∃i j,x= .int i/\y= .int j/\Q (.int (f i j)) H
theorem sC:K1 X .Add (Sq fun i j=>i+j):=by
 intro pins s σ H x y v u Q I r1 r2 h
 obtain ⟨i,j,e1,e2,q⟩:=h
 subst e1;subst e2
 obtain ⟨t,rfl⟩:=r1
 obtain ⟨t',rfl⟩:=r2
 exact iadd_int ⟨.int _,H,I.tok _,⟨_,rfl⟩,q⟩
theorem ID:K1 X .Sub (Sq fun i j=>i - j):=by
 intro pins s σ H x y v u Q I r1 r2 h
 obtain ⟨i,j,e1,e2,q⟩:=h
 subst e1;subst e2
 obtain ⟨t,rfl⟩:=r1
 obtain ⟨t',rfl⟩:=r2
 exact isub_int ⟨.int _,H,I.tok _,⟨_,rfl⟩,q⟩
end
section
variable {X:Cx} {pos:Pos}
end
structure It where
 go:Nat->Hp->Prop
 B2:Nat->Hp->V->Hp->Prop
 stop:Nat->Hp->Prop
def m5 (X:Cx) (pins:List (Addr×Obj)) (H:Hp) (b:Addr):Prop:=
 H b=none/\b≠X.env.locals/\b∉X.fs/\(b∈X.ex\/X.s₀.heap.objs.size<=b)/\(∀x c,X.env.cells.lookup x=some c->c≠b)/\ ∀p∈X.pn++pins,p.1≠b
theorem Inv.og {X:Cx} {pins:List (Addr×Obj)} {σ:St} {H H':Hp} {s:Shared} {b:Addr} (I:Inv X pins σ H s) (hb:s.heap.objs.size<=b) (hn:H' b=none):m5 X pins H' b:=by
 refine ⟨hn,ZD (Xq I.lt hb),I.Ir hb, .inr (Xt I.sz hb),fun x c e z=>?_,fun p hp z=>?_⟩
 ·obtain ⟨v,q⟩:=I.cell x c e
  exact absurd (Xq q.lt (by rw[z];exact hb)) (XN _)
 ·exact absurd (Xq (Xf (I.pin p hp).1) (by rw[z];exact hb)) (XN _)
structure Turn (P:Program) (w:World) (K:PySem.W.Frag) (tg:Expr) (J:It) (fp:List Addr) (it:Addr) (tn:Nat->Heap->Prop):Prop where
 mem:it∈fp
 obj: ∀i h,tn i h-> ∀b∈fp, ∃o,h.get? b=some o/\ ∀v,o.data≠ .cell v
 keep: ∀i h h',tn i h->(∀b∈fp, ∀o,h.get? b=some o->h'.get? b=some o)->tn i h'
 item: ∀(X:Cx),X.prog=P->X.w=w->X.K=K->X.calm=true-> ∀(i:Nat) (pins:List (Addr×Obj)) (s:Shared) (σ:St) (H:Hp) (E:Value->Shared->Prop),Inv X pins σ H s->(∀b∈fp,m5 X pins H b)->tn i s.heap->J.go i H->
  wpAny (model P w) X.A (pyNext (.ref it)) (fun r s1=> ∃u,r=some u/\
   wpAny (model P w) X.A (letOwnedTupleGo tg (.ref it) u) (fun _ s2=> ∃x H',Inv X pins σ H' s2/\RelV x u/\J.B2 i H x H'/\tn (i+1) s2.heap/\ ∀b∈fp,H' b=none) E s1) E s
 done: ∀(X:Cx),X.prog=P->X.w=w->X.K=K->X.calm=true-> ∀(i:Nat) (pins:List (Addr×Obj)) (s:Shared) (σ:St) (H:Hp) (E:Value->Shared->Prop),Inv X pins σ H s->(∀b∈fp,m5 X pins H b)->tn i s.heap->J.stop i H->
  wpAny (model P w) X.A (pyNext (.ref it)) (fun r s1=>r=none/\Inv X pins σ H s1) E s
 self: ∀(A:Around) (i:Nat) (s:Shared) (Q:Value->Shared->Prop) (E:Value->Shared->Prop),tn i s.heap->Q (.ref it) s->wpAny (model P w) A (pyIter (.ref it)) Q E s
abbrev TI:=St->Hp->(It->Hp->Prop)->Prop
def Sr (X:Cx) (pins:List (Addr×Obj)) (σ:St) (tg:Expr) (R:It->Hp->Prop) (Qv:Value) (s2:Shared):Prop:=
 ∃(it:Addr) (fp:List Addr) (tn:Nat->Heap->Prop) (J:It) (H':Hp),Qv= .ref it/\Inv X pins σ H' s2/\Turn X.prog X.w X.K tg J fp it tn/\tn 0 s2.heap/\(∀b∈fp,m5 X pins H' b)/\R J H'
def PI (X:Cx) (tg iter:Expr) (wi:TI):Prop:=
 ∀(pins:List (Addr×Obj)) (s:Shared) (σ:St) (H:Hp) (R:It->Hp->Prop),Inv X pins σ H s->wi σ H R->
  wpAny (model X.prog X.w) X.A (eval iter X.env) (fun v s1=>wpAny (model X.prog X.w) X.A (pyIter v) (Sr X pins σ tg R) X.xe s1) X.xe s
theorem uT {M:Model} {A:Around} {E:Value->Shared->Prop} {s:Shared} {tg:Expr} {it:Addr} {u:Value} {o:Obj} {n:String} {vs:Array Value} {Q:Unit->Shared->Prop} (ho:s.heap.get? it=some o) (hc:o.cls= .type n) (hd:o.data= .fields vs)
  (hn:["enumerate","zip","dict_itemiterator","dict_reverseitemiterator","odict_iterator","itertools.zip_longest","itertools.pairwise"].contains n=false) (hQ:Q () s):wpAny M A (letOwnedTupleGo tg (.ref it) u) Q E s:=by
 unfold letOwnedTupleGo
 cases tg<;>first
  | exact wpAny_pure hQ
  |(cases u<;>first
    | exact wpAny_pure hQ
    |(refine wpAny_bind (wpAny_load ho ?_)
      rw[hc,hd]
      show wpAny M A (if (["enumerate","zip","dict_itemiterator","dict_reverseitemiterator","odict_iterator","itertools.zip_longest","itertools.pairwise"].contains n&&vs[0]? ==some (rawInt _))=true then _ else _) Q E s
      rw[if_neg (by intro h;rw[hn,Bool.false_and]at h;cases h)]
      exact wpAny_pure hQ))
noncomputable def K2 (K:PySem.W.Frag) (a:Addr):It:=
 ⟨fun i H=> ∃xs x,bA K H a xs/\xs[i]? =some x,fun i H x H'=>H'=H/\ ∀xs,bA K H a xs->xs[i]? =some x,fun i H=> ∃xs,bA K H a xs/\xs.length<=i⟩
noncomputable def Qw (K:PySem.W.Frag) (a:Addr):It:=
 ⟨fun i H=> ∃xs x,cT K H a xs/\xs[i]? =some x,fun i H x H'=>H'=H/\ ∀xs,cT K H a xs->xs[i]? =some x,fun i H=> ∃xs,cT K H a xs/\xs.length<=i⟩
noncomputable def Hv (lo:Int) (n:Nat):It:=⟨fun i _=>i<n,fun i H x H'=>H'=H/\x= .int (lo+i),fun i _=>n<=i⟩
theorem Ao {P:Program} {w:World} {K:PySem.W.Frag} {tg:Expr} (a it:Addr):Turn P w K tg (K2 K a) [it] it (fun i h=>h.IsListIter it a i) where
 mem:=by simp
 obj:=fun i h st b hb=>by
  have e:b=it:=by simpa using hb
  subst e
  obtain ⟨o,e,c,d⟩:=st
  exact ⟨o,e,fun v z=>by rw[d]at z;cases z⟩
 keep:=fun i h h' st k=>st.at fun o e=>k it (by simp) o e
 item:=by
  intro X hP hw hK hc i pins s σ H E I hf st hg
  subst hP hw hK
  obtain ⟨xs,x,hq,hx⟩:=hg
  obtain ⟨aJ,rv,p,hz⟩:=I.list hq
  obtain ⟨u,hu,ru⟩:=rv.get hx
  obtain ⟨f0,f1,f2,f3,f4,f5⟩:=hf it (by simp)
  refine wpAny_pyNext_list_item st p.isList (x:=u) (by simpa using hu) fun h' uI sb=>?_
  have I1:Inv X pins σ H { s with heap:=h' }:=I.turned (t':=s.toks) (fun b o hb e=>(sb.2 b hb).trans e) f0 f1 f3 f4 f5
  obtain ⟨o,e,c,d⟩:=id uI
  exact ⟨u,rfl,uT (s:={ s with heap:=h' }) e c d (by decide) ⟨x,H,I1,ru,⟨rfl,fun ys hy=>by rw[I.uR hy hq];exact hx⟩,uI,fun b hb=>(hf b hb).1⟩⟩
 done:=by
  intro X hP hw hK hc i pins s σ H E I hf st hg
  subst hP hw hK
  obtain ⟨xs,hq,hx⟩:=hg
  obtain ⟨aJ,rv,p,hz⟩:=I.list hq
  obtain ⟨f0,f1,f2,f3,f4,f5⟩:=hf it (by simp)
  have hl:=rv.length
  exact wpAny_pyNext_list_end (I.ok.hd hc) st p.isList (by simp;omega) fun h' eb=>⟨rfl,I.turned (t':=s.toks) (fun b o hb e=>eb b o hb e) f0 f1 f3 f4 f5⟩
 self:=fun _ _ _ _ _ st h=>wpAny_pyIter_listiter st h
theorem wV {P:Program} {w:World} {K:PySem.W.Frag} {tg:Expr} (a it:Addr):Turn P w K tg (Qw K a) [it] it (fun i h=>h.IsTupleIter it a i) where
 mem:=by simp
 obj:=fun i h st b hb=>by
  have e:b=it:=by simpa using hb
  subst e
  obtain ⟨o,e,c,d⟩:=st
  exact ⟨o,e,fun v z=>by rw[d]at z;cases z⟩
 keep:=fun i h h' st k=>st.at fun o e=>k it (by simp) o e
 item:=by
  intro X hP hw hK hc i pins s σ H E I hf st hg
  subst hP hw hK
  obtain ⟨xs,x,hq,hx⟩:=hg
  obtain ⟨aJ,rv,p,hz⟩:=I.tuple hq
  obtain ⟨u,hu,ru⟩:=rv.get hx
  obtain ⟨f0,f1,f2,f3,f4,f5⟩:=hf it (by simp)
  refine wpAny_pyNext_tuple_item st (show s.heap.IsTuple a aJ.toArray from p) (x:=u) (by simpa using hu) fun h' uI sb=>?_
  have I1:Inv X pins σ H { s with heap:=h' }:=I.turned (t':=s.toks) (fun b o hb e=>(sb.2 b hb).trans e) f0 f1 f3 f4 f5
  obtain ⟨o,e,c,d⟩:=id uI
  exact ⟨u,rfl,uT (s:={ s with heap:=h' }) e c d (by decide) ⟨x,H,I1,ru,⟨rfl,fun ys hy=>by rw[I.qJ hy hq];exact hx⟩,uI,fun b hb=>(hf b hb).1⟩⟩
 done:=by
  intro X hP hw hK hc i pins s σ H E I hf st hg
  subst hP hw hK
  obtain ⟨xs,hq,hx⟩:=hg
  obtain ⟨aJ,rv,p,hz⟩:=I.tuple hq
  obtain ⟨f0,f1,f2,f3,f4,f5⟩:=hf it (by simp)
  have hl:=rv.length
  exact wpAny_pyNext_tuple_end (I.ok.hd hc) st (show s.heap.IsTuple a aJ.toArray from p) (by simp;omega) fun h' eb=>⟨rfl,I.turned (t':=s.toks) (fun b o hb e=>eb b o hb e) f0 f1 f3 f4 f5⟩
 self:=fun _ _ _ _ _ st h=>wpAny_pyIter_tupleiter st h
theorem wW {P:Program} {w:World} {K:PySem.W.Frag} {tg:Expr} (it:Addr) (lo:Int) (n:Nat):Turn P w K tg (Hv lo n) [it] it (fun i h=>IsRangeIter h it (lo+(i:Nat)*1) ((n:Int) - (i:Nat)) 1) where
 mem:=by simp
 obj:=fun i h st b hb=>by
  have e:b=it:=by simpa using hb
  subst e
  exact ⟨_,st,fun v z=>by
   have z':Data.fields _=Data.cell v:=z
   cases z'⟩
 keep:=fun i h h' st k=>k it (by simp) _ st
 item:=by
  intro X hP hw hK hc i pins s σ H E I hf st hg
  subst hP hw hK
  obtain ⟨f0,f1,f2,f3,f4,f5⟩:=hf it (by simp)
  have W:=Walks.range (prog:=X.prog) (w:=X.w) (I.ok.hd hc) it lo 1 n
  refine W.item i s _ _ hg st fun v h' tk hv uI kk=>?_
  obtain ⟨t,rfl⟩:=hv
  have I1:Inv X pins σ H { s with heap:=h',toks:=tk }:=I.turned (fun b o hb e=>kk b o (by simpa using hb) e) f0 f1 f3 f4 f5
  refine ⟨_,rfl,uT (s:={ s with heap:=h',toks:=tk }) (n:="range_iterator") uI rfl rfl (by decide) ⟨.int (lo+i),H,I1,⟨t,?_⟩,⟨rfl,rfl⟩,uI,fun b hb=>(hf b hb).1⟩⟩
  rw[Int.mul_one]
 done:=by
  intro X hP hw hK hc i pins s σ H E I hf st hg
  subst hP hw hK
  obtain ⟨f0,f1,f2,f3,f4,f5⟩:=hf it (by simp)
  exact wpAny_pyNext_range_end (I.ok.hd hc) st (by have:n<=i:=hg;omega) fun h' eb=>⟨rfl,I.turned (t':=s.toks) (fun b o hb e=>eb b o hb e) f0 f1 f3 f4 f5⟩
 self:=fun _ _ _ _ _ st h=>wpAny_pyIter_rangeiter st h
section
variable {X:Cx} {tg:Expr}
def Hw (K:PySem.W.Frag) (tl:TE):TI:=fun σ H R=>tl σ H fun x H1=> ∃a,x= .ref a/\(∃xs,bA K H1 a xs)/\R (K2 K a) H1
def MX (K:PySem.W.Frag) (tl:TE):TI:=fun σ H R=>tl σ H fun x H1=> ∃a,x= .ref a/\(∃xs,cT K H1 a xs)/\R (Qw K a) H1
theorem Fm {l:Expr} {tl:TE} (hl:PE X l tl):PI X tg l (Hw X.K tl):=by
 intro pins s σ H R I h
 refine b_ (hl pins s σ H _ I h) fun v s1 ⟨x,H1,I1,r1,q1⟩=>?_
 obtain ⟨a,e,⟨xs,hq⟩,q⟩:=q1
 subst e
 cases r1
 obtain ⟨aJ,rv,p,hz⟩:=I1.list hq
 refine wpAny_pyIter_list p.isList ?_
 refine ⟨s1.heap.objs.size,[s1.heap.objs.size],_,_,H1,rfl,I1.kept (t':=s1.toks) fun b o e=>SF _ e,Ao a _,⟨_,Xe _ rfl,rfl,rfl⟩,fun b hb=>?_,q⟩
 have e:b=s1.heap.objs.size:=by simpa using hb
 subst e
 exact I1.og (SA _) (I1.b5.fresh (SA _))
theorem IE {l:Expr} {tl:TE} (hl:PE X l tl):PI X tg l (MX X.K tl):=by
 intro pins s σ H R I h
 refine b_ (hl pins s σ H _ I h) fun v s1 ⟨x,H1,I1,r1,q1⟩=>?_
 obtain ⟨a,e,⟨xs,hq⟩,q⟩:=q1
 subst e
 cases r1
 obtain ⟨aJ,rv,p,hz⟩:=I1.tuple hq
 refine wpAny_pyIter_tuple (show s1.heap.IsTuple a aJ.toArray from p) ?_
 refine ⟨s1.heap.objs.size,[s1.heap.objs.size],_,_,H1,rfl,I1.kept (t':=s1.toks) fun b o e=>SF _ e,wV a _,⟨_,Xe _ rfl,rfl,rfl⟩,fun b hb=>?_,q⟩
 have e:b=s1.heap.objs.size:=by simpa using hb
 subst e
 exact I1.og (SA _) (I1.b5.fresh (SA _))
theorem uU {pins:List (Addr×Obj)} {σ:St} {H:Hp} {s:Shared} {R:It->Hp->Prop} {E:Value->Shared->Prop} {lo hi:Int} {t u v:Tok} {tk:Nat} (I:Inv X pins σ H s) (h1: -(2 ^ 62)<=lo) (h2:lo<2 ^ 62) (h3: -(2 ^ 62)<=hi) (h4:hi<2 ^ 62)
  (q:R (Hv lo (hi - lo).toNat) H):wpAny (model X.prog X.w) X.A (pyIter (.ref s.heap.objs.size)) (Sr X pins σ tg R) E { s with heap:=s.heap.push { cls:= .type "range",data:= .fields #[.int lo t, .int hi u, .int 1 v] },toks:=tk }:=by
 refine wpAny_pyIter_range (IsRange.new ..) (small_one h1 h2 h3 h4) ?_
 have I1:Inv X pins σ H { s with heap:=s.heap.push { cls:= .type "range",data:= .fields #[.int lo t, .int hi u, .int 1 v] },toks:=tk }:=I.kept fun b o e=>SF _ e
 refine ⟨(s.heap.push { cls:= .type "range",data:= .fields #[.int lo t, .int hi u, .int 1 v] }).objs.size,[(s.heap.push { cls:= .type "range",data:= .fields #[.int lo t, .int hi u, .int 1 v] }).objs.size],_,_,H,rfl,
  I1.kept (t':=tk) fun b o e=>SF _ e,wW _ lo (hi - lo).toNat,?_,fun b hb=>?_,q⟩
 ·have e1:lo+((0:Nat):Int)*1=lo:=by simp
  have e2:(((hi - lo).toNat:Nat):Int) - ((0:Nat):Int)=Builtin.Range.rangeSize lo hi 1:=by rw[rangeSize_one];split<;>omega
  show IsRangeIter _ _ (lo+((0:Nat):Int)*1) ((((hi - lo).toNat:Nat):Int) - ((0:Nat):Int)) 1
  rw[e1,e2]
  exact Xe _ rfl
 ·have e:b=(s.heap.push { cls:= .type "range",data:= .fields #[.int lo t, .int hi u, .int 1 v] }).objs.size:=by simpa using hb
  subst e
  exact I1.og (SA _) (I1.b5.fresh (SA _))
def MY (ta:TA):TI:=fun σ H R=>ta σ H fun vs H1=> ∃j:Int,vs=[.int j]/\ -(2 ^ 62)<=j/\j<2 ^ 62/\R (Hv 0 j.toNat) H1
def MZ (ta:TA):TI:=fun σ H R=>ta σ H fun vs H1=> ∃i j:Int,vs=[.int i, .int j]/\(-(2 ^ 62)<=i/\i<2 ^ 62/\ -(2 ^ 62)<=j/\j<2 ^ 62)/\R (Hv i (j - i).toNat) H1
theorem gx {a:Expr} {ta:TA} {p pos:Pos} (hg:Gl X "range") (hm:X.mg "range"=none) (ha:PA X [a] ta) (hs:starEach [a] X.env=[(false,eval a X.env)]:=by rfl):PI X tg (.Call (.Name "range" p) [a] [] pos) (MY ta):=by
 intro pins s σ H R I h
 refine Call_ (gL I hg hm boot_range (X3 (b_ (ha pos pins s σ H _ I h) fun us s1 ⟨vs,H1,I1,r1,q1⟩=>?_) hs rfl))
 obtain ⟨j,e,q1,q2,q⟩:=q1
 subst e
 cases r1 with
 | cons r rr=>
  cases rr
  obtain ⟨t,rfl⟩:=r
  exact call_range_1 (uU I1 (by omega) (by omega) q1 q2 (by simpa using q))
theorem qK {a b:Expr} {ta:TA} {p pos:Pos} (hg:Gl X "range") (hm:X.mg "range"=none) (ha:PA X [a,b] ta) (hs:starEach [a,b] X.env=[(false,eval a X.env),(false,eval b X.env)]:=by rfl) (M0:starEach [b] X.env=[(false,eval b X.env)]:=by rfl):
  PI X tg (.Call (.Name "range" p) [a,b] [] pos) (MZ ta):=by
 intro pins s σ H R I h
 refine Call_ (gL I hg hm boot_range (X3 (b_ (ha pos pins s σ H _ I h) fun us s1 ⟨vs,H1,I1,r1,q1⟩=>?_) (by rw[hs,M0]) (by rw[M0];rfl)))
 obtain ⟨i,j,e,⟨q1,q2,q3,q4⟩,q⟩:=q1
 subst e
 cases r1 with
 | cons r rr=>
  cases rr with
  | cons r' rr=>
   cases rr
   obtain ⟨t,rfl⟩:=r
   obtain ⟨t',rfl⟩:=r'
   exact call_range_2 (uU I1 q1 q2 q3 q4 q)
def Qx (wi:TI) (g:TG) (tb:TS):TS:=fun D σ H=>wi σ H fun J H1=> ∃W:Nat->Nat->St->Hp->Prop,(∃m,W 0 m σ H1)/\ ∀i m σ H,W i m σ H->
 (J.stop i H/\D.nx σ H)\/(J.go i H/\ ∃N:St->Hp->Prop,(∀σ' H',N σ' H'-> ∃m',m'<m/\W (i+1) m' σ' H')/\ ∀x H',J.B2 i H x H'->g x σ H' fun σ2 H2=>tb { D with nx:=N,ct:=N,bk:=D.nx } σ2 H2)
noncomputable def oh (fp:List Addr) (h:Heap):List (Addr×Obj):=fp.filterMap fun b=>(h.get? b).map fun o=>(b,o)
theorem gN {fp:List Addr} {h:Heap} {b:Addr} {o:Obj} (hb:b∈fp) (e:h.get? b=some o):(b,o)∈oh fp h:=List.mem_filterMap.mpr ⟨b,hb,by rw[e];rfl⟩
theorem Ap {fp:List Addr} {h:Heap} {p:Addr×Obj} (hp:p∈oh fp h):p.1∈fp/\h.get? p.1=some p.2:=by
 obtain ⟨b,hb,e⟩:=List.mem_filterMap.mp hp
 cases q:h.get? b with
 | none=>rw[q]at e;cases e
 | some o=>
  rw[q]at e
  have e':(b,o)=p:=Xa e
  subst e'
  exact ⟨hb,q⟩
theorem Inv.pinned {pins:List (Addr×Obj)} {σ:St} {H:Hp} {s:Shared} {fp:List Addr} (I:Inv X pins σ H s) (hf: ∀b∈fp,m5 X pins H b) (ho: ∀b∈fp, ∃o,s.heap.get? b=some o/\ ∀v,o.data≠ .cell v):Inv X (pins++oh fp s.heap) σ H s:=
 I.km fun p hp=>(WJ.mp hp).elim (fun z=>I.pin p (Xj _ z)) fun z=>by
  obtain ⟨hb,e⟩:=Ap z
  obtain ⟨f0,f1,f2,_⟩:=hf p.1 hb
  obtain ⟨o,e',d⟩:=ho p.1 hb
  rw[e]at e';cases e'
  exact ⟨e,f0,f1,f2,d⟩
theorem Inv.iE {pins pl:List (Addr×Obj)} {σ:St} {H:Hp} {s:Shared} (I:Inv X (pins++pl) σ H s):Inv X pins σ H s:=I.km fun p hp=>I.pin p (Xj _ (X0 _ hp))
theorem ck {iter:Expr} {body:List Stmt} {wi:TI} {g:TG} {tb:TS} {pos:Pos} (hp:PassesOwn (model X.prog X.w) X.A X.env X.xe) (hc:X.calm=true) (hi:PI X tg iter wi) (hg:PG X tg g) (hb:wR X body tb)
  (hs: ∀x,foldedSetIterable iter X.env x=pure x:=by intro _;rfl):PS X (.For tg iter body [] pos) (Qx wi g tb):=by
 intro pins s σ H D I h
 refine wpAny_For (b_ (hi pins s σ H _ I h) fun v s1 h1=>b_ h1 fun Qv s2 h2=>?_) hs
 obtain ⟨it,fp,tn,J,H2,e,I2,T,wH,f2,W,⟨m0,w0⟩,turn⟩:=h2
 subst e
 -- Qy stays true of B3 IF objects through B3 loop
 have IG: ∀{H':Hp},(∀b∈fp,H' b=none)-> ∀b∈fp,m5 X pins H' b:=fun hn b hb=>⟨hn b hb,(f2 b hb).2⟩
 refine codeAny_forLoop_any (fun n s'=> ∃i σ' H',Inv X pins σ' H' s'/\tn i s'.heap/\(∀b∈fp,H' b=none)/\W i n σ' H') ?_ m0 ⟨0,σ,H2,I2,wH,fun b hb=>(f2 b hb).1,w0⟩
 rintro n s3 ⟨i,σ3,H3,I3,M1,M3,w3⟩
 rcases turn i n σ3 H3 w3 with ⟨stop,qn⟩ | ⟨go,N,hN,step⟩
 ·refine wpAny_passesOwn hp (b_ (T.done X rfl rfl rfl hc i pins s3 σ3 H3 X.xe I3 (IG M3) M1 stop) fun r s4 ⟨hr,I4⟩=>?_)
  subst hr
  exact wpAny_execs_nil ⟨σ3,H3,I4,qn⟩
 ·refine wpAny_passesOwn hp (b_ (T.item X rfl rfl rfl hc i pins s3 σ3 H3 X.xe I3 (IG M3) M1 go) fun r s4 ⟨u,hr,h4⟩=>?_)
  subst hr
  refine wpAny_passesOwn hp (b_ h4 fun _ s5 ⟨x,H5,I5,r5,y5,IH,Qz⟩=>?_)
  have QA:=I5.pinned (IG Qz) (T.obj _ _ IH)
  refine wpAny_passesOwn hp (b_ (hg _ s5 σ3 H5 x u _ QA r5 (step x H5 y5)) fun _ s6 ⟨σ6,H6,I6,q6⟩=>?_)
  refine wpAny_passesOwn hp (b_ (hb _ s6 σ6 H6 _ I6 q6) fun f s7 q7=>?_)
  have again: ∀{σ7:St} {H7:Hp},Inv X (pins++oh fp s5.heap) σ7 H7 s7->N σ7 H7-> ∃m,m<n/\ ∃i σ' H',Inv X pins σ' H' s7/\tn i s7.heap/\(∀b∈fp,H' b=none)/\W i m σ' H':=fun {σ7 H7} I7 n7=>by
   obtain ⟨m',hm,w7⟩:=hN σ7 H7 n7
   refine ⟨m',hm,i+1,σ7,H7,I7.iE,T.keep _ _ _ IH fun b hb o e=>(I7.pin (b,o) (Xj _ (Xj _ (gN hb e)))).1,fun b hb=>?_,w7⟩
   obtain ⟨o,e,d⟩:=T.obj _ _ IH b hb
   exact (I7.pin (b,o) (Xj _ (Xj _ (gN hb e)))).2.1
  cases f with
  | next=>obtain ⟨σ7,H7,I7,n7⟩:=q7;exact again I7 n7
  | cont=>obtain ⟨σ7,H7,I7,n7⟩:=q7;exact again I7 n7
  | brk=>obtain ⟨σ7,H7,I7,q7⟩:=q7;exact ⟨σ7,H7,I7.iE,q7⟩
  | ret v=>obtain ⟨x7,σ7,H7,I7,r7,q7⟩:=q7;exact ⟨x7,σ7,H7,I7.iE,r7,q7⟩
end
theorem iF {K:PySem.W.Frag} {a:Addr} {xs:List V} {g:TG} {tb:TS} {D:Ends} {σ:St} {H:Hp} (Pv:Nat->St->Hp->Prop) (h0:Pv 0 σ H) (hl: ∀i σ H,i<=xs.length->Pv i σ H->bA K H a xs)
  (hs: ∀i x σ H,xs[i]? =some x->Pv i σ H->g x σ H fun σ2 H2=>tb { D with nx:=Pv (i+1),ct:=Pv (i+1),bk:=D.nx } σ2 H2) (hd: ∀σ H,Pv xs.length σ H->D.nx σ H):
  ∃W:Nat->Nat->St->Hp->Prop,(∃m,W 0 m σ H)/\ ∀i m σ H,W i m σ H->
   ((K2 K a).stop i H/\D.nx σ H)\/((K2 K a).go i H/\ ∃N:St->Hp->Prop,(∀σ' H',N σ' H'-> ∃m',m'<m/\W (i+1) m' σ' H')/\ ∀x H',(K2 K a).B2 i H x H'->g x σ H' fun σ2 H2=>tb { D with nx:=N,ct:=N,bk:=D.nx } σ2 H2):=by
 refine ⟨fun i m σ H=>m=xs.length - i/\i<=xs.length/\Pv i σ H,⟨xs.length,by simp,Xb _,h0⟩,?_⟩
 rintro i m σ H ⟨rfl,hi,p⟩
 have q:=hl i σ H hi p
 by_cases dz:i<xs.length
 ·refine .inr ⟨⟨xs,xs[i],q,by simp[dz]⟩,Pv (i+1),fun σ' H' p'=>⟨xs.length - (i+1),by omega,rfl,dz,p'⟩,fun x H' y=>?_⟩
  obtain ⟨e,y⟩:=y
  subst e
  exact hs i x σ _ (y xs q) p
 ·have e:i=xs.length:=by omega
  subst e
  exact .inl ⟨⟨xs,q,SA _⟩,hd σ H p⟩
theorem fB {lo:Int} {n:Nat} {g:TG} {tb:TS} {D:Ends} {σ:St} {H:Hp} (Pv:Nat->St->Hp->Prop) (h0:Pv 0 σ H)
  (hs: ∀i σ H,i<n->Pv i σ H->g (.int (lo+i)) σ H fun σ2 H2=>tb { D with nx:=Pv (i+1),ct:=Pv (i+1),bk:=D.nx } σ2 H2) (hd: ∀σ H,Pv n σ H->D.nx σ H):
  ∃W:Nat->Nat->St->Hp->Prop,(∃m,W 0 m σ H)/\ ∀i m σ H,W i m σ H->
   ((Hv lo n).stop i H/\D.nx σ H)\/((Hv lo n).go i H/\ ∃N:St->Hp->Prop,(∀σ' H',N σ' H'-> ∃m',m'<m/\W (i+1) m' σ' H')/\ ∀x H',(Hv lo n).B2 i H x H'->g x σ H' fun σ2 H2=>tb { D with nx:=N,ct:=N,bk:=D.nx } σ2 H2):=by
 refine ⟨fun i m σ H=>m=n - i/\i<=n/\Pv i σ H,⟨n,by simp,Xb _,h0⟩,?_⟩
 rintro i m σ H ⟨rfl,hi,p⟩
 by_cases dz:i<n
 ·refine .inr ⟨dz,Pv (i+1),fun σ' H' p'=>⟨n - (i+1),by omega,rfl,dz,p'⟩,fun x H' y=>?_⟩
  obtain ⟨e,y⟩:=y
  subst e y
  exact hs i σ _ dz p
 ·have e:i=n:=by omega
  subst e
  exact .inl ⟨SA _,hd σ H p⟩
abbrev R2:=V->V->Hp->VK->Prop
def iG (X:Cx) (f:Value->Value->Sem Value) (r:R2):Prop:=
 ∀(pins:List (Addr×Obj)) (s:Shared) (σ:St) (H:Hp) (x y:V) (v u:Value) (Q:VK),Inv X pins σ H s->RelV x v->RelV y u->r x y H Q->
  wpAny (model X.prog X.w) X.A (f v u) (EP X pins σ Q) X.xe s
def QB (X:Cx) (f:Value->Sem Value) (r:V->Hp->VK->Prop):Prop:=
 ∀(pins:List (Addr×Obj)) (s:Shared) (σ:St) (H:Hp) (x:V) (v:Value) (Q:VK),Inv X pins σ H s->RelV x v->r x H Q->
  wpAny (model X.prog X.w) X.A (f v) (EP X pins σ Q) X.xe s
def dB (X:Cx) (f:Value) (r:List V->Hp->VK->Prop):Prop:=
 ∀(pins:List (Addr×Obj)) (s:Shared) (σ:St) (H:Hp) (xs:List V) (us:List Value) (Q:VK),Inv X pins σ H s->Vals xs us->r xs H Q->
  wpAny (model X.prog X.w) X.A (call f us) (EP X pins σ Q) X.xe s
def QC (X:Cx) (r:V->Hp->(Bool->Hp->Prop)->Prop):Prop:=
 ∀(pins:List (Addr×Obj)) (s:Shared) (σ:St) (H:Hp) (x:V) (v:Value) (Q:Bool->Hp->Prop),Inv X pins σ H s->RelV x v->r x H Q->
  wpAny (model X.prog X.w) X.A (truthy v) (TP X pins σ Q) X.xe s
def O2 (r:R2) (ta tb:TE):TE:=fun σ H Q=>ta σ H fun x H1=>tb σ H1 fun y H2=>r x y H2 Q
def Uj (r:V->Hp->VK->Prop) (ta:TE):TE:=fun σ H Q=>ta σ H fun x H1=>r x H1 Q
def rI (C:Int->Int->Prop) (g:Int->Int->V):R2:=fun x y H Q=> ∃i j,x= .int i/\y= .int j/\C i j/\Q (g i j) H
def EZ (g:Int->Int->V):R2:=fun x y H Q=> ∃i j,x= .int i/\y= .int j/\Q (g i j) H
def rU (g:Int->V):V->Hp->VK->Prop:=fun x H Q=> ∃i,x= .int i/\Q (g i) H
section
variable {X:Cx} {a b c:Expr} {ta tb tc:TE} {pos:Pos}
theorem II (ha:PE X a ta) (hb:PE X b tb) {pins:List (Addr×Obj)} {s:Shared} {σ:St} {H:Hp} {R:V->V->Hp->Prop} (I:Inv X pins σ H s)
  (h:ta σ H fun x H1=>tb σ H1 fun y H2=>R x y H2) {Q:Value->Shared->Prop} {f:Value->Value->Sem Value}
  (hf: ∀v u s2 x y H2,Inv X pins σ H2 s2->RelV x v->RelV y u->R x y H2->wpAny (model X.prog X.w) X.A (f v u) Q X.xe s2):
  wpAny (model X.prog X.w) X.A (eval a X.env) (fun v s₁=>wpAny (model X.prog X.w) X.A (eval b X.env) (fun u s₂=>wpAny (model X.prog X.w) X.A (f v u) Q X.xe s₂) X.xe s₁) X.xe s:=by
 refine b_ (ha pins s σ H _ I h) fun v s1 ⟨x,H1,I1,r1,q1⟩=>?_
 refine b_ (hb pins s1 σ H1 _ I1 q1) fun u s2 ⟨y,H2,I2,r2,q2⟩=>?_
 exact hf v u s2 x y H2 I2 r1 r2 q2
theorem aE {op:Operator} {r:R2} (ho:iG X (binaryOp op) r) (ha:PE X a ta) (hb:PE X b tb):PE X (.BinOp a op b pos) (O2 r ta tb):=by
 intro pins s σ H Q I h
 exact wpAny_BinOp (II ha hb I h fun v u s2 x y H2 I2 rx ry q=>ho pins s2 σ H2 x y v u Q I2 rx ry q)
theorem kx {op:UnaryOp} {r:V->Hp->VK->Prop} (ho:QB X (unaryOp op) r) (ha:PE X a ta):PE X (.UnaryOp op a pos) (Uj r ta):=by
 intro pins s σ H Q I h
 exact UnaryOp_ (b_ (ha pins s σ H _ I h) fun v s1 ⟨x,H1,I1,r1,q1⟩=>ho pins s1 σ H1 x v Q I1 r1 q1)
theorem O3 {f:Value->Value->Sem Value} {C:Int->Int->Prop} {g:Int->Int->Int}
  (rule: ∀(i j:Int) (t u:Tok) (s:Shared) (Q:Value->Shared->Prop) (E:Value->Shared->Prop),C i j->Q (.int (g i j) s.toks) { s with toks:=s.toks+1 }->wpAny (model X.prog X.w) X.A (f (.int i t) (.int j u)) Q E s):
  iG X f (rI C fun i j=> .int (g i j)):=by
 intro pins s σ H x y v u Q I rx ry h
 obtain ⟨i,j,rfl,rfl,hc,q⟩:=h
 obtain ⟨t,rfl⟩:=rx
 obtain ⟨t',rfl⟩:=ry
 exact rule i j t t' s _ _ hc ⟨.int (g i j),H,I.tok _,⟨_,rfl⟩,q⟩
theorem M4 {f:Value->Value->Sem Value} {g:Int->Int->Int}
  (rule: ∀(i j:Int) (t u:Tok) (s:Shared) (Q:Value->Shared->Prop) (E:Value->Shared->Prop),Q (.int (g i j) s.toks) { s with toks:=s.toks+1 }->wpAny (model X.prog X.w) X.A (f (.int i t) (.int j u)) Q E s):
  iG X f (EZ fun i j=> .int (g i j)):=by
 intro pins s σ H x y v u Q I rx ry h
 obtain ⟨i,j,rfl,rfl,q⟩:=h
 obtain ⟨t,rfl⟩:=rx
 obtain ⟨t',rfl⟩:=ry
 exact rule i j t t' s _ _ ⟨.int (g i j),H,I.tok _,⟨_,rfl⟩,q⟩
theorem Fn {f:Value->Value->Sem Value} {g:Int->Int->Bool}
  (rule: ∀(i j:Int) (t u:Tok) (s:Shared) (Q:Value->Shared->Prop) (E:Value->Shared->Prop),Q (.bool (g i j)) s->wpAny (model X.prog X.w) X.A (f (.int i t) (.int j u)) Q E s):
  iG X f (EZ fun i j=> .bl (g i j)):=by
 intro pins s σ H x y v u Q I rx ry h
 obtain ⟨i,j,rfl,rfl,q⟩:=h
 obtain ⟨t,rfl⟩:=rx
 obtain ⟨t',rfl⟩:=ry
 exact rule i j t t' s _ _ ⟨.bl (g i j),H,I,rfl,q⟩
def QD (i j:Int):Prop:=0<j/\j<1073741824
def QE (i j:Int):Prop:=0<=j/\j<=1000000/\i.natAbs<2 ^ 64
def Fo (i j:Int):Prop:=(-(2 ^ 64)<i/\i<2 ^ 64)\/(-(2 ^ 64)<j/\j<2 ^ 64)
theorem Fo.ok {i j:Int} (h:Fo i j):IntMulOk i j:=by
 rcases h with ⟨h1,h2⟩ | ⟨h1,h2⟩
 ·exact .of_left (intBits_le_64 h1 h2)
 ·exact .of_right (intBits_le_64 h1 h2)
theorem bj:iG X (binaryOp .Add) (EZ fun i j=> .int (i+j)):=M4 fun _ _ _ _ _ _ _ q=>add_int q
theorem dm:iG X (binaryOp .Sub) (EZ fun i j=> .int (i - j)):=M4 fun _ _ _ _ _ _ _ q=>sub_int q
theorem j4:iG X (binaryOp .Mult) (rI Fo fun i j=> .int (i*j)):=O3 fun _ _ _ _ _ _ _ hc q=>mul_int q hc.ok
theorem eI:iG X (binaryOp .Mod) (rI (fun _ j=>0<j) fun i j=> .int (i%j)):=O3 fun i j _ _ _ _ _ hc q=>by
 have h1:(0:Int)<j:=hc
 exact mod_int' (by omega) (by rw[Int.fmod_eq_emod_of_nonneg i (by omega)];exact q)
theorem B4:iG X (binaryOp .Pow) (rI QE fun i j=> .int (i ^ j.toNat)):=O3 fun _ _ _ _ _ _ _ hc q=>pow_int_small hc.1 hc.2.1 hc.2.2 q
theorem Uk {f:Value->Sem Value} {g:Int->Int}
  (rule: ∀(i:Int) (t:Tok) (s:Shared) (Q:Value->Shared->Prop) (E:Value->Shared->Prop),Q (.int (g i) s.toks) { s with toks:=s.toks+1 }->wpAny (model X.prog X.w) X.A (f (.int i t)) Q E s):
  QB X f (rU fun i=> .int (g i)):=by
 intro pins s σ H x v Q I rx h
 obtain ⟨i,rfl,q⟩:=h
 obtain ⟨t,rfl⟩:=rx
 exact rule i t s _ _ ⟨.int (g i),H,I.tok _,⟨_,rfl⟩,q⟩
theorem gO:QB X (unaryOp .USub) (rU fun i=> .int (-i)):=Uk fun _ _ _ _ _ q=>neg_int q
end
noncomputable def M5:V->V->Bool
 | .fE, .fE=>true | .fE, .int _=>true | .int _, .fE=>true | .fE, .bl _=>true | .bl _, .fE=>true | .fE, .str _=>true | .str _, .fE=>true
 | .int _, .int _=>true | .bl _, .bl _=>true | .str _, .str _=>true | .yI _, .yI _=>true
 | .int _, .str _=>true | .str _, .int _=>true | .bl _, .str _=>true | .str _, .bl _=>true
 | _,_=>false
def Ul:R2:=fun x y H Q=>M5 x y=true/\Q (.bl (decide (x=y))) H
def Um:R2:=fun x y H Q=>M5 x y=true/\Q (.bl (!decide (x=y))) H
theorem yO {i j:Int}:decide (V.int i=V.int j)=(i==j):=by
 rw[YT]
 simp
theorem B5 {i j:Bool}:decide (V.bl i=V.bl j)=(i==j):=by
 rw[YT]
 simp
theorem yP {i j:Str}:decide (V.str i=V.str j)=(i==j):=by
 rw[YT]
 simp
theorem yQ {i j:Array UInt8}:decide (V.yI i=V.yI j)=(i.toList==j.toList):=by
 rw[YT]
 cases i
 cases j
 simp
section
variable {X:Cx} {a b c:Expr} {ta tb tc:TE} {pos:Pos}
theorem br {pins:List (Addr×Obj)} {σ:St} {H:Hp} {s:Shared} {Q:VK} {k k':Bool} (I:Inv X pins σ H s) (q:Q (.bl k) H) (e:k=k'):EP X pins σ Q (.bool k') s:=by
 subst e
 exact ⟨.bl k,H,I,rfl,q⟩
theorem Hx:iG X (compareOp .Eq) Ul:=by
 intro pins s σ H x y v u Q I rx ry h
 obtain ⟨hs,q⟩:=h
 cases x with
 | fE=>
  cases rx
  cases y with
  | fE=>cases ry;exact PySem.EqNone.eq_none_none (br I q (by simp))
  | bl j=>cases ry;exact PySem.EqNone.eq_none_bool (br I q (by simp))
  | int j=>obtain ⟨t',rfl⟩:=ry;exact PySem.EqNone.eq_none_int (br I q (by simp))
  | str j=>obtain ⟨t',rfl⟩:=ry;exact PySem.EqNone.eq_none_str (br I q (by simp))
  | _=>exact absurd (show false=true from hs) Xi
 | bl i=>
  cases rx
  cases y with
  | fE=>cases ry;exact PySem.EqNone.eq_bool_none (br I q (by simp))
  | bl j=>cases ry;exact eq_bool (br I q B5)
  | str j=>obtain ⟨t',rfl⟩:=ry;exact PySem.EqMixed.eq_bool_str (br I q (by simp))
  | _=>exact absurd (show false=true from hs) Xi
 | int i=>
  obtain ⟨t,rfl⟩:=rx
  cases y with
  | fE=>cases ry;exact PySem.EqNone.eq_int_none (br I q (by simp))
  | int j=>obtain ⟨t',rfl⟩:=ry;exact eq_int (br I q yO)
  | str j=>obtain ⟨t',rfl⟩:=ry;exact PySem.EqMixed.eq_int_str (br I q (by simp))
  | _=>exact absurd (show false=true from hs) Xi
 | str i=>
  obtain ⟨t,rfl⟩:=rx
  cases y with
  | fE=>cases ry;exact PySem.EqNone.eq_str_none (br I q (by simp))
  | bl j=>cases ry;exact PySem.EqMixed.eq_str_bool (br I q (by simp))
  | int j=>obtain ⟨t',rfl⟩:=ry;exact PySem.EqMixed.eq_str_int (br I q (by simp))
  | str j=>obtain ⟨t',rfl⟩:=ry;exact eq_str (br I q yP)
  | _=>exact absurd (show false=true from hs) Xi
 | yI i=>
  obtain ⟨t,rfl⟩:=rx
  cases y with
  | yI j=>obtain ⟨t',rfl⟩:=ry;exact PySem.W.eq_bytes (br I q yQ)
  | _=>exact absurd (show false=true from hs) Xi
 | _=>cases y<;>exact absurd (show false=true from hs) Xi
theorem Hy:iG X (compareOp .NotEq) Um:=by
 intro pins s σ H x y v u Q I rx ry h
 obtain ⟨hs,q⟩:=h
 cases x with
 | fE=>
  cases rx
  cases y with
  | fE=>cases ry;exact PySem.EqNone.ne_none_none (br I q (by simp))
  | bl j=>cases ry;exact PySem.EqNone.ne_none_bool (br I q (by simp))
  | int j=>obtain ⟨t',rfl⟩:=ry;exact PySem.EqNone.ne_none_int (br I q (by simp))
  | str j=>obtain ⟨t',rfl⟩:=ry;exact PySem.EqNone.ne_none_str (br I q (by simp))
  | _=>exact absurd (show false=true from hs) Xi
 | bl i=>
  cases rx
  cases y with
  | fE=>cases ry;exact PySem.EqNone.ne_bool_none (br I q (by simp))
  | bl j=>cases ry;exact ne_bool (br I q (congrArg not B5))
  | str j=>obtain ⟨t',rfl⟩:=ry;exact PySem.EqMixed.ne_bool_str (br I q (by simp))
  | _=>exact absurd (show false=true from hs) Xi
 | int i=>
  obtain ⟨t,rfl⟩:=rx
  cases y with
  | fE=>cases ry;exact PySem.EqNone.ne_int_none (br I q (by simp))
  | int j=>obtain ⟨t',rfl⟩:=ry;exact ne_int (br I q (congrArg not yO))
  | str j=>obtain ⟨t',rfl⟩:=ry;exact PySem.EqMixed.ne_int_str (br I q (by simp))
  | _=>exact absurd (show false=true from hs) Xi
 | str i=>
  obtain ⟨t,rfl⟩:=rx
  cases y with
  | fE=>cases ry;exact PySem.EqNone.ne_str_none (br I q (by simp))
  | bl j=>cases ry;exact PySem.EqMixed.ne_str_bool (br I q (by simp))
  | int j=>obtain ⟨t',rfl⟩:=ry;exact PySem.EqMixed.ne_str_int (br I q (by simp))
  | str j=>obtain ⟨t',rfl⟩:=ry;exact ne_str (br I q (congrArg not yP))
  | _=>exact absurd (show false=true from hs) Xi
 | yI i=>
  obtain ⟨t,rfl⟩:=rx
  cases y with
  | yI j=>obtain ⟨t',rfl⟩:=ry;exact PySem.W.ne_bytes (br I q (congrArg not yQ))
  | _=>exact absurd (show false=true from hs) Xi
 | _=>cases y<;>exact absurd (show false=true from hs) Xi
theorem oj:iG X (compareOp .Lt) (EZ fun i j=> .bl (decide (i<j))):=Fn fun _ _ _ _ _ _ _ q=>lt_int q
theorem Hz:iG X (compareOp .LtE) (EZ fun i j=> .bl (decide (i<=j))):=Fn fun _ _ _ _ _ _ _ q=>le_int q
theorem om:iG X (compareOp .Gt) (EZ fun i j=> .bl (decide (j<i))):=Fn fun _ _ _ _ _ _ _ q=>gt_int q
theorem B6:iG X (compareOp .GtE) (EZ fun i j=> .bl (decide (j<=i))):=Fn fun _ _ _ _ _ _ _ q=>ge_int q
theorem Aq:iG X (compareOp .Lt) (fun x y H Q=> ∃i j,x= .str i/\y= .str j/\Q (.bl (decide (i.cps.toList<j.cps.toList))) H):=by
 intro pins s σ H x y v u Q I rx ry h
 obtain ⟨i,j,rfl,rfl,q⟩:=h
 obtain ⟨t,rfl⟩:=rx
 obtain ⟨t',rfl⟩:=ry
 exact lt_str (br I q rfl)
theorem Ar:iG X (compareOp .In) (fun x y H Q=> ∃i j,x= .str i/\y= .str j/\Q (.bl (!(Builtin.Str.occurrences j i 0 j.length 1).isEmpty)) H):=by
 intro pins s σ H x y v u Q I rx ry h
 obtain ⟨i,j,rfl,rfl,q⟩:=h
 obtain ⟨t,rfl⟩:=rx
 obtain ⟨t',rfl⟩:=ry
 exact in_str (br I q rfl)
theorem aT (b:Expr) {op:CmpOp} (h:op≠ .In:=by decide) (h2:op≠ .NotIn:=by decide):behindInMarks op b=false:=by
 have e1:(op==CmpOp.In)=false:=by cases op<;>first | rfl | exact absurd rfl h
 have e2:(op==CmpOp.NotIn)=false:=by cases op<;>first | rfl | exact absurd rfl h2
 cases b<;>simp[behindInMarks,e1,e2]
theorem jj {op:CmpOp} {r:R2} (ho:iG X (compareOp op) r) (ha:PE X a ta) (hb:PE X b tb) (hm:behindInMarks op b=false):PE X (.Compare a [op] [b] pos) (O2 r ta tb):=by
 intro pins s σ H Q I h
 exact wpAny_Compare1 (II ha hb I h fun v u s2 x y H2 I2 rx ry q=>ho pins s2 σ H2 x y v u Q I2 rx ry q) hm
def M6 (t:TE):TT:=fun σ H Q=>t σ H fun x H'=> ∃k,x= .bl k/\Q k H'
theorem aI {op:CmpOp} {r:R2} (ho:iG X (compareOp op) r) (ha:PE X a ta) (hb:PE X b tb) (hm:behindInMarks op b=false):PT X (.Compare a [op] [b] pos) (M6 (O2 r ta tb)):=by
 intro pins s σ H Q I h
 refine wpAny_isTrue_Compare1 (b_ (ha pins s σ H _ I h) fun v s1 ⟨x,H1,I1,r1,q1⟩=>b_ (hb pins s1 σ H1 _ I1 q1) fun u s2 ⟨y,H2,I2,r2,q2⟩=>
  b_ (ho pins s2 σ H2 x y v u _ I2 r1 r2 q2) fun c s3 ⟨z,H3,I3,r3,k,e,q3⟩=>?_) hm
 subst e
 cases r3
 exact wpAny_truthy_bool ⟨H3,I3,q3⟩
def QF (K:PySem.W.Frag) (x:V) (H:Hp) (k:Bool):Prop:=
 match x with
 | .fE=>k=false
 | .bl b=>k=b
 | .int i=>k=(i != 0)
 | .str y=>y.length<=sizeLine/\k=((y.length:Int) != 0)
 | .yI y=>y.size<=sizeLine/\k=((y.size:Int) != 0)
 | .ref p=>(∃xs,bA K H p xs/\k=!xs.isEmpty)\/(∃xs,cT K H p xs/\k=!xs.isEmpty)\/ ∃aL,H p=some (.dK aL)/\k=!aL.isEmpty
 | _=>False
theorem wX {κ:Type} {aL:List (κ×V)} {vs:List (κ×Value)} (r:KV aL vs):(!vs.isEmpty)=!aL.isEmpty:=by
 cases r<;>rfl
theorem oq {xs:List V} {aJ:List Value} (r:Vals xs aJ):(!aJ.toArray.isEmpty)=!xs.isEmpty:=by
 cases r<;>simp
theorem fF:(sizeLine:Nat)<2 ^ 63:=by rw[sizeLine_eq];decide
theorem IJ:QC X (fun x H Q=> ∃k,QF X.K x H k/\Q k H):=by
 intro pins s σ H x v Q I rx h
 obtain ⟨k,e,q⟩:=h
 have hl:=fF
 have hs:sizeLine=16777216:=sizeLine_eq
 cases x with
 | fE=>
  cases rx
  have e':k=false:=e
  subst e'
  exact truthy_none ⟨H,I,q⟩
 | bl b=>
  cases rx
  have e':k=b:=e
  subst e'
  exact wpAny_truthy_bool ⟨H,I,q⟩
 | int i=>
  obtain ⟨t,rfl⟩:=rx
  have e':k=(i != 0):=e
  subst e'
  exact PySem.P.truthy_int ⟨H,I,q⟩
 | str y=>
  obtain ⟨t,rfl⟩:=rx
  obtain ⟨hy,e'⟩:y.length<=sizeLine/\k=((y.length:Int) != 0):=e
  subst e'
  exact PySem.P.truthy_str (by omega) ⟨H,I.tok _,q⟩
 | yI y=>
  obtain ⟨t,rfl⟩:=rx
  obtain ⟨hy,e'⟩:y.size<=sizeLine/\k=((y.size:Int) != 0):=e
  subst e'
  exact PySem.W.truthy_bytes (by omega) ⟨H,I.tok _,q⟩
 | ref p=>
  cases rx
  have e':(∃xs,bA X.K H p xs/\k=!xs.isEmpty)\/(∃xs,cT X.K H p xs/\k=!xs.isEmpty)\/ ∃aL,H p=some (.dK aL)/\k=!aL.isEmpty:=e
  rcases e' with ⟨xs,hx,e'⟩ | ⟨xs,hx,e'⟩ | ⟨aL,hx,e'⟩
  ·subst e'
   obtain ⟨aJ,r,pl,hz⟩:=I.list hx
   have hlen:=r.length
   exact wpAny_truthy_list pl.isList (by simp only[WH];omega) ⟨H,I.tok _,by rw[oq r];exact q⟩
  ·subst e'
   obtain ⟨aJ,r,pl,hz⟩:=I.tuple hx
   have hlen:=r.length
   exact truthy_tuple pl (by simp only[WH];omega) ⟨H,I.tok _,by rw[oq r];exact q⟩
  ·subst e'
   obtain ⟨hz,hS,vs,r,m⟩:aL.length<=sizeLine/\(p==sysModules)=false/\ ∃vs,KV aL vs/\s.heap.DictOf (cA X.prog X.w) p vs:=I.b5 p _ hx
   have hlen:aL.length=vs.length:=Paired.length r
   exact wpAny_truthy_dict hS m (by omega) ⟨H,I.tok _,by rw[wX r];exact q⟩
 | _=>exact (show False from e).elim
theorem wY:iG X (binaryOp .Add) (fun x y H Q=> ∃i j,x= .str i/\y= .str j/\i.length+j.length<=sizeLine/\Q (.str (i++j)) H):=by
 intro pins s σ H x y v u Q I rx ry h
 obtain ⟨i,j,rfl,rfl,hz,q⟩:=h
 obtain ⟨t,rfl⟩:=rx
 obtain ⟨t',rfl⟩:=ry
 exact add_str (fun t' tk=>⟨.str (i++j),H,I.tok _,⟨_,rfl⟩,q⟩) hz
theorem uV:iG X (inplaceOp .Add) (fun x y H Q=> ∃i j,x= .str i/\y= .str j/\i.length+j.length<=sizeLine/\Q (.str (i++j)) H):=by
 intro pins s σ H x y v u Q I rx ry h
 obtain ⟨i,j,rfl,rfl,hz,q⟩:=h
 obtain ⟨t,rfl⟩:=rx
 obtain ⟨t',rfl⟩:=ry
 exact iadd_str (fun t' tk=>⟨.str (i++j),H,I.tok _,⟨_,rfl⟩,q⟩) hz
theorem vals1 {x:V} {us:List Value} (r:Vals [x] us): ∃u,us=[u]/\RelV x u:=by
 cases r with
 | cons r1 r2=>cases r2;exact ⟨_,rfl,r1⟩
theorem vals2 {x y:V} {us:List Value} (r:Vals [x,y] us): ∃u w',us=[u,w']/\RelV x u/\RelV y w':=by
 cases r with
 | cons r1 r2=>
  cases r2 with
  | cons r3 r4=>cases r4;exact ⟨_,_,rfl,r1,r3⟩
theorem As (hc:X.calm=true):dB X (.builtin "max") (fun xs H Q=> ∃i j,xs=[.int i, .int j]/\Q (.int (if j>i then j else i)) H):=by
 intro pins s σ H xs us Q I r h
 obtain ⟨i,j,rfl,q⟩:=h
 obtain ⟨u,w',rfl,⟨t,rfl⟩,⟨t',rfl⟩⟩:=vals2 r
 refine max_two_ints (I.ok.hd hc) fun h' tk k=>⟨_,H,I.kept k,?_,q⟩
 by_cases hj:j>i
 ·rw[if_pos hj,if_pos hj];exact ⟨_,rfl⟩
 ·rw[if_neg hj,if_neg hj];exact ⟨_,rfl⟩
theorem qL (hc:X.calm=true):dB X (.builtin "min") (fun xs H Q=> ∃i j,xs=[.int i, .int j]/\Q (.int (if j<i then j else i)) H):=by
 intro pins s σ H xs us Q I r h
 obtain ⟨i,j,rfl,q⟩:=h
 obtain ⟨u,w',rfl,⟨t,rfl⟩,⟨t',rfl⟩⟩:=vals2 r
 refine min_two_ints (I.ok.hd hc) fun h' tk k=>⟨_,H,I.kept k,?_,q⟩
 by_cases hj:j<i
 ·rw[if_pos hj,if_pos hj];exact ⟨_,rfl⟩
 ·rw[if_neg hj,if_neg hj];exact ⟨_,rfl⟩
theorem Au:dB X (.type "int") (fun xs H Q=>(∃i,xs=[.int i]/\Q (.int i) H)\/ ∃k,xs=[.bl k]/\Q (.int (if k then 1 else 0)) H):=by
 intro pins s σ H xs us Q I r h
 rcases h with ⟨i,rfl,q⟩ | ⟨k,rfl,q⟩
 ·obtain ⟨u,rfl,t,rfl⟩:=vals1 r
  exact call_int_int ⟨.int i,H,I,⟨_,rfl⟩,q⟩
 ·obtain ⟨u,rfl,r1⟩:=vals1 r
  cases r1
  exact call_int_bool ⟨.int (if k then 1 else 0),H,I.tok _,⟨_,rfl⟩,q⟩
theorem sE:dB X (.type "str") (fun xs H Q=> ∃i,xs=[.int i]/\i.natAbs.log2<1920/\Q (.str (toString i)) H):=by
 intro pins s σ H xs us Q I r h
 obtain ⟨i,rfl,hz,q⟩:=h
 obtain ⟨u,rfl,t,rfl⟩:=vals1 r
 exact PySem.P.str_of_int hz ⟨.str _,H,I.tok _,⟨_,rfl⟩,q⟩
end
structure Av (h:Heap) (x dx C:Addr) (mA:Str->Option Value):Prop where
 obj:h.get? x=some (PySem.W.instObj C dx)
 ns:h.Ns1 dx mA
 ne:dx≠x
theorem Aw {h:Heap} {dx:Addr} {mA:Str->Option Value} (n:h.Ns1 dx mA): ∃od,h.get? dx=some od/\ ∀name,PySem.W.lookIn name od=some (mA name):=by
 obtain ⟨o,es,ep,ho,hd,hk,_,hm⟩:=n
 refine ⟨o,ho,fun name=>?_⟩
 have e:=hm name
 unfold nsFind findBy at e
 rw[<-Array.find?_toList]at e
 unfold PySem.W.lookIn
 rw[hd]
 dsimp only
 split
 ·rename_i y q
  rw[q]at e
  exact congrArg some e
 ·rename_i q
  rw[q]at e
  have a:es.toList.any (·.refKey)=false:=by
   rw[Z0]
   intro y hy
   obtain ⟨z,t,wZ⟩:=hk y (Array.mem_toList_iff.mp hy)
   simp[DictEntry.refKey,wZ]
  have a': ¬es.toList.any (·.refKey)=true:=by rw[a];exact Xi
  rw[if_neg a']
  exact congrArg some e
theorem Av.look {h:Heap} {x dx C:Addr} {mA:Str->Option Value} (I:Av h x dx C mA): ∃od,PySem.W.InstAt h x (PySem.W.instObj C dx) C (some od)/\ ∀name,PySem.W.lookIn name od=some (mA name):=
 let ⟨od,ho,hl⟩:=Aw I.ns
 ⟨od,⟨I.obj,rfl,rfl,ho⟩,hl⟩
section
variable {prog:Program} {w:World} {A:Around} {E:Value->Shared->Prop} {s:Shared} {K:PySem.W.Frag} {x dx C f:Addr} {mA:Str->Option Value} {name:Str} {v:Value}
theorem get_map {expr:Bool} {Q:Value->Shared->Prop} (X:K.In s.heap) (I:Av s.heap x dx C mA) (hg:PySem.W.plainGet K C name=true) (hh:PySem.W.hasDictIn K C=true)
  (ha:PySem.W.findIn K (.ref C) name=some none) (hv:mA name=some v) (O4:PySem.W.handedIn v=true) (h:Q v { s with toks:=s.toks+1 }):
  wpAny (model prog w) A (getAttr (.ref x) name expr) Q E s:=by
 obtain ⟨od,J,hl⟩:=I.look
 exact PySem.W.get_value X J (PySem.W.plainGet_of hg).1 (PySem.W.findObj_own hh ha rfl (by rw[hl,hv])) O4 h
theorem Fp {ns:List Str} {Q:Unit->Shared->Prop} (X:K.In s.heap) (I:Av s.heap x dx C mA)
  (hs:PySem.W.findIn K (.ref C) "__setattr__"=some (some (.builtin "object.__setattr__"))) (hp:PySem.W.plainOver K C=true) (ht:PySem.W.takerIn K C name=some none) (hh:PySem.W.hasDictIn K C=true)
  (hw:PySem.Within mA ns) (hsz:ns.length<=sizeLine)
  (h: ∀h',Av h' x dx C (fun y=>if y=name then some v else mA y)->Heap.SameBut dx s.heap h'->Q () { s with heap:=h',toks:=s.toks+2 }):
  wpAny (model prog w) A (setAttr (.ref x) name v) Q E s:=by
 obtain ⟨od,J,hl⟩:=I.look
 refine PySem.W.set_plain X J hs (PySem.W.osa_open (s:={ s with toks:=s.toks+1 }) (r:=none) X J hp ht fun b=>?_)
 obtain ⟨cd,hc,Qh⟩:=PySem.W.any_some hh
 have hx:s.heap.get? x=some ⟨.ref C,some dx, .plain, #[]⟩:=I.obj
 refine wpAny_bind (wpAny_pure (wpAny_bind (wpAny_bind (wpAny_loadPart hx (wpAny_bind (PySem.W.Looks.here (s:={ s with toks:=s.toks+1 }) (PySem.W.looks_clsIn X hc) ?_))))))
 rw[Qh]
 refine wpAny_pure (a:=some dx) (wpAny_bind (wpAny_pure (wpAny_bind ?_)))
 refine wpAny_nsSet1 (s:={ s with toks:=s.toks+1 }) I.ns fun h' w4 M0=>?_
 obtain ⟨oD,WA,WB,Uo,Up,Uq⟩:=w4.count (PySem.Within.cons name v hw)
 refine wpAny_bind (wpAny_lookBehind Uo (by rw[Up];exact pastItsLine_dict (Xt Uq (by rw[XB];omega))) ?_)
 exact wpAny_pure (h _ ⟨(M0.2 _ (Ne.symm I.ne)).trans I.obj,w4,I.ne⟩ M0)
theorem B7 {R:Result->Shared->Prop} {vs:List Value} {kw:List (Str×Value)} (X:K.In s.heap) (hm:PySem.W.makesIn K C=true)
  (hi:PySem.W.findIn K (.ref C) "__init__"=some (some (.ref f))) (hf:PySem.W.typeIn K (.ref f)=some (.type "function"))
  (h:codeAny (model prog w) (A.under (.builtin "type.__call__" ⟨.ref C::vs,kw⟩)) (.call (.ref f) ⟨.ref (s.heap.objs.size+1)::vs,kw⟩) (PySem.W.InitBack (s.heap.objs.size+1) R)
   { s with heap:=(s.heap.push PySem.W.emptyDict).push (PySem.W.instObj C s.heap.objs.size) }):
  codeAny (model prog w) A (.call (.ref C) ⟨vs,kw⟩) R s:=by
 obtain ⟨hh,g,d,t,os⟩:=s
 exact PySem.W.make_core (PySem.W.makes_of X hm) (PySem.W.looks_findIn X hi) (fun self=>PySem.W.bind_fn X self hf) (.inl rfl) h
end
noncomputable def dQ (f:Str) (v:V):List (Str×V)->List (Str×V)
 | []=>[(f,v)]
 |(g,x)::r=>if g=f then (g,v)::r else (g,x)::dQ f v r
theorem aK (f g:Str) (v:V): ∀fs:List (Str×V),(dQ f v fs).lookup g=if g=f then some v else fs.lookup g
 | []=>by
  show List.lookup g [(f,v)]=_
  by_cases h:g=f
  ·have hb:(g==f)=true:=beq_iff_eq.mpr h
   simp only[List.lookup,hb,if_pos h]
  ·have hb:(g==f)=false:=beq_eq_false_iff_ne.mpr h
   simp only[List.lookup,hb,if_neg h]
 |(k,x)::r=>by
  have ih:=aK f g v r
  rw[show dQ f v ((k,x)::r)=(if k=f then (k,v)::r else (k,x)::dQ f v r) from rfl]
  by_cases hk:k=f
  ·rw[if_pos hk]
   by_cases h:g=k
   ·have hb:(g==k)=true:=beq_iff_eq.mpr h
    simp only[List.lookup,hb,if_pos (h.trans hk)]
   ·have hb:(g==k)=false:=beq_eq_false_iff_ne.mpr h
    simp only[List.lookup,hb,if_neg (fun e:g=f=>h (e.trans hk.symm))]
  ·rw[if_neg hk]
   by_cases h:g=k
   ·have hb:(g==k)=true:=beq_iff_eq.mpr h
    simp only[List.lookup,hb,if_neg (fun e:g=f=>hk (h.symm.trans e))]
   ·have hb:(g==k)=false:=beq_eq_false_iff_ne.mpr h
    simp only[List.lookup,hb]
    exact ih
theorem lM (f:Str) (v:V): ∀fs:List (Str×V),f∈(dQ f v fs).map (·.1)/\ ∀g,g∈fs.map (·.1)->g∈(dQ f v fs).map (·.1)
 | []=>⟨by simp[dQ],fun g h=>by simp at h⟩
 |(k,x)::r=>by
  obtain ⟨i1,i2⟩:=lM f v r
  rw[show dQ f v ((k,x)::r)=(if k=f then (k,v)::r else (k,x)::dQ f v r) from rfl]
  by_cases hk:k=f
  ·rw[if_pos hk]
   subst hk
   exact ⟨by simp,fun g h=>by simpa using h⟩
  ·rw[if_neg hk]
   refine ⟨?_,fun g h=>?_⟩
   ·rw[Xl]
    exact UB _ i1
   ·rw[Xl]at h ⊢
    rcases WG.mp h with e | e
    ·exact WG.mpr (.inl e)
    ·exact UB _ (i2 g e)
theorem mP (f:Str) (v:V): ∀fs:List (Str×V),(dQ f v fs).length<=fs.length+1
 | []=>by simp[dQ]
 |(k,x)::r=>by
  have ih:=mP f v r
  rw[show dQ f v ((k,x)::r)=(if k=f then (k,v)::r else (k,x)::dQ f v r) from rfl]
  by_cases hk:k=f
  ·rw[if_pos hk,XB,XB];omega
  ·rw[if_neg hk,XB,XB];omega
theorem lL.some_of {v:V} {o:Option Value} (r:lL (some v) o): ∃u,o=some u/\RelV v u:=by
 cases o with
 | none=>exact (show False from r).elim
 | some u=>exact ⟨u,rfl,r⟩
theorem Ax {v:V} {u:Value} (r:RelV v u):PySem.W.handedIn u=true:=by
 cases v with
 | fE=>cases (show u=Value.none from r);rfl
 | bl b=>cases (show u=Value.bool b from r);rfl
 | int i=>obtain ⟨t,e⟩:=(show ∃t,u=Value.int i t from r);cases e;rfl
 | str x=>obtain ⟨t,e⟩:=(show ∃t,u=Value.str x t from r);cases e;rfl
 | yI b=>obtain ⟨t,e⟩:=(show ∃t,u=Value.bytes b t from r);cases e;rfl
 | OV b=>obtain ⟨t,e⟩:=(show ∃t,u=Value.float b t from r);cases e;rfl
 | ref a=>cases (show u=Value.ref a from r);rfl
 | ty n=>cases (show u=Value.type n from r);rfl
section
variable {P:Program} {w:World} {H H':Hp} {h h':Heap} {a C dx:Addr} {fs Ue:List (Str×V)}
theorem yR (b5:jX P w H h) (e:H a=some (.ins C dx fs)): ∃mA,Av h a dx C mA/\(∀f,lL (fs.lookup f) (mA f))/\PySem.Within mA (fs.map (·.1))/\fs.length<=1000/\H dx=some (.own a):=by
 obtain ⟨d,z,ne,ob,mA,n,r,q⟩:=(show cQ P w H h a (.ins C dx fs) from b5 a _ e)
 exact ⟨mA,⟨ob,n,ne⟩,r,q,z,d⟩
end
structure HA (K:PySem.W.Frag) (C:Addr):Prop where
 pg:PySem.W.plainGet K C Str.empty=true
 hd:PySem.W.hasDictIn K C=true
 po:PySem.W.plainOver K C=true
 sa:PySem.W.findIn K (.ref C) "__setattr__"=some (some (.builtin "object.__setattr__"))
theorem HA.get {K:PySem.W.Frag} {C:Addr} (c:HA K C) (f:Str):PySem.W.plainGet K C f=true:=c.pg
def dR (K:PySem.W.Frag) (C:Addr) (f:Str):Prop:=PySem.W.findIn K (.ref C) f=some none
theorem dR.M7 {K:PySem.W.Frag} {C:Addr} {f:Str} (n:dR K C f):PySem.W.takerIn K C f=some none:=by
 unfold PySem.W.takerIn
 rw[show PySem.W.findIn K (.ref C) f=some none from n]
 rfl
section
variable {X:Cx} {pins:List (Addr×Obj)} {σ:St} {H:Hp} {s:Shared} {a C dx:Addr} {fs:List (Str×V)} {f:Str} {v:V} {A:Around} {E:Value->Shared->Prop}
theorem w5 {b:Bool} {Q:Value->Shared->Prop} (I:Inv X pins σ H s) (e:H a=some (.ins C dx fs)) (c:HA X.K C) (n:dR X.K C f) (l:fs.lookup f=some v)
  (h: ∀u s',Inv X pins σ H s'->RelV v u->Q u s'):wpAny (model X.prog X.w) A (getAttr (.ref a) f b) Q E s:=by
 obtain ⟨mA,O,r,_,_,_⟩:=yR I.b5 e
 obtain ⟨u,hu,ru⟩:=lL.some_of (v:=v) (o:=mA f) (by rw[<-l];exact r f)
 exact get_map I.Am O (c.get f) c.hd n hu (Ax ru) (h u _ (I.tok _) ru)
theorem w6 {y:V} {u:Value} {Q:Unit->Shared->Prop} (I:Inv X pins σ H s) (e:H a=some (.ins C dx fs)) (c:HA X.K C) (n:dR X.K C f) (hl:fs.length<1000) (ry:RelV y u)
  (h: ∀s',Inv X pins σ (upd H a (.ins C dx (dQ f y fs))) s'->Q () s'):wpAny (model X.prog X.w) A (setAttr (.ref a) f u) Q E s:=by
 obtain ⟨mA,O,r,wi,_,ho⟩:=yR I.b5 e
 have hz:(fs.map (·.1)).length<=sizeLine:=by rw[K4,sizeLine_eq];omega
 refine Fp I.Am O c.sa c.po n.M7 c.hd wi hz fun h' O' sb=>h _ ?_
 have hd: ∃o,h'.get? dx=some o:=let ⟨o,_,_,e',_⟩:=O'.ns;⟨o,e'⟩
 refine I.write (x:=a) (e:=dx) (by rw[e];exact True.intro) (.inr ho) (fun b q hb z=>(sb.2 b hb).trans z) hd ?_
 refine ⟨by rw[ay O.ne];exact ho,?_,O.ne,O'.obj,_,O'.ns,fun g=>?_,fun g hg=>?_⟩
 ·have:=mP f y fs;omega
 ·show lL ((dQ f y fs).lookup g) (if g=f then some u else mA g)
  rw[aK]
  by_cases q:g=f
  ·rw[if_pos q,if_pos q];exact ry
  ·rw[if_neg q,if_neg q];exact r g
 ·by_cases q:g=f
  ·rw[q];exact (lM f y fs).1
  ·refine (lM f y fs).2 g (wi g fun z=>hg ?_)
   show (if g=f then some u else mA g)=none
   rw[if_neg q];exact z
theorem Inv.made (I:Inv X pins σ H s):Inv X pins σ (upd (upd H s.heap.objs.size (.own (s.heap.objs.size+1))) (s.heap.objs.size+1) (.ins C s.heap.objs.size []))
  { s with heap:=(s.heap.push PySem.W.emptyDict).push (PySem.W.instObj C s.heap.objs.size) }:=by
 have e1:(s.heap.push PySem.W.emptyDict).get? s.heap.objs.size=some PySem.W.emptyDict:=Xe s.heap rfl
 have e2:((s.heap.push PySem.W.emptyDict).push (PySem.W.instObj C s.heap.objs.size)).get? (s.heap.objs.size+1)=some (PySem.W.instObj C s.heap.objs.size):=by
  have:=Xe (s.heap.push PySem.W.emptyDict) (o:=PySem.W.instObj C s.heap.objs.size) rfl
  rwa [Zd]at this
 have e3:(s.heap.push PySem.W.emptyDict).Ns s.heap.objs.size (fun _=>none):=⟨PySem.W.emptyDict, #[],_,e1,rfl,(fun e he=>absurd he (by simp)),fun _=>rfl⟩
 have I1:=I.laid (a:=s.heap.objs.size) (o:= .own (s.heap.objs.size+1)) (h':=s.heap.push PySem.W.emptyDict) (t':=s.toks) (fun b u q=>SF _ q) (SA _) ⟨_,e1⟩
 refine I1.laid (a:=s.heap.objs.size+1) (o:= .ins C s.heap.objs.size []) (t':=s.toks) (fun b u q=>SF _ q) (Nat.le_of_eq (Zd _ _)) ?_
 have ne:s.heap.objs.size≠s.heap.objs.size+1:=Xm (Yr _)
 refine ⟨by rw[ay ne,ah],Xb _,ne,e2,fun _=>none,(Heap.Ns1.of_empty e3).at fun o q=>SF _ q,fun _=>True.intro,fun y hy=>absurd rfl hy⟩
theorem Fq {prog:Program} {w:World} {env:Env} {e:Expr} {f:Str} {pos:Pos} {s:Shared} {Q:Value->Shared->Prop} (hb:attributeBase e f env (eval e env)=eval e env)
  (h:wpAny (model prog w) A (eval e env) (fun o s₁=>wpAny (model prog w) A (getAttr o f true) Q E s₁) E s):wpAny (model prog w) A (eval (.Attribute e f pos) env) Q E s:=
 Attribute_any_ h (by rw[arm_eval_Attribute,hb])
end
def M8 (K:PySem.W.Frag) (ta:TE) (f:Str):TE:=fun σ H Q=>ta σ H fun x H1=> ∃a C dx fs v,x= .ref a/\H1 a=some (.ins C dx fs)/\HA K C/\dR K C f/\fs.lookup f=some v/\Q v H1
def QG (K:PySem.W.Frag) (ta tv:TE) (f:Str):TS:=fun D σ H=>tv σ H fun y H1=>ta σ H1 fun x H2=> ∃a C dx fs,x= .ref a/\H2 a=some (.ins C dx fs)/\HA K C/\dR K C f/\fs.length<1000/\
 D.nx σ (upd H2 a (.ins C dx (dQ f y fs)))
section
variable {X:Cx} {o e value:Expr} {f:Str} {pos pos' M9:Pos} {ta tv:TE}
theorem IK (he:PE X e ta) (hb:attributeBase e f X.env (eval e X.env)=eval e X.env):PE X (.Attribute e f pos) (M8 X.K ta f):=by
 intro pins s σ H Q I h
 refine Fq hb (b_ (he pins s σ H _ I h) fun u s1 ⟨x,H1,I1,rx,a,C,dx,fs,v,ex,ea,c,n,l,q⟩=>?_)
 subst ex
 obtain rfl:u=Value.ref a:=rx
 exact w5 I1 ea c n l fun u' s2 I2 ru=>⟨v,H1,I2,ru,q⟩
theorem iH (ha:PE X o ta) (hv:PE X value tv) (hs:swapsWith value (some (.Attribute o f pos')) pos.line X.env=pure false):PS X (.Assign [.Attribute o f pos'] value pos) (QG X.K ta tv f):=by
 intro pins s σ H D I h
 refine plainObj_wpAny_Assign_Attribute (b_ (hv pins s σ H _ I h) fun u s1 ⟨y,H1,I1,ry,q⟩=>b_ (ha pins s1 σ H1 _ I1 q) fun ov s2 ⟨x,H2,I2,rx,a,C,dx,fs,ex,ea,c,n,l,q2⟩=>?_) hs
 subst ex
 obtain rfl:ov=Value.ref a:=rx
 exact w6 I2 ea c n l ry fun s3 I3=>⟨σ,_,I3,q2⟩
end
section
variable {X:Cx} {pins:List (Addr×Obj)} {σ:St} {H:Hp} {s:Shared} {A:Around} {E:Value->Shared->Prop} {Q:Value->Shared->Prop} {c:Value} {b:Bool}
end
structure eU (k:Nat) (A:Around):Prop where
 hd:A.handled=none
 dp:A.depth+3*k+5<recursionLimit
 un:A.units+16*k+200<cLine
 gd:A.guards=some []
theorem eU.mono {j k:Nat} {A:Around} (r:eU k A) (h:j<=k):eU j A:=⟨r.hd,by have:=r.dp;omega,by have:=r.un;omega,r.gd⟩
theorem eU.deeper {k:Nat} {A:Around} (r:eU (k+1) A) (env:Env):eU k (A.deeper env):=
 ⟨r.hd,by have:=r.dp;show A.depth+1+3*k+5<_;omega,by have:=r.un;show A.units+3+16*k+200<_;omega,r.gd⟩
theorem w9 {A:Around} {C:Addr} {us:List Value} {kw:List (Str×Value)}:(A.under (.builtin "type.__call__" ⟨.ref C::us,kw⟩)).depth=A.depth+1:=by
 first | rfl | simp[Around.under,Code.weight,Code.isCreation,Code.isGuard,Code.isCaller,Code.frames,Code.isFrame,guardIds]
theorem w_ {A:Around} {C:Addr} {us:List Value} {kw:List (Str×Value)}:(A.under (.builtin "type.__call__" ⟨.ref C::us,kw⟩)).units=A.units+1:=by
 first | rfl | simp[Around.under,Code.cUnits,Code.frames,Code.isFrame]
theorem eU.make {k:Nat} {A:Around} (r:eU (k+1) A) (C:Addr) (us:List Value) (kw:List (Str×Value)):eU k (A.under (.builtin "type.__call__" ⟨.ref C::us,kw⟩)):=
 ⟨r.hd,by have:=r.dp;rw[w9];omega,by have:=r.un;rw[w_];omega,by first | exact r.gd | (simpa [Around.under,Code.guards,Code.isGuard,pushGuards,guardIds]using r.gd)⟩
theorem eU.depth {k:Nat} {A:Around} (r:eU k A):A.depth<recursionLimit:=by have:=r.dp;omega
theorem eU.units {k:Nat} {A:Around} (r:eU k A):A.units+64<cLine:=by have:=r.un;omega
def QH:TA:=fun _ H Q=>Q [] H
def M_ (ta:TE) (tr:TA):TA:=fun σ H Q=>ta σ H fun x H1=>tr σ H1 fun xs H2=>Q (x::xs) H2
section
variable {X:Cx} {e:Expr} {es:List Expr} {te:TE} {t:TA} {pos:Pos}
theorem ae:PA X [] QH:=fun _ _ _ _ H Q I h=>Calls.spliced_nil ⟨[],H,I, .nil,h⟩
theorem aa (ha:PE X e te) (hr:PA X es t) (hs:starEach (e::es) X.env=(false,eval e X.env)::starEach es X.env:=by rfl):PA X (e::es) (M_ te t):=by
 intro pos pins s σ H Q I h
 rw[hs]
 show wpAny _ _ (spliced ((false,eval e X.env)::backTo pos (starEach es X.env))) _ _ s
 refine Calls.spliced_cons (b_ (ha pins s σ H _ I h) fun u s1 ⟨x,H1,I1,r1,q1⟩=>?_)
 exact b_ (hr pos pins s1 σ H1 _ I1 q1) fun us s2 ⟨xs,H2,I2,r2,q2⟩=>⟨x::xs,H2,I2, .cons r1 r2,q2⟩
def QI (t:TA):TE:=fun σ H Q=>t σ H fun xs H1=>xs.length<=sizeLine/\ ∀p,H1 p=none->Q (.ref p) (upd H1 p (.tup xs))
def QJ (t:TA):TE:=fun σ H Q=>t σ H fun xs H1=>xs.length<=sizeLine/\ ∀p,H1 p=none->Q (.ref p) (upd H1 p (.lst xs))
theorem dq {x1} (h:PA X es t):PE X (.Tuple es x1 pos) (QI t):=by
 intro pins s σ H Q I hq
 refine wpAny_Tuple_spliced (b_ (h pos pins s σ H _ I hq) fun us s1 ⟨xs,H1,I1,r,z,q⟩=>⟨by rw[<-r.length];exact z,?_⟩)
 have hf:H1 s1.heap.objs.size=none:=I1.b5.fresh (SA _)
 refine ⟨.ref s1.heap.objs.size,upd H1 s1.heap.objs.size (.tup xs),I1.laid (t':=s1.toks) (fun b u e=>SF _ e) (SA _) ?_,rfl,q _ hf⟩
 exact ⟨z,us,r,⟨_,Xe _ rfl,rfl,_,rfl⟩⟩
theorem dS (h:PA X es t):PE X (.List es pos) (QJ t):=by
 intro pins s σ H Q I hq
 refine wpAny_List_spliced (b_ (h pos pins s σ H _ I hq) fun us s1 ⟨xs,H1,I1,r,z,q⟩=>⟨by rw[<-r.length];exact z,?_⟩)
 have hf:H1 s1.heap.objs.size=none:=I1.b5.fresh (SA _)
 refine ⟨.ref s1.heap.objs.size,upd H1 s1.heap.objs.size (.lst xs),I1.laid (t':=s1.toks) (fun b u e=>SF _ e) (SA _) ?_,rfl,q _ hf⟩
 exact ⟨z,us,0,r,Xe _ rfl⟩
end
abbrev Sp:=List V->Hp->VK->XK->Prop
abbrev Ay:=List Env->Hp->Shared->XK->Value->Shared->Prop
structure xa (P:Program) (w:World) (K:PySem.W.Frag) (mg:Str->Option Value) (base:Heap) (A:Around) (outer:List Env) (s:Shared) (H:Hp):Prop where
 frames:A.frames=some outer
 mod:Mod K mg base
 bs: ∀b o,base.get? b=some o->s.heap.get? b=some o/\H b=none
 Fh:base.objs.size<=s.heap.objs.size
 m4:s.heap.FunFrames base outer
 Iq: ∀b∈yJ outer,H b=none
 b5:jX P w H s.heap
 bare:AllBare s.gens
def CE (outer:List Env) (P:Program) (w:World) (H:Hp) (s:Shared) (Q:VK) (u:Value) (s':Shared):Prop:=
 ∃v H',s'.os=s.os/\AllBare s'.gens/\Un (yJ outer) [] H H' s.heap s'.heap/\jX P w H' s'.heap/\RelV v u/\Q v H'
def CR (CX:Ay) (outer:List Env) (P:Program) (w:World) (H:Hp) (s:Shared) (Q:VK) (E:XK) (r:Result) (s':Shared):Prop:=
 match r with
 | .ok (.ret u)=>CE outer P w H s Q u s'
 | .ok _=>False
 | .error e=>CX outer H s E e s'
structure bC (P:Program) (w:World) (K:PySem.W.Frag) (mg:Str->Option Value) (base:Heap) (CX:Ay) (k:Nat) (f:Addr) (fd:FuncData) (ps:List Str) (sp:Sp):Prop where
 len: ∀vs H Q E,sp vs H Q E->vs.length=ps.length
 run: ∀(A:Around) (outer:List Env) (s:Shared) (H:Hp) (args:Args) (us:List Value) (vs:List V) (Q:VK) (E:XK),eU k A->xa P w K mg base A outer s H->BindsTo s fd args (ps.zip us)->Vals vs us->sp vs H Q E->
  codeAny (model P w) A (.call (.ref f) args) (CR CX outer P w H s Q E) s
theorem xa.make {P:Program} {w:World} {K:PySem.W.Frag} {mg:Str->Option Value} {base:Heap} {A:Around} {outer:List Env} {s:Shared} {H:Hp} (e:xa P w K mg base A outer s H) (C:Addr) (us:List Value) (kw:List (Str×Value)):
  xa P w K mg base (A.under (.builtin "type.__call__" ⟨.ref C::us,kw⟩)) outer s H:=⟨by first | exact e.frames | (simpa [Around.under,Code.envs,Code.isFrame,pushEnvs]using e.frames),e.mod,e.bs,e.Fh,e.m4,e.Iq,e.b5,e.bare⟩
section
variable {X:Cx} {pins:List (Addr×Obj)} {σ:St} {H:Hp} {s s':Shared}
theorem Inv.Na (I:Inv X pins σ H s):xa X.prog X.w X.K X.mg X.base X.A X.stack s H:=
 ⟨I.ok.frames,I.ok.mod,I.bs,Xt I.ok.Fh I.sz,I.stack,I.yK,I.b5,I.bare⟩
theorem Inv.after {Q:VK} {u:Value} (I:Inv X pins σ H s) (h:CE X.stack X.prog X.w H s Q u s'):EP X pins σ Q u s':=by
 obtain ⟨v,H',os,bare,un,b5,r,q⟩:=h
 obtain ⟨hh,g,d,t,Ur⟩:=s'
 obtain rfl:Ur=s.os:=os
 exact ⟨v,H',I.call (h':=hh) (g':=g) (d':=d) (t':=t) (ch:=[]) un b5 bare (fun b z=>absurd z (by simp)),r,q⟩
end
def Nb (sp:Sp) (dvs:List V) (E:XK) (t:TA):TE:=fun σ H Q=>t σ H fun vs H1=>sp (vs++dvs) H1 Q E
def Nd (C:Addr) (sp:Sp) (dvs:List V) (E:XK) (t:TA):TE:=fun σ H Q=>t σ H fun vs H1=> ∀x dx,H1 x=none->H1 dx=none->dx≠x->
 sp (.ref x::(vs++dvs)) (upd (upd H1 dx (.own x)) x (.ins C dx [])) (fun v H2=>v= .fE/\Q (.ref x) H2) E
def Binds (K:PySem.W.Frag) (fd:FuncData) (ps:List Str) (ds:List Value):Prop:=
 ∀(s:Shared) (us:List Value),K.In s.heap->(us++ds).length=ps.length->BindsTo s fd ⟨us,[]⟩ (ps.zip (us++ds))
theorem Binds.all {K:PySem.W.Frag} {fd:FuncData} {ps:List Str} (h: ∀us:List Value,us.length=ps.length->bindArgs fd ⟨us,[]⟩=pure (ps.zip us)):Binds K fd ps []:=fun s us _ hl=>by
 rw[Xy]at hl ⊢
 exact .of_eq (h us hl)
def Passes (CX:Ay) (X:Cx) (E:XK):Prop:= ∀(pins:List (Addr×Obj)) (σ:St) (H:Hp) (s:Shared) (e:Value) (s':Shared),Inv X pins σ H s->CX X.stack H s E e s'->X.xe e s'
section
variable {X:Cx} {CX:Ay} {k:Nat} {f C:Addr} {fd:FuncData} {ps:List Str} {sp:Sp} {dvs:List V} {ds:List Value} {E:XK} {x m:Str} {p pos apos:Pos} {e o:Expr} {es:List Expr} {ta:TE} {t:TA}
theorem xb {pins:List (Addr×Obj)} {σ:St} {H:Hp} {s:Shared} {Q:VK} {us:List Value} {vs:List V} (F:bC X.prog X.w X.K X.mg X.base CX k f fd ps sp) (hr:eU k X.A) (hb:Binds X.K fd ps ds) (hd:Vals dvs ds) (hx:Passes CX X E)
  (I:Inv X pins σ H s) (r:Vals vs us) (h:sp (vs++dvs) H Q E):wpAny (model X.prog X.w) X.A (call (.ref f) us) (EP X pins σ Q) X.xe s:=by
 have r2:Vals (vs++dvs) (us++ds):=r.append hd
 have hl:(us++ds).length=ps.length:=by rw[<-r2.length];exact F.len _ _ _ _ h
 refine wpAny_call (codeAny_mono (F.run X.A X.stack s H ⟨us,[]⟩ (us++ds) (vs++dvs) Q E hr I.Na (hb s us I.Am hl) r2 h) fun r s' hq=>?_)
 cases r with
 | error e=>exact hx pins σ H s e s' I hq
 | ok fl=>
  cases fl with
  | ret u=>exact I.after hq
  | next=>exact False.elim hq
  | brk=>exact False.elim hq
  | cont=>exact False.elim hq
theorem ak (F:bC X.prog X.w X.K X.mg X.base CX k f fd ps sp) (hr:eU k X.A) (hg:Gl X x) (hm:X.mg x=some (.ref f)) (hk:PySem.W.keepIn X.K (.ref f)=true) (hb:Binds X.K fd ps ds) (hd:Vals dvs ds) (hx:Passes CX X E)
  (ha:PA X (e::es) t) (IL:(x==("__debug__":Str))=false:=by decide) (he:starEach (e::es) X.env=(false,eval e X.env)::starEach es X.env:=by rfl) (jI:(backTo pos (starEach es X.env)).any (·.1)=false:=by rfl):
  PE X (.Call (.Name x p) (e::es) [] pos) (Nb sp dvs E t):=by
 intro pins s σ H Q I h
 refine wpAny_Call_Name_kw (sx I hg hm ?_ IL)
 refine Zk (h₀:=X.base) I.ok.mod.KZ hk (b_ (ha pos pins s σ H _ I h) fun us s1 ⟨vs,H1,I1,r,q⟩=>⟨I1.Am,?_⟩) he jI
 exact xb F hr hb hd hx I1 r q
structure Mk (K:PySem.W.Frag) (C f:Addr):Prop where
 makes:PySem.W.makesIn K C=true
 init:PySem.W.findIn K (.ref C) "__init__"=some (some (.ref f))
 fn:PySem.W.isFn K (.ref f)=true
 kp:PySem.W.keepIn K (.ref C)=true
theorem B8 {pins:List (Addr×Obj)} {σ:St} {H:Hp} {s:Shared} {Q:VK} {us:List Value} {vs:List V} (M:Mk X.K C f) (F:bC X.prog X.w X.K X.mg X.base CX k f fd ps sp) (hr:eU (k+1) X.A) (hb:Binds X.K fd ps ds) (hd:Vals dvs ds)
  (hx:Passes CX X E) (I:Inv X pins σ H s) (r:Vals vs us)
  (h: ∀x dx,H x=none->H dx=none->dx≠x->sp (.ref x::(vs++dvs)) (upd (upd H dx (.own x)) x (.ins C dx [])) (fun v H2=>v= .fE/\Q (.ref x) H2) E):
  wpAny (model X.prog X.w) X.A (call (.ref C) us) (EP X pins σ Q) X.xe s:=by
 have hq:=h (s.heap.objs.size+1) s.heap.objs.size (I.b5.fresh (Yp _)) (I.b5.fresh (SA _)) (Xm (Yr _))
 have I2:=Inv.made (C:=C) I
 have r2:Vals (V.ref (s.heap.objs.size+1)::(vs++dvs)) (Value.ref (s.heap.objs.size+1)::(us++ds)):= .cons rfl (r.append hd)
 have hl:(Value.ref (s.heap.objs.size+1)::us++ds).length=ps.length:=by
  have e:=r2.length
  rw[F.len _ _ _ _ hq]at e
  exact e.symm
 refine wpAny_call (B7 (f:=f) I.Am M.makes M.init (beq_iff_eq.mp M.fn) (codeAny_mono (F.run _ X.stack _ _ ⟨Value.ref (s.heap.objs.size+1)::us,[]⟩ (Value.ref (s.heap.objs.size+1)::(us++ds)) _ _ E (hr.make C us [])
  (I2.Na.make C us []) (hb _ (Value.ref (s.heap.objs.size+1)::us) I2.Am hl) r2 hq) fun r s' Nf=>?_))
 cases r with
 | error e=>exact hx pins σ _ _ e s' I2 Nf
 | ok fl=>
  cases fl with
  | ret u=>
   obtain ⟨v,H',I3,rv,ev,q3⟩:=I2.after Nf
   subst ev
   exact ⟨rv,⟨V.ref (s.heap.objs.size+1),H',I3,rfl,q3⟩⟩
  | next=>exact False.elim Nf
  | brk=>exact False.elim Nf
  | cont=>exact False.elim Nf
theorem nI (M:Mk X.K C f) (F:bC X.prog X.w X.K X.mg X.base CX k f fd ps sp) (hr:eU (k+1) X.A) (hg:Gl X x) (hm:X.mg x=some (.ref C)) (hb:Binds X.K fd ps ds) (hd:Vals dvs ds) (hx:Passes CX X E)
  (ha:PA X (e::es) t) (IL:(x==("__debug__":Str))=false:=by decide) (he:starEach (e::es) X.env=(false,eval e X.env)::starEach es X.env:=by rfl) (jI:(backTo pos (starEach es X.env)).any (·.1)=false:=by rfl):
  PE X (.Call (.Name x p) (e::es) [] pos) (Nd C sp dvs E t):=by
 intro pins s σ H Q I h
 refine wpAny_Call_Name_kw (sx I hg hm ?_ IL)
 refine Zk (h₀:=X.base) I.ok.mod.KZ M.kp (b_ (ha pos pins s σ H _ I h) fun us s1 ⟨vs,H1,I1,r,q⟩=>⟨I1.Am,?_⟩) he jI
 exact B8 M F hr hb hd hx I1 r q
end
section
variable {X:Cx} {CX:Ay} {k:Nat} {f C:Addr} {fd:FuncData} {ps ks:List Str} {sp:Sp} {E:XK} {x m:Str} {p pos apos Us:Pos} {e o:Expr} {es:List Expr} {WC:List Keyword} {te ta:TE} {t tk:TA} {nm:Option Str}
variable {g:List Value->List Value->List Value} {gV:List V->List V->List V}
end
structure aF (N P:List Str) (sc:Scope):Prop where
 kind:sc.kind= .function
 co:sc.isCoroutine=false
 gen:sc.isGenerator=false
 nd:N.Nodup
 pre:N.take P.length=P
 par: ∀x∈P,sc.names.lookup x=some .local\/sc.names.lookup x=some .cell
 IM: ∀y∈sc.names,y.2≠ .free
theorem qM {kindOf:Str->Option NameKind} {x:Str}: ∀{binds:List (Str×Value)} {m:Str->Option Value},(∀v,(x,v)∉binds)->bindL kindOf binds m x=m x
 | [],_,_=>rfl
 |(n,v)::r,m,h=>by
  unfold bindL
  rw[qM fun w hw=>h w (UB _ hw)]
  split
  ·have:x≠n:=by rintro rfl;exact h v Uz
   simp[this]
  ·rfl
theorem qN {kindOf:Str->Option NameKind} {x:Str}: ∀{binds:List (Str×Value)} {m:Str->Option Value},(∀v,(x,v)∉binds)->bindC kindOf binds m x=m x
 | [],_,_=>rfl
 |(n,v)::r,m,h=>by
  unfold bindC
  rw[qN fun w hw=>h w (UB _ hw)]
  split
  ·rfl
  ·have:x≠n:=by rintro rfl;exact h v Uz
   simp[this]
theorem qO {kindOf:Str->Option NameKind} {x:Str} {v:Value}: ∀{P:List Str} {vs:List Value} {i:Nat} {m:Str->Option Value},P.Nodup->P[i]? =some x->vs[i]? =some v->kindOf x=some .local->
  bindL kindOf (P.zip vs) m x=some v
 | [],_,_,_,_,h,_,_=>by simp at h
 | _::_,[],_,_,_,_,h,_=>by simp at h
 | p::P,w::vs,0,m,nd,h1,h2,hk=>by
  simp at h1 h2;subst h1;subst h2
  show bindL kindOf ((p,w)::P.zip vs) m p=_
  unfold bindL
  rw[qM fun v hv=>(Xw.mp nd).1 (Z9 hv).1,if_pos hk]
  simp
 | p::P,w::vs,i+1,m,nd,h1,h2,hk=>by
  show bindL kindOf ((p,w)::P.zip vs) m x=_
  unfold bindL
  exact qO (i:=i) (Xw.mp nd).2 (by simpa using h1) (by simpa using h2) hk
theorem qP {kindOf:Str->Option NameKind} {x:Str} {v:Value}: ∀{P:List Str} {vs:List Value} {i:Nat} {m:Str->Option Value},P.Nodup->P[i]? =some x->vs[i]? =some v->kindOf x≠some .local->
  bindC kindOf (P.zip vs) m x=some v
 | [],_,_,_,_,h,_,_=>by simp at h
 | _::_,[],_,_,_,_,h,_=>by simp at h
 | p::P,w::vs,0,m,nd,h1,h2,hk=>by
  simp at h1 h2;subst h1;subst h2
  show bindC kindOf ((p,w)::P.zip vs) m p=_
  unfold bindC
  rw[qN fun v hv=>(Xw.mp nd).1 (Z9 hv).1,if_neg hk]
  simp
 | p::P,w::vs,i+1,m,nd,h1,h2,hk=>by
  show bindC kindOf ((p,w)::P.zip vs) m x=_
  unfold bindC
  exact qP (i:=i) (Xw.mp nd).2 (by simpa using h1) (by simpa using h2) hk
noncomputable def start (N:List Str) (vs:List V):St:=vs.map some++List.replicate (N.length - vs.length) none
noncomputable def Az (CX:Ay) (P:Program) (w:World) (K:PySem.W.Frag) (mg:Str->Option Value) (base:Heap) (N:List Str) (qual:Str) (scope:Scope) (f:Addr) (cd:Value) (A:Around) (outer:List Env) (s:Shared) (H:Hp) (E:XK):Cx where
 prog:=P
 w:=w
 K:=K
 mg:=mg
 base:=base
 A:=A.deeper (envOfC qual scope s.heap.objs.size f cd)
 N:=N
 s₀:=s
 H₀:=H
 env:=envOfC qual scope s.heap.objs.size f cd
 outer:=outer
 stack:=envOfC qual scope s.heap.objs.size f cd::outer
 ex:=[]
 calm:=true
 fn:=fun _=>true
 pn:=[]
 xe:=fun e s'=>wpAny (model P w) (A.deeper (envOfC qual scope s.heap.objs.size f cd)) (leaving (envOfC qual scope s.heap.objs.size f cd) e) (fun _ Ng=>CX outer H s E e Ng) (fun e' Ng=>CX outer H s E e' Ng) s'
theorem uW {sc:Scope} {n:Nat} {x:Str} (h:sc.names.lookup x=some .cell): ∃c,(cellsFrom n sc.names []).lookup x=some c:=by
 have q:=PySem.W.cellsFrom_some sc.names n [] (.inl h)
 exact Option.isSome_iff_exists.mp q
theorem AA {CX:Ay} {P:Program} {w:World} {K:PySem.W.Frag} {mg:Str->Option Value} {base:Heap} {N ps:List Str} {qual:Str} {scope:Scope} {f:Addr} {cd:Value} {A:Around} {outer:List Env} {s s1:Shared} {H:Hp} {E:XK} {us:List Value} {vs:List V}
  (S:aF N ps scope) (hd:A.handled=none) (e0:xa P w K mg base A outer s H) (hl:vs.length=ps.length) (r:Vals vs us)
  (x:InCallC s s.heap.objs.size (bindL (envOfC qual scope s.heap.objs.size f cd).kindOf (ps.zip us) fun _=>none) (cellsFrom (s.heap.objs.size+1) scope.names []) (bindC (envOfC qual scope s.heap.objs.size f cd).kindOf (ps.zip us) fun _=>none) s1):
  Inv (Az CX P w K mg base N qual scope f cd A outer s H E) [] (start N vs) H s1:=by
 have jI:ps.length<=N.length:=by have:=congrArg List.length S.pre;rw[Xh]at this;omega
 obtain ⟨h1,tk,rfl,hk⟩:=x.done
 have Nh: ∀b:Addr,b∉(Az CX P w K mg base N qual scope f cd A outer s H E).ex:=fun b z=>absurd (show b∈([]:List Addr) from z) (by simp)
 refine ⟨⟨e0.mod,S.kind,rfl,rfl,SA _,fun y z c h1 h2=>?_,fun y hy=>?_,fun y c _ h=>?_,fun _=>hd,Around.frames_deeper e0.frames, .inr ⟨rfl,rfl⟩,fun b z=>absurd z (Nh b),e0.bs,e0.Fh,fun b _ _=>Nh b,fun b z=>absurd z (Nh b),e0.m4,e0.Iq⟩,
  rfl,e0.bare,Un.kept hk,⟨_,x.toInCall.ns,fun i y v h1 h2 h3=>?_⟩,fun y c h=>⟨_,x.cell y c h⟩,e0.b5.fresh (SA _),fun y c h=>?_,fun p hp=>absurd (show p∈([]:List (Addr×Obj)) from hp) (by simp),e0.b5.kept hk,?_⟩
 ·exact name_of_addr x.apart (YR h1) (YR h2)
 ·have hy:scope.names.lookup y=some .cell\/scope.names.lookup y=some .free:=hy
  rcases hy with hy | hy
  ·exact uW hy
  ·exact absurd rfl (S.IM _ (YR hy))
 ·exact XD (x.above y c (YR h))
 ·have hi:i<vs.length:=by
   unfold start at h2
   by_cases hi:i<vs.length
   ·exact hi
   ·rw[XY (by simpa using hi)]at h2
    rw[List.getElem?_replicate]at h2
    split at h2<;>cases h2
  have ha:vs[i]? =some v:=by
   unfold start at h2
   rw[XG (by simpa using hi),Xd]at h2
   cases e:vs[i]? with
   | none=>rw[e]at h2;cases h2
   | some a=>rw[e]at h2;cases h2;rfl
  obtain ⟨u,hu,rv⟩:=r.get ha
  have hp:ps[i]? =some y:=by
   rw[<-S.pre,List.getElem?_take_of_lt (by omega)];exact h1
  have Ss:ps.Nodup:=by rw[<-S.pre];exact S.nd.sublist (List.take_sublist _ _)
  refine ⟨u,rv,?_⟩
  rcases S.par y (W9 hp) with k | k
  ·exact .inl ⟨k,qO Ss hp hu k⟩
  ·obtain ⟨c,e⟩:=uW (n:=s.heap.objs.size+1) k
   refine .inr ⟨.inl k,c,e,?_⟩
   have q:=x.cell y c e
   rw[qP Ss hp hu (by show scope.names.lookup y≠_;rw[k];decide)]at q
   exact q
 ·exact e0.b5.fresh (XD (x.above y c (YR h)))
 ·unfold start
  show _=N.length
  rw[SD,K4,List.length_replicate]
  omega
theorem Ni {CX:Ay} {P:Program} {w:World} {K:PySem.W.Frag} {mg:Str->Option Value} {base:Heap} {k:Nat} {f:Addr} {name qual:Str} {params:Arguments} {body:List Stmt} {scope:Scope} {dV kV doc pm cx ct oc:Value} {an od:Option Addr}
  {E1:Array (Option Value)} {N ps:List Str} {sp:Sp} (lk:K.lookup f=some ⟨oc,od, .func (PySem.W.fnOf name qual params body scope dV kV doc pm an cx ct),E1⟩) (jY:PySem.W.codeIn K cx qual=true) (S:aF N ps scope)
  (len: ∀vs H Q E,sp vs H Q E->vs.length=ps.length)
  (B9: ∀(A:Around) (outer:List Env) (s:Shared) (H:Hp) (vs:List V) (Q:VK) (E:XK),eU k (A.deeper (envOfC qual scope s.heap.objs.size f cx))->sp vs H Q E->
   ∃t,wR (Az CX P w K mg base N qual scope f cx A outer s H E) body t/\t { nx:=fun _ H'=>Q .fE H',rt:=Q } (start N vs) H):
  bC P w K mg base CX (k+1) f (PySem.W.fnOf name qual params body scope dV kV doc pm an cx ct) ps sp:=by
 refine ⟨len,fun A outer s H args us vs Q E hr e0 hb r HB=>?_⟩
 have hl:=len _ _ _ _ HB
 have KX:K.In s.heap:=e0.mod.KZ.keeps fun b o e=>(e0.bs b o e).1
 have lim:s.heap.NoLimit:=e0.mod.nolimit.keeps fun b o e=>(e0.bs b o e).1
 have hX: ∀y∈ps.zip us,scope.names.lookup y.1=some .local\/(scope.names.lookup y.1=some .cell/\((cellsFrom (s.heap.objs.size+1) scope.names []).lookup y.1).isSome=true):=fun ⟨n,v⟩ hy=>by
  rcases S.par n (Z9 hy).1 with q | q
  ·exact .inl q
  ·exact .inr ⟨q,PySem.W.cellsFrom_some _ _ _ (.inl q)⟩
 refine codeAny_call_function hr.depth (KX _ _ lk) rfl S.co S.gen rfl (PySem.W.codeRec_of KX jY) (hb _ _ _ _ ?_)
 refine wpAny_newFunctionEnv_cells S.kind hX fun env he s1 x=>?_
 subst he
 refine ⟨lim.keeps x.toInCall.keep,codeAny_func ?_⟩
 obtain ⟨t,ht,hq⟩:=B9 A outer s H vs Q E (hr.deeper _) HB
 have I:Inv (Az CX P w K mg base N qual scope f cx A outer s H E) [] (start N vs) H s1:=AA S hr.hd e0 hl r x
 refine wpAny_mono (ht [] s1 (start N vs) H _ I hq) (fun fl s' hs=>?_) fun e s' hs=>hs
 have fin: ∀{σ':St} {H':Hp} {v:V} {u:Value},Inv (Az CX P w K mg base N qual scope f cx A outer s H E) [] σ' H' s'->RelV v u->Q v H'->CE outer P w H s Q u s':=
  fun {σ' H' v u} J rv q=>⟨v,H',J.os,J.bare,J.base,J.b5,rv,q⟩
 cases fl with
 | ret u=>
  obtain ⟨v,σ',H',J,rv,q⟩:=hs
  exact fin J rv q
 | next=>
  obtain ⟨σ',H',J,q⟩:=hs
  exact fin (v:=V.fE) (u:=Value.none) J rfl q
 | brk=>
  obtain ⟨_,_,_,q⟩:=hs
  exact False.elim q
 | cont=>
  obtain ⟨_,_,_,q⟩:=hs
  exact False.elim q
section
variable {X:Cx} {x:Str} {p pos:Pos} {e:Expr} {es:List Expr} {t:TA} {id T:String} {r:List V->Hp->VK->Prop}
def Su (r:List V->Hp->VK->Prop) (t:TA):TE:=fun σ H Q=>t σ H fun vs H1=>r vs H1 Q
theorem aD (hc:dB X (.builtin id) r) (hg:Gl X x) (hm:X.mg x=none) (hv:bootBuiltins x=some (.builtin id)) (ha:PA X (e::es) t) (hn:x≠"__name__":=by decide) (IL:(x==("__debug__":Str))=false:=by decide)
  (he:starEach (e::es) X.env=(false,eval e X.env)::starEach es X.env:=by rfl) (jI:(backTo pos (starEach es X.env)).any (·.1)=false:=by rfl):PE X (.Call (.Name x p) (e::es) [] pos) (Su r t):=by
 intro pins s σ H Q I h
 refine wpAny_Call_Name_kw (gL I hg hm hv ?_ hn IL)
 exact PyProof.Rows.callWith_builtin1 (b_ (ha pos pins s σ H _ I h) fun us s1 ⟨vs,H1,I1,r1,q1⟩=>hc pins s1 σ H1 vs us Q I1 r1 q1) he jI
theorem cI (hc:dB X (.type T) r) (hg:Gl X x) (hm:X.mg x=none) (hv:bootBuiltins x=some (.type T)) (ha:PA X (e::es) t) (hn:x≠"__name__":=by decide) (IL:(x==("__debug__":Str))=false:=by decide)
  (he:starEach (e::es) X.env=(false,eval e X.env)::starEach es X.env:=by rfl) (jI:(backTo pos (starEach es X.env)).any (·.1)=false:=by rfl):PE X (.Call (.Name x p) (e::es) [] pos) (Su r t):=by
 intro pins s σ H Q I h
 refine wpAny_Call_Name_kw (gL I hg hm hv ?_ hn IL)
 exact X3 (b_ (ha pos pins s σ H _ I h) fun us s1 ⟨vs,H1,I1,r1,q1⟩=>hc pins s1 σ H1 vs us Q I1 r1 q1) he jI
end
end L2
namespace HT
open PySem PyProof.Rows
section
open PySem.SeqAt
open PySem.AutoSeq1 (wpAny_loadPart')
open PySem.MeetsSeq PySem.MeetsSeq2 PySem.MeetsSeq3
end
section
variable {prog:Program} {w:World} {A:Around} {E:Value->Shared->Prop} {s:Shared}
noncomputable def hZ (n d:Nat):Option Int->Nat
 | none=>d
 | some v=>if v<0 then (v+(n:Int)).toNat else min v.toNat n
theorem ky (n d:Nat):hZ n d none=d:=rfl
theorem fV (n d k:Nat):hZ n d (some (k:Int))=min k n:=by
 show (if (k:Int)<0 then ((k:Int)+(n:Int)).toNat else min (k:Int).toNat n)=min k n
 rw[if_neg (by omega),UA]
theorem IQ (n d:Nat) (hd:d<=n) (o:Option Int):hZ n d o<=n:=by
 cases o with
 | none=>exact hd
 | some v=>
  show (if v<0 then (v+(n:Int)).toNat else min v.toNat n)<=n
  by_cases hv:v<0
  ·rw[if_pos hv];omega
  ·rw[if_neg hv];exact Nat.min_le_right _ _
end
end HT
namespace L2
open PySem PySem.Spec PyProof.Rows
abbrev TO:=St->Hp->(Option Int->Hp->Prop)->Prop
def PO (X:Cx) (e:Option Expr) (t:TO):Prop:=
 ∀(pins:List (Addr×Obj)) (s:Shared) (σ:St) (H:Hp) (Q:Option Int->Hp->Prop),Inv X pins σ H s->t σ H Q->
  wpAny (model X.prog X.w) X.A (evalPart e X.env) (fun u s'=> ∃o H',Inv X pins σ H' s'/\IsPart u o/\Q o H') X.xe s
def Fs:TO:=fun _ H Q=>Q none H
def Nj (t:TE):TO:=fun σ H Q=>t σ H fun x H1=> ∃i,x= .int i/\Q (some i) H1
section
variable {X:Cx} {e:Expr} {te:TE} {lo hi:Option Expr} {tl th:TO} {pos p2:Pos}
theorem dc:PO X none Fs:=by
 intro pins s σ H Q I h
 rw[evalPart_none]
 exact wpAny_pure ⟨none,H,I, .none,h⟩
theorem bK (h:PE X e te):PO X (some e) (Nj te):=by
 intro pins s σ H Q I hw
 rw[evalPart_some]
 refine b_ (h pins s σ H _ I hw) fun u s1 ⟨x,H1,I1,r1,q1⟩=>?_
 obtain ⟨i,rfl,q⟩:=q1
 obtain ⟨t,rfl⟩:=r1
 exact ⟨some i,H1,I1, .int i t,q⟩
def O5 (X:Cx) (r:V->Option Int->Option Int->Hp->VK->Prop):Prop:=
 ∀(pins:List (Addr×Obj)) (s:Shared) (σ:St) (H:Hp) (x:V) (v vl vu:Value) (lo hi:Option Int) (sl:Addr) (Q:VK),Inv X pins σ H s->RelV x v->s.heap.IsSliceOf sl vl vu .none->IsPart vl lo->IsPart vu hi->r x lo hi H Q->
  ∃T id,typeLookup (.type T) "__getitem__"=pure (some (.builtin id))/\s.TypeIs v T/\wpAny (model X.prog X.w) X.A (getItem v (.ref sl)) (EP X pins σ Q) X.xe s
def Ut (r:V->Option Int->Option Int->Hp->VK->Prop) (te:TE) (tl th:TO):TE:=fun σ H Q=>te σ H fun x H1=>tl σ H1 fun l H2=>th σ H2 fun u H3=>r x l u H3 Q
theorem bO {r:V->Option Int->Option Int->Hp->VK->Prop} (hr:O5 X r) (he:PE X e te) (hl:PO X lo tl) (hu:PO X hi th):PE X (.Subscript e (.Slice lo hi none p2) pos) (Ut r te tl th):=by
 intro pins s σ H Q I h
 refine Subscript_ (b_ (he pins s σ H _ I h) fun v s1 ⟨x,H1,I1,r1,q1⟩=>?_)
 refine wpAny_Slice (b_ (hl pins s1 σ H1 _ I1 q1) fun vl s2 ⟨l,H2,I2,pl,q2⟩=>b_ (hu pins s2 σ H2 _ I2 q2) fun vu s3 ⟨u,H3,I3,pu,q3⟩=>?_)
 rw[evalPart_none]
 refine wpAny_pure ?_
 have I4:Inv X pins σ H3 { s3 with heap:=s3.heap.push { cls:= .type "slice",data:= .fields #[vl,vu, .none] } }:=I3.kept (t':=s3.toks) fun b ob q=>SF _ q
 obtain ⟨T,id,hT,ht,hg⟩:=hr pins { s3 with heap:=s3.heap.push { cls:= .type "slice",data:= .fields #[vl,vu, .none] } } σ H3 x v vl vu l u s3.heap.objs.size Q I4 r1 (Heap.IsSliceOf.new ..) pl pu q3
 show wpAny (model X.prog X.w) X.A (subscriptTail e (.Slice lo hi none p2) v (.ref s3.heap.objs.size)) (EP X pins σ Q) X.xe { s3 with heap:=s3.heap.push { cls:= .type "slice",data:= .fields #[vl,vu, .none] } }
 exact tail_any (ops:=[.ref s3.heap.objs.size,v]) ht hT hg (by with_unfolding_all rfl)
noncomputable def lN (xs:List V) (lo hi:Option Int):List V:=(xs.drop (HT.hZ xs.length 0 lo)).take (HT.hZ xs.length xs.length hi - HT.hZ xs.length 0 lo)
theorem uX (xs:List V) (lo hi:Option Int):(lN xs lo hi).length<=xs.length:=by
 unfold lN
 rw[Xh,Xn]
 omega
end
noncomputable def E2 (n:Nat) (i:Int):Option Nat:=if 0<=i then (if i<n then some i.toNat else none) else if -(n:Int)<=i then some (i+n).toNat else none
noncomputable def m6 {α:Type} (xs:List α) (i:Int):Option α:=(E2 xs.length i).bind fun j=>xs[j]?
theorem yS {n:Nat} {i:Int} {j:Nat} (h:E2 n i=some j):seqIndex? i n=some j/\j<n/\ -(n:Int)<=i/\i<n:=by
 unfold E2 at h
 by_cases h0:0<=i
 ·rw[if_pos h0]at h
  by_cases h1:i<n
  ·rw[if_pos h1]at h
   have e:i.toNat=j:=Xa h
   exact ⟨by rw[seqIndex_of h0 h1,e],by omega,by omega,h1⟩
  ·rw[if_neg h1]at h;cases h
 ·rw[if_neg h0]at h
  by_cases h1: -(n:Int)<=i
  ·rw[if_pos h1]at h
   have e:(i+n).toNat=j:=Xa h
   exact ⟨by rw[seqIndex_neg (by omega) h1,e],by omega,h1,by omega⟩
  ·rw[if_neg h1]at h;cases h
theorem sF {α:Type} {xs:List α} {i:Int} {v:α} (h:m6 xs i=some v): ∃j,seqIndex? i xs.length=some j/\xs[j]? =some v/\j<xs.length/\ -(xs.length:Int)<=i/\i<xs.length:=by
 unfold m6 at h
 cases e:E2 xs.length i with
 | none=>rw[e]at h;cases h
 | some j=>
  rw[e]at h
  obtain ⟨h1,h2,h3,h4⟩:=yS e
  exact ⟨j,h1,h,h2,h3,h4⟩
theorem bY {α:Type} {xs:List α} {j:Nat} {v:α} (h:xs[j]? =some v):m6 xs (j:Int)=some v:=by
 have hj:j<xs.length:=(Je.mp h).1
 have e:E2 xs.length (j:Int)=some j:=by
  unfold E2
  rw[if_pos (by omega),if_pos (by omega)];simp
 unfold m6;rw[e];exact h
theorem B_ {α:Type} (xs:List α) (v:α):m6 (xs++[v]) (-1)=some v:=by
 have hl:(xs++[v]).length=xs.length+1:=by simp
 have e:E2 (xs++[v]).length (-1)=some xs.length:=by
  unfold E2
  rw[hl,if_neg (by decide),if_pos (by omega)]
  congr 1
  omega
 unfold m6
 rw[e]
 show (xs++[v])[xs.length]? =some v
 simp
def Ft (b:Expr):Prop:= ∀o i,subscripted b false o i=operate [o,i] (getItem o i)
def IS (X:Cx) (r:R2):Prop:=
 ∀(value slice:Expr) (pins:List (Addr×Obj)) (s:Shared) (σ:St) (H:Hp) (x y:V) (v u:Value) (Q:VK),Inv X pins σ H s->RelV x v->RelV y u->r x y H Q->
  subscripted slice false v u=operate [v,u] (getItem v u)->wpAny (model X.prog X.w) X.A (subscriptTail value slice v u) (EP X pins σ Q) X.xe s
def AB (X:Cx) (id:String) (r:V->List V->Hp->VK->Prop):Prop:=
 ∀(pins:List (Addr×Obj)) (s:Shared) (σ:St) (H:Hp) (x:V) (xs:List V) (v:Value) (us:List Value) (Q:VK),Inv X pins σ H s->RelV x v->Vals xs us->r x xs H Q->
  wpAny (model X.prog X.w) X.A (call (.builtin id) (v::us)) (EP X pins σ Q) X.xe s
section
variable {X:Cx} {a b:Expr} {ta tb:TE} {pos:Pos}
theorem aV {r:R2} (hr:IS X r) (ha:PE X a ta) (hb:PE X b tb) (hs:Ft b):PE X (.Subscript a b pos) (O2 r ta tb):=by
 intro pins s σ H Q I h
 exact Subscript_ (II ha hb I h fun v u s2 x y H2 I2 rx ry q=>hr a b pins s2 σ H2 x y v u Q I2 rx ry q (hs _ _))
def Nk (K:PySem.W.Frag):R2:=fun x y H Q=> ∃p xs i v,x= .ref p/\y= .int i/\bA K H p xs/\m6 xs i=some v/\Q v H
def Nl (K:PySem.W.Frag):R2:=fun x y H Q=> ∃p xs i v,x= .ref p/\y= .int i/\cT K H p xs/\m6 xs i=some v/\Q v H
def QK:R2:=fun x y H Q=> ∃z i c,x= .str z/\y= .int i/\z.length<=sizeLine/\m6 z.cps.toList i=some c/\Q (.str ⟨#[c]⟩) H
theorem Fu:IS X (Nk X.K):=by
 intro value slice pins s σ H x y v u Q I rx ry h hs
 obtain ⟨p,xs,i,z,rfl,rfl,hq,he,q⟩:=h
 cases rx
 obtain ⟨t,rfl⟩:=ry
 obtain ⟨aJ,r,pl,hz⟩:=I.list hq
 obtain ⟨j,h1,h2,h3,h4,h5⟩:=sF he
 obtain ⟨w,ew,uY⟩:=r.get h2
 have hl:=r.length
 have hn:=fF
 have fin:EP X pins σ Q w s:=⟨z,H,I,uY,q⟩
 by_cases h0:0<=i
 ·have hj:i.toNat=j:=by
   rw[seqIndex_of h0 h5]at h1
   exact Xa h1
  exact item_listR pl.isList h0 (by omega) (by rw[hj];simpa using ew) fin hs
 ·have hj:(i+(aJ.toArray.size:Int)).toNat=j:=by
   rw[seqIndex_neg (by omega) h4]at h1
   rw[WH, <-hl]
   exact Xa h1
  exact subscriptTail_builtinR (x:=w) pl.isList.typeIs slot_list_getitem.lookup
   (wpAny_getItem_list_neg (Q:=fun r s'=>r=w/\EP X pins σ Q r s') pl.isList (by omega) (by rw[WH]<;>omega) (by omega) (by rw[hj];simpa using ew) ⟨rfl,fin⟩) hs
theorem IT:IS X (Nl X.K):=by
 intro value slice pins s σ H x y v u Q I rx ry h hs
 obtain ⟨p,xs,i,z,rfl,rfl,hq,he,q⟩:=h
 cases rx
 obtain ⟨t,rfl⟩:=ry
 obtain ⟨aJ,r,pl,hz⟩:=I.tuple hq
 obtain ⟨j,h1,h2,h3,h4,h5⟩:=sF he
 obtain ⟨w,ew,uY⟩:=r.get h2
 have hl:=r.length
 have hn:=fF
 have fin:EP X pins σ Q w s:=⟨z,H,I,uY,q⟩
 exact subscriptTail_builtinR (x:=w) pl.typeIs slot_tuple_getitem.lookup
  (getItem_tuple (j:=j) (Q:=fun r s'=>r=w/\EP X pins σ Q r s') pl (by omega) (by omega) (by rw[WH, <-hl];exact h1) (by simpa using ew) ⟨rfl,fin⟩) hs
theorem IU:IS X QK:=by
 intro value slice pins s σ H x y v u Q I rx ry h hs
 obtain ⟨z,i,c,rfl,rfl,hz,he,q⟩:=h
 obtain ⟨t,rfl⟩:=rx
 obtain ⟨t',rfl⟩:=ry
 obtain ⟨j,h1,h2,h3,h4,h5⟩:=sF he
 have hl:z.cps.toList.length=z.length:=by simp[Str.length]
 rw[hl]at h1 h4 h5
 have hn:=fF
 exact tail_any (typeIs_str s z t) slot_str_getitem.lookup (getItem_str (c:=c) (by
  have e1:decide (i< -(2 ^ 63:Int))=false:=decide_eq_false (by omega)
  have e2:decide (i ≥ 2 ^ 63)=false:=decide_eq_false (by omega)
  rw[e1,e2,Zt]) (by rw[h1];simpa using h2) ⟨.str ⟨#[c]⟩,H,I.tok _,⟨_,rfl⟩,q⟩) hs
theorem xc (aJ:List Value) (n j:Nat) (u:Value):Obj.mapSeq (·.setIfInBounds j u) { cls:= .type "list",data:= .seq aJ.toArray n }={ cls:= .type "list",data:= .seq (aJ.set j u).toArray n }:=by
 simp[Obj.mapSeq]
theorem Inv.lst {pins:List (Addr×Obj)} {σ:St} {H:Hp} {s:Shared} {p:Addr} {xs:List V} (I:Inv X pins σ H s) (h:H p=some (.lst xs)):
  ∃(aJ:List Value) (n:Nat),Vals xs aJ/\s.heap.get? p=some { cls:= .type "list",data:= .seq aJ.toArray n }/\xs.length<=sizeLine:=by
 obtain ⟨z,aJ,n,r,e⟩:=I.b5 p _ h
 exact ⟨aJ,n,r,e,z⟩
theorem Inv.IV {pins:List (Addr×Obj)} {σ:St} {H:Hp} {s:Shared} {p:Addr} {xs ys:List V} {aJ its':List Value} {n n':Nat} {f:Obj->Obj} (I:Inv X pins σ H s) (h:H p=some (.lst xs))
  (ho:s.heap.get? p=some { cls:= .type "list",data:= .seq aJ.toArray n }) (hf:f { cls:= .type "list",data:= .seq aJ.toArray n }={ cls:= .type "list",data:= .seq its'.toArray n' }) (r:Vals ys its') (hz:ys.length<=sizeLine) (t:Nat):
  Inv X pins σ (upd H p (.lst ys)) { s with heap:=s.heap.update p f,toks:=t }:=by
 have e:(s.heap.update p f).get? p=some { cls:= .type "list",data:= .seq its'.toArray n' }:=by
  rw[Ya f ho (by rw[hf]<;>rfl),hf]
 refine I.write (x:=p) (e:=p) (by rw[h];trivial) (.inl rfl) (fun b u hb q=>(XJ _ _ (Ne.symm hb)).trans q) ⟨_,e⟩ ?_
 exact ⟨hz,its',n',r,e⟩
def Nm:V->V->V->Hp->(Hp->Prop)->Prop:=fun o i v H Q=> ∃p xs k j,o= .ref p/\i= .int k/\H p=some (.lst xs)/\E2 xs.length k=some j/\Q (upd H p (.lst (xs.set j v)))
theorem set_list:MU X Nm:=by
 intro pins s σ H o i v ov iv u Q I ro ri rv h
 obtain ⟨p,xs,k,j,rfl,rfl,hp,hj,q⟩:=h
 cases ro
 obtain ⟨t,rfl⟩:=ri
 obtain ⟨aJ,n,r,ho,hz⟩:=I.lst hp
 obtain ⟨h1,h2,h3,h4⟩:=yS hj
 have hl:=r.length
 have hn:=fF
 have I':Inv X pins σ (upd H p (.lst (xs.set j v))) { s with heap:=s.heap.update p (Obj.mapSeq (·.setIfInBounds j u)) }:=
  I.IV hp ho (xc aJ n j u) (r.set rv j) (by rw[List.length_set];exact hz) s.toks
 by_cases h0:0<=k
 ·have hk:k.toNat=j:=by
   rw[seqIndex_of h0 h4]at h1
   exact Xa h1
  exact PySem.W.ki_setAt ho h0 (by omega) (by rw[WH, <-hl];exact h4) (by rw[hk];exact ⟨_,I',q⟩)
 ·have hk:(k+(aJ.toArray.size:Int)).toNat=j:=by
   rw[seqIndex_neg (by omega) h3]at h1
   rw[WH, <-hl]
   exact Xa h1
  exact PySem.W.ki_setBack ho (by omega) (by rw[WH, <-hl];exact h3) (by omega) (by rw[hk];exact ⟨_,I',q⟩)
theorem sG (lo hi:Option Int) (n:Nat):(sliceBounds lo hi none n).1=((HT.hZ n 0 lo:Nat):Int)/\(sliceBounds lo hi none n).2.1=((HT.hZ n n hi:Nat):Int)/\(sliceBounds lo hi none n).2.2=1:=by
 refine ⟨?_,?_,rfl⟩
 ·cases lo with
  | none=>simp[sliceBounds,HT.hZ]
  | some i=>
   simp only[sliceBounds,HT.hZ,Option.getD_none,show (1:Int)>0 by decide,if_true]
   by_cases h:i<0
   ·simp only[h,if_true]<;>omega
   ·simp only[h,if_false]<;>omega
 ·cases hi with
  | none=>simp[sliceBounds,HT.hZ]
  | some i=>
   simp only[sliceBounds,HT.hZ,Option.getD_none,show (1:Int)>0 by decide,if_true]
   by_cases h:i<0
   ·simp only[h,if_true]<;>omega
   ·simp only[h,if_false]<;>omega
theorem ql (aJ:List Value) (lo hi:Option Int):slicePick aJ.toArray lo hi none=((aJ.drop (HT.hZ aJ.length 0 lo)).take (HT.hZ aJ.length aJ.length hi - HT.hZ aJ.length 0 lo)).toArray:=by
 obtain ⟨h1,h2,h3⟩:=sG lo hi aJ.toArray.size
 unfold slicePick
 rw[h1,h2,h3]
 simp only[sliceRange_one,pick_run,WH]<;>rfl
def Nn (K:PySem.W.Frag):V->Option Int->Option Int->Hp->VK->Prop:=fun x lo hi H Q=> ∃a xs,x= .ref a/\bA K H a xs/\ ∀p,H p=none->Q (.ref p) (upd H p (.lst (lN xs lo hi)))
theorem Fv:O5 X (Nn X.K):=by
 intro pins s σ H x v vl vu lo hi sl Q I rx hs pl pu h
 obtain ⟨a,xs,rfl,hx,q⟩:=h
 cases rx
 obtain ⟨aJ,r,ht,hz⟩:=I.list hx
 have hlen:=r.length
 refine ⟨"list",_,slot_list_getitem.lookup,ht.isList.typeIs,?_⟩
 refine wpAny_getItem_list_slice ht.isList hs pl pu .none (by simp) ?_ (by rw[WH]<;>omega)
 rw[ql, <-hlen]
 refine ⟨.ref s.heap.objs.size,_,I.laid (t':=s.toks) (o:= .lst (lN xs lo hi)) (fun b ob q=>SF _ q) (SA _) ?_,rfl,q _ (I.b5.fresh (SA _))⟩
 exact ⟨Xt (uX xs lo hi) hz,_,0,(r.drop (HT.hZ xs.length 0 lo)).take (HT.hZ xs.length xs.length hi - HT.hZ xs.length 0 lo),Xe _ rfl⟩
noncomputable def mQ:V->Bool
 | .fE=>true
 | .bl _=>true
 | .int _=>true
 | .str _=>true
 | _=>false
noncomputable def Fx:V->V->Bool
 | .fE, .fE=>true
 | .bl a, .bl b=>a==b
 | .bl a, .int b=>(if a then 1 else 0)==b
 | .int a, .bl b=>a==(if b then 1 else 0)
 | .int a, .int b=>a==b
 | .str a, .str b=>a==b
 | _,_=>false
theorem IW {A:Around} {s:Shared} {y x:V} {u v:Value} (ry:RelV y u) (rx:RelV x v) (fy:mQ y=true) (fx:mQ x=true):SeqAt.EqAt A s u v (Fx y x):=by
 cases y with
 | fE=>
  cases ry
  cases x with
  | fE=>cases rx;exact SeqAt.EqAt.same _
  | bl b=>cases rx;exact SeqAt.EqAt.none_bool b
  | int b=>obtain ⟨t,rfl⟩:=rx;exact SeqAt.EqAt.none_int b t
  | str b=>obtain ⟨t,rfl⟩:=rx;exact SeqAt.EqAt.none_str b t
  | _=>exact absurd (show false=true from fx) Xi
 | bl a=>
  cases ry
  cases x with
  | fE=>cases rx;exact SeqAt.EqAt.bool_none a
  | bl b=>cases rx;exact SeqAt.EqAt.bool_bool a b
  | int b=>obtain ⟨t,rfl⟩:=rx;exact SeqAt.EqAt.bool_int a b t
  | str b=>obtain ⟨t,rfl⟩:=rx;exact SeqAt.EqAt.bool_str a b t
  | _=>exact absurd (show false=true from fx) Xi
 | int a=>
  obtain ⟨t',rfl⟩:=ry
  cases x with
  | fE=>cases rx;exact SeqAt.EqAt.int_none a t'
  | bl b=>cases rx;exact SeqAt.EqAt.int_bool a t' b
  | int b=>obtain ⟨t,rfl⟩:=rx;exact SeqAt.EqAt.int_int a t' b t
  | str b=>obtain ⟨t,rfl⟩:=rx;exact SeqAt.EqAt.int_str a t' b t
  | _=>exact absurd (show false=true from fx) Xi
 | str a=>
  obtain ⟨t',rfl⟩:=ry
  cases x with
  | fE=>cases rx;exact SeqAt.EqAt.str_none a t'
  | bl b=>cases rx;exact SeqAt.EqAt.str_bool a t' b
  | int b=>obtain ⟨t,rfl⟩:=rx;exact SeqAt.EqAt.str_int a t' b t
  | str b=>obtain ⟨t,rfl⟩:=rx;exact SeqAt.EqAt.str_str a t' b t
  | _=>exact absurd (show false=true from fx) Xi
 | _=>exact absurd (show false=true from fy) Xi
noncomputable def Fy (x:V) (u:Value):Bool:=match u with
 | .none=>Fx .fE x
 | .bool b=>Fx (.bl b) x
 | .int i _=>Fx (.int i) x
 | .str z _=>Fx (.str z) x
 | _=>false
theorem Ca {x y:V} {u:Value} (r:RelV y u) (f:mQ y=true):Fy x u=Fx y x:=by
 cases y with
 | fE=>cases r;rfl
 | bl b=>cases r;rfl
 | int i=>obtain ⟨t,rfl⟩:=r;rfl
 | str z=>obtain ⟨t,rfl⟩:=r;rfl
 | _=>exact absurd (show false=true from f) Xi
theorem sH {x:V}: ∀{xs:List V} {us:List Value},Vals xs us->xs.all mQ=true->us.any (Fy x)=xs.any fun y=>Fx y x
 | _,_, .nil,_=>rfl
 | y::xs,u::us, .cons r t,f=>by
  rw[List.all_cons,XZ]at f
  rw[Yq,Yq,Ca r f.1,sH t f.2]
theorem ow {A:Around} {s:Shared} {x:V} {v:Value} (rx:RelV x v) (fx:mQ x=true): ∀{xs:List V} {us:List Value},Vals xs us->xs.all mQ=true-> ∀u∈us,SeqAt.EqAt A s u v (Fy x u)
 | _,_, .nil,_=>fun u hu=>by cases hu
 | y::xs,u::us, .cons r t,f=>fun u' hu=>by
  rw[List.all_cons,XZ]at f
  rcases WG.mp hu with rfl | hu
  ·rw[Ca r f.1];exact IW r rx f.1 fx
  ·exact ow rx fx t f.2 u' hu
noncomputable def K3 (x:V) (xs:List V):Bool:=xs.any fun y=>Fx y x
def Sv (K:PySem.W.Frag) (neg:Bool):R2:=fun x y H Q=> ∃p xs,y= .ref p/\(bA K H p xs\/cT K H p xs)/\mQ x=true/\xs.all mQ=true/\Q (.bl (if neg then !K3 x xs else K3 x xs)) H
theorem sI:iG X (compareOp .NotIn) (Sv X.K true):=by
 intro pins s σ H x y v u Q I rx ry h
 obtain ⟨p,xs,rfl,hq,fx,fs,q⟩:=h
 cases ry
 rcases hq with hq | hq
 ·obtain ⟨aJ,r,pl,hz⟩:=I.list hq
  refine SeqAt.notIn_listAt (Fy x) pl.isList (fun w hw=>ow rx fx r fs w (by simpa using hw)) ⟨.bl _,H,I,rfl,?_⟩
  rw[show aJ.toArray.any (Fy x)=aJ.any (Fy x) by simp,sH r fs]
  exact q
 ·obtain ⟨aJ,r,pl,hz⟩:=I.tuple hq
  refine SeqAt.notIn_tupleAt (Fy x) pl (fun w hw=>ow rx fx r fs w (by simpa using hw)) ⟨.bl _,H,I,rfl,?_⟩
  rw[show aJ.toArray.any (Fy x)=aJ.any (Fy x) by simp,sH r fs]
  exact q
theorem sJ:dB X (.builtin "len") (fun xs H Q=> ∃p ys,xs=[.ref p]/\(bA X.K H p ys\/cT X.K H p ys)/\Q (.int ys.length) H):=by
 intro pins s σ H xs us Q I r h
 obtain ⟨p,ys,rfl,hq,q⟩:=h
 obtain ⟨u,rfl,rx⟩:=vals1 r
 cases rx
 have hn:=fF
 rcases hq with hq | hq
 ·obtain ⟨aJ,r',pl,hz⟩:=I.list hq
  have hlen:=r'.length
  exact Calls.call_len_list pl.isList (by simp only[WH]<;>omega) ⟨.int ys.length,H,I.tok _,⟨s.toks+1,by rw[WH,hlen]⟩,q⟩
 ·obtain ⟨aJ,r',pl,hz⟩:=I.tuple hq
  have hlen:=r'.length
  exact len_tuple pl (by simp only[WH]<;>omega) ⟨.int ys.length,H,I.tok _,⟨s.toks+1,by rw[WH,hlen]⟩,q⟩
theorem sL:dB X (.builtin "len") (fun xs H Q=> ∃z,xs=[.str z]/\z.length<=sizeLine/\Q (.int z.length) H):=by
 intro pins s σ H xs us Q I r h
 obtain ⟨z,rfl,hz,q⟩:=h
 obtain ⟨u,rfl,t,rfl⟩:=vals1 r
 have hn:=fF
 exact len_str (by omega) ⟨.int z.length,H,I.tok _,⟨_,rfl⟩,q⟩
theorem sM:dB X (.type "list") (fun xs H Q=> ∃p ys,xs=[.ref p]/\(bA X.K H p ys\/cT X.K H p ys)/\ ∀l,H l=none->Q (.ref l) (upd H l (.lst ys))):=by
 intro pins s σ H xs us Q I r h
 obtain ⟨p,ys,rfl,hq,q⟩:=h
 obtain ⟨u,rfl,rx⟩:=vals1 r
 cases rx
 have fin: ∀(aJ:List Value),Vals ys aJ->ys.length<=sizeLine-> ∀(h':Heap) (c':Nat),(∀b o',s.heap.get? b=some o'->h'.get? b=some o')->
   h'.get? s.heap.objs.size=some { cls:= .type "list",dict:=none,data:= .seq aJ.toArray c',slots:= #[] }->EP X pins σ Q (.ref s.heap.objs.size) { s with heap:=h' }:=fun aJ r' hz h' c' kp e=>
  ⟨.ref s.heap.objs.size,_,I.laid (t':=s.toks) kp (SA _) (show cQ X.prog X.w _ h' _ (.lst ys) from ⟨hz,aJ,c',r',e⟩),rfl,q _ (I.b5.fresh (SA _))⟩
 rcases hq with hq | hq
 ·obtain ⟨aJ,r',pl,hz⟩:=I.list hq
  have hlen:=r'.length
  obtain ⟨o,ho,hc,n,hd⟩:=pl.isList
  exact call_list_seq p (.inl rfl) ho hc hd (fun h' c' kp e=>fin aJ r' hz h' c' kp e) (by simp only[WH]<;>omega)
 ·obtain ⟨aJ,r',pl,hz⟩:=I.tuple hq
  have hlen:=r'.length
  obtain ⟨o,ho,hc,n,hd⟩:=pl
  exact call_list_seq p (.inr rfl) ho hc hd (fun h' c' kp e=>fin aJ r' hz h' c' kp e) (by simp only[WH]<;>omega)
theorem qm:dB X (.type "tuple") (fun xs H Q=> ∃p ys,xs=[.ref p]/\((bA X.K H p ys/\ ∀l,H l=none->Q (.ref l) (upd H l (.tup ys)))\/(cT X.K H p ys/\Q (.ref p) H))):=by
 intro pins s σ H xs us Q I r h
 obtain ⟨p,ys,rfl,h⟩:=h
 obtain ⟨u,rfl,rx⟩:=vals1 r
 cases rx
 rcases h with ⟨hq,q⟩ | ⟨hq,q⟩
 ·obtain ⟨aJ,r',pl,hz⟩:=I.list hq
  have hlen:=r'.length
  refine call_tuple_list pl.isList (fun h' kp=>?_) (by simp only[WH]<;>omega)
  have I1:Inv X pins σ H { s with heap:=h' }:=I.kept (t':=s.toks) kp
  have I2:Inv X pins σ (upd H h'.objs.size (.tup ys)) { s with heap:=h'.push { cls:= .type "tuple",data:= .seq aJ.toArray } }:=
   I1.laid (t':=s.toks) (fun b o e=>SF _ e) (SA _) (show cQ X.prog X.w _ _ _ (.tup ys) from ⟨hz,aJ,r',IsTup.new _ _⟩)
  exact ⟨.ref h'.objs.size,_,I2,rfl,q _ (I1.b5.fresh (SA _))⟩
 ·obtain ⟨aJ,r',pl,hz⟩:=I.tuple hq
  exact call_tuple_same pl ⟨.ref p,H,I,rfl,q⟩
def QL (K:PySem.W.Frag) (T:String) (x:V) (H:Hp):Prop:=match x with
 | .str _=>T="str"
 | .int _=>T="int"
 | .ref p=>(T="list"/\ ∃xs,bA K H p xs)\/(T="tuple"/\ ∃o,K.lookup p=some o/\o.cls= .type "tuple"/\o.dict=none)\/
   (T="dict"/\((∃aL,H p=some (.dK aL))\/ ∃aL,H p=some (.dT aL)))\/(T="set"/\ ∃S n,H p=some (.set S n))
 | _=>False
theorem Cb {pins:List (Addr×Obj)} {σ:St} {H:Hp} {s:Shared} {T:String} {x:V} {v:Value} (I:Inv X pins σ H s) (r:RelV x v) (ty:QL X.K T x H):
  s.TypeIs v T/\ ∀a,v= .ref a-> ∃ob,s.heap.get? a=some ob/\ob.dict=none:=by
 cases x with
 | str z=>
  obtain ⟨t,rfl⟩:=r
  cases (show T="str" from ty)
  exact ⟨typeIs_str s z t,fun _ e=>nomatch e⟩
 | int i=>
  obtain ⟨t,rfl⟩:=r
  cases (show T="int" from ty)
  exact ⟨typeIs_int s i t,fun _ e=>nomatch e⟩
 | ref p=>
  cases r
  rcases ty with ⟨rfl,xs,hq⟩ | ⟨rfl,o,hk,hc,hd⟩ | ⟨rfl,hk⟩ | ⟨rfl,S,n,hk⟩
  ·obtain ⟨aJ,_,pl,_⟩:=I.list hq
   refine ⟨pl.isList.typeIs,fun a e=>?_⟩
   cases e
   obtain ⟨o,n,e,c,hd,_⟩:=pl
   exact ⟨o,e,hd⟩
  ·refine ⟨⟨o,I.Am p o hk,hc⟩,fun a e=>?_⟩
   cases e
   exact ⟨o,I.Am _ o hk,hd⟩
  ·have z: ∃o,s.heap.get? p=some o/\o.ExactDict:=by
    rcases hk with ⟨aL,hk⟩ | ⟨aL,hk⟩
    ·obtain ⟨_,_,_,_,o,_,_,e,ex,_⟩:=I.b5 p _ hk
     exact ⟨o,e,ex⟩
    ·obtain ⟨_,_,_,_,o,_,_,e,ex,_⟩:=I.b5 p _ hk
     exact ⟨o,e,ex⟩
   obtain ⟨o,e,ex⟩:=z
   refine ⟨⟨o,e,ex.1⟩,fun a e2=>?_⟩
   cases e2
   exact ⟨o,e,ex.2.1⟩
  ·obtain ⟨o,_,_,_,e,ex,_⟩:=I.b5 p _ hk
   refine ⟨⟨o,e,ex.1⟩,fun a e2=>?_⟩
   cases e2
   exact ⟨o,e,ex.2.1⟩
 | _=>exact False.elim ty
def Np (K:PySem.W.Frag) (T:String) (r:V->List V->Hp->VK->Prop) (to:TE):TE:=fun σ H Q=>to σ H fun x H1=>QL K T x H1/\r x [] H1 Q
def Sw (K:PySem.W.Frag) (T:String) (r:V->List V->Hp->VK->Prop) (to:TE) (t:TA):TE:=fun σ H Q=>to σ H fun x H1=>QL K T x H1/\t σ H1 fun xs H2=>r x xs H2 Q
variable {o e:Expr} {es:List Expr} {to:TE} {t:TA} {name:Str} {apos ir:Pos} {T id:String} {r:V->List V->Hp->VK->Prop}
theorem IX (pa:PlainAttrs T) (slot:Slot T name id) (IZ:typeOf (.builtin id)=pure (.type "method_descriptor")) (hm:AB X id r) (ho:PE X o to)
  (oz:attributeBase o name X.env (eval o X.env)=eval o X.env:=by rfl) (mR:(apos.endLine==ir.line)=true:=by rfl):PE X (.Call (.Attribute o name apos) [] [] ir) (Np X.K T r to):=by
 intro pins s σ H Q I h
 refine wpAny_Call_method0_late oz mR (b_ (ho pins s σ H _ I h) fun v s1 ⟨x,H1,I1,r1,ty,q1⟩=>?_)
 obtain ⟨h1,h2⟩:=Cb I1 r1 ty
 exact ⟨T,id,pa,slot,IZ,h1,h2,Calls.callWith_builtin rfl (PySem.evalArgs_none (hm pins s1 σ H1 x [] v [] Q I1 r1 .nil q1))⟩
theorem Nq (pa:PlainAttrs T) (slot:Slot T name id) (IZ:typeOf (.builtin id)=pure (.type "method_descriptor")) (hm:AB X id r) (ho:PE X o to) (ha:PA X (e::es) t)
  (oz:attributeBase o name X.env (eval o X.env)=eval o X.env:=by rfl)
  (Cc:((backTo ir (starEach (e::es) X.env)).all (fun x=>!x.1)&&(backToKw ir (keywordEach [] X.env)).all (fun x=>x.1.isSome)
   &&decide ((e::es).length+([]:List Keyword).length+(if ([]:List Keyword).isEmpty then 0 else 1)<30))=true:=by rfl)
  (mR:(apos.endLine==ir.line)=true:=by rfl) (hs:starEach (e::es) X.env=(false,eval e X.env)::starEach es X.env:=by rfl) (xf:(backTo ir (starEach es X.env)).any (·.1)=false:=by rfl):
  PE X (.Call (.Attribute o name apos) (e::es) [] ir) (Sw X.K T r to t):=by
 intro pins s σ H Q I h
 refine wpAny_Call_method_late oz Cc mR rfl (b_ (ho pins s σ H _ I h) fun v s1 ⟨x,H1,I1,r1,ty,q1⟩=>?_)
 obtain ⟨h1,h2⟩:=Cb I1 r1 ty
 refine ⟨T,id,pa,slot,IZ,h1,h2,?_⟩
 have hA:=ha ir pins s1 σ H1 _ I1 q1
 rw[hs]at hA ⊢
 refine Calls.callWith_builtin (by show (false||(backTo ir (starEach es X.env)).any (·.1))=false;rw[xf]<;>rfl) (Calls.evalArgs_plain ?_)
 exact b_ hA fun us s2 ⟨vs,H2,I2,r2,q2⟩=>hm pins s2 σ H2 x vs v us Q I2 r1 r2 q2
end
def Nr (X:Cx) (id:String) (r:V->List V->Hp->VK->Prop):Prop:=
 ∀(pins:List (Addr×Obj)) (s:Shared) (σ:St) (H:Hp) (x:V) (xs:List V) (v:Value) (us:List Value) (Q:VK),Inv X pins σ H s->RelV x v->Vals xs us->r x xs H Q->
  wpAny (model X.prog X.w) X.A (call (.builtin id) (v::us)) (EP X pins σ Q) X.xe s
theorem Vals.one: ∀{x:V} {us:List Value},Vals [x] us-> ∃u,us=[u]/\RelV x u
 | _,_, .cons r .nil=>⟨_,rfl,r⟩
theorem Vals.zero: ∀{us:List Value},Vals [] us->us=[]
 | _, .nil=>rfl
theorem Vals.dropLast {xs:List V} {us:List Value} (h:Vals xs us):Vals xs.dropLast us.dropLast:=by
 induction h with
 | nil=>exact .nil
 | cons r t ih=>
  cases t with
  | nil=>exact .nil
  | cons q t'=>exact .cons r ih
theorem Vals.eraseIdx: ∀{xs:List V} {us:List Value} (i:Nat),Vals xs us->Vals (xs.eraseIdx i) (us.eraseIdx i)
 | _,_,_, .nil=> .nil
 | _,_,0, .cons _ t=>t
 | _,_,i+1, .cons r t=> .cons r (Vals.eraseIdx i t)
theorem Vals.reverse {xs:List V} {us:List Value} (h:Vals xs us):Vals xs.reverse us.reverse:=by
 induction h with
 | nil=>exact .nil
 | cons r t ih=>rw[List.reverse_cons,List.reverse_cons];exact Vals.append ih (.cons r .nil)
theorem xg {α:Type} (l:List α):l.eraseIdx (l.length - 1)=l.dropLast:=by
 induction l with
 | nil=>rfl
 | cons a r ih=>
  cases r with
  | nil=>rfl
  | cons b r=>
   have e:(a::b::r).length - 1=((b::r).length - 1)+1:=by
    have h1:(a::b::r).length=r.length+2:=rfl
    have h2:(b::r).length=r.length+1:=rfl
    omega
   rw[e,YV,ih]
   all_goals rfl
theorem qQ {α:Type}: ∀(l:List α) (i:Nat),(l.eraseIdx i).length<=l.length
 | [],_=>SA _
 | _::_,0=>Yp _
 | _::r,i+1=>Yi (qQ r i)
section
variable {X:Cx} {pins:List (Addr×Obj)} {σ:St} {H:Hp} {s:Shared} {l b:Addr} {xs ys zs:List V}
theorem Inv.Ce {aJ its':List Value} {n:Nat} {f:Array Value->Array Value} {t':Nat} (I:Inv X pins σ H s) (hH:H l=some (.lst xs))
  (e:s.heap.get? l=some { cls:= .type "list",data:= .seq aJ.toArray n }) (hf:f aJ.toArray=its'.toArray) (hv:Vals ys its') (hz:ys.length<=sizeLine):
  Inv X pins σ (upd H l (.lst ys)) { s with heap:=s.heap.update l (Obj.mapSeq f),toks:=t' }:=by
 have q:=PySem.IsL.update e f
 rw[hf]at q
 refine I.write (x:=l) (e:=l) (by rw[hH];exact trivial) (.inl rfl) (fun b' u hb hu=>(XJ s.heap (Obj.mapSeq f) (Ne.symm hb)).trans hu) ⟨_,q⟩ ?_
 exact ⟨hz,its',_,hv,q⟩
theorem Inv.QM {aJ:List Value} {t':Nat} (I:Inv X pins σ H s) (hv:Vals ys aJ) (hz:ys.length<=sizeLine):
  Inv X pins σ (upd H s.heap.objs.size (.lst ys)) { s with heap:=s.heap.push { cls:= .type "list",data:= .seq aJ.toArray },toks:=t' }:=
 I.laid (fun _ _ q=>SF _ q) (SA _) ⟨hz,aJ,0,hv,Xe _ rfl⟩
theorem Inv.fresh (I:Inv X pins σ H s):H s.heap.objs.size=none:=I.b5.fresh (SA _)
theorem Inv.xh (I:Inv X pins σ H s) (hH:H l=some (.lst xs)):xs.length<=sizeLine/\ ∃(aJ:List Value) (n:Nat),Vals xs aJ/\xs.length=aJ.length/\s.heap.get? l=some { cls:= .type "list",data:= .seq aJ.toArray n }:=by
 obtain ⟨z,aJ,n,r,e⟩:=I.b5 l _ hH
 exact ⟨z,aJ,n,r,r.length,e⟩
end
section
variable {X:Cx}
def Fz:V->List V->Hp->VK->Prop:=fun x vs H Q=> ∃l xs y,x= .ref l/\vs=[y]/\H l=some (.lst xs)/\xs.length<sizeLine/\Q .fE (upd H l (.lst (xs++[y])))
theorem de:Nr X "list.append" Fz:=by
 intro pins s σ H x vs v us Q I rx rv h
 obtain ⟨l,xs,y,rfl,rfl,hH,hz,q⟩:=h
 cases rx
 obtain ⟨u,rfl,ru⟩:=rv.one
 obtain ⟨z,aJ,n,r,hl,e⟩:=I.xh hH
 refine call_meets F.slot_list_append ⟨_,e,rfl⟩ F.entry_list_append (F.args_list_append_2 _ _) (PySem.list_append l aJ.toArray n u (by rw[WH];omega)) ⟨e,?_⟩
 refine ⟨.fE,_,I.Ce (its':=aJ++[u]) hH e (by simp) (r.append (.cons ru .nil)) ?_,rfl,q⟩
 rw[SD,List.length_singleton]
 omega
def QN:V->List V->Hp->VK->Prop:=fun x vs H Q=> ∃l xs y,x= .ref l/\vs=[]/\H l=some (.lst xs)/\xs[xs.length - 1]? =some y/\Q y (upd H l (.lst xs.dropLast))
theorem I_:Nr X "list.pop" QN:=by
 intro pins s σ H x vs v us Q I rx rv h
 obtain ⟨l,xs,y,rfl,rfl,hH,hy,q⟩:=h
 cases rx
 have uZ:=rv.zero
 subst uZ
 obtain ⟨z,aJ,n,r,hl,e⟩:=I.xh hH
 obtain ⟨u,hu,ru⟩:=r.get hy
 have Uu:aJ.toArray[aJ.toArray.size - 1]? =some u:=by
  show aJ.toArray[aJ.length - 1]? =some u
  rw[<-Array.getElem?_toList, <-hl]
  exact hu
 refine call_meets F.slot_list_pop ⟨_,e,rfl⟩ F.entry_list_pop (F.args_list_pop_1 _) (MeetsSeq.list_pop_last l aJ.toArray n u Uu (by rw[WH];omega)) ⟨e,?_⟩
 refine ⟨y,_,I.Ce (its':=aJ.dropLast) hH e ?_ r.dropLast ?_,ru,q⟩
 ·show aJ.toArray.eraseIdxIfInBounds (aJ.toArray.size - 1)=aJ.dropLast.toArray
  rw[WH,List.eraseIdxIfInBounds_toArray,xg]
 ·rw[List.length_dropLast]
  omega
def Ja:V->List V->Hp->VK->Prop:=fun x vs H Q=> ∃l xs i k y,x= .ref l/\vs=[.int i]/\H l=some (.lst xs)/\ -(2 ^ 63)<=i/\i<2 ^ 63/\seqIndex? i xs.length=some k/\xs[k]? =some y/\Q y (upd H l (.lst (xs.eraseIdx k)))
theorem kz:Nr X "list.pop" Ja:=by
 intro pins s σ H x vs v us Q I rx rv h
 obtain ⟨l,xs,i,k,y,rfl,rfl,hH,h1,h2,hk,hy,q⟩:=h
 cases rx
 obtain ⟨u,rfl,ru⟩:=rv.one
 obtain ⟨t,rfl⟩:=ru
 obtain ⟨z,aJ,n,r,hl,e⟩:=I.xh hH
 obtain ⟨w,hw,uY⟩:=r.get hy
 refine call_meets F.slot_list_pop ⟨_,e,rfl⟩ F.entry_list_pop (F.args_list_pop_2 _ _)
  (MeetsSeq.list_pop_at l aJ.toArray n i t k w (fitsIndex_both h1 h2) (by rw[WH, <-hl];exact hk) (by rw[<-Array.getElem?_toList];exact hw) (by rw[WH];omega)) ⟨e,?_⟩
 refine ⟨y,_,I.Ce (its':=aJ.eraseIdx k) hH e ?_ (r.eraseIdx k) ?_,uY,q⟩
 ·show aJ.toArray.eraseIdxIfInBounds k=(aJ.eraseIdx k).toArray
  rw[List.eraseIdxIfInBounds_toArray]
 ·have:=qQ xs k
  omega
def Cf:V->List V->Hp->VK->Prop:=fun x vs H Q=> ∃l xs,x= .ref l/\vs=[]/\H l=some (.lst xs)/\Q .fE (upd H l (.lst xs.reverse))
theorem xi:Nr X "list.reverse" Cf:=by
 intro pins s σ H x vs v us Q I rx rv h
 obtain ⟨l,xs,rfl,rfl,hH,q⟩:=h
 cases rx
 have uZ:=rv.zero
 subst uZ
 obtain ⟨z,aJ,n,r,hl,e⟩:=I.xh hH
 refine call_meets F.slot_list_reverse ⟨_,e,rfl⟩ F.entry_list_reverse (F.args_list_reverse_1 _) (AutoSeq1.list_reverse_list_0 l aJ.toArray n (by rw[WH];omega)) ⟨e,?_⟩
 refine ⟨.fE,_,I.Ce (its':=aJ.reverse) hH e (by simp) r.reverse ?_,rfl,q⟩
 rw[XA]
 omega
def QO:R2:=fun x y H Q=> ∃l b xs zs,x= .ref l/\y= .ref b/\H l=some (.lst xs)/\H b=some (.lst zs)/\xs.length+zs.length<=sizeLine/\ ∀p,H p=none->Q (.ref p) (upd H p (.lst (xs++zs)))
theorem Cg:iG X (binaryOp .Add) QO:=by
 intro pins s σ H x y v u Q I rx ry h
 obtain ⟨l,b,xs,zs,rfl,rfl,hH,hB,hz,q⟩:=h
 cases rx
 cases ry
 obtain ⟨z,aJ,n,r,hl,e⟩:=I.xh hH
 obtain ⟨z2,Nt,n2,r2,AD,e2⟩:=I.xh hB
 refine PySem.P.add_list e e2 ?_ (by rw[WH,WH];omega)
 have ea:aJ.toArray++Nt.toArray=(aJ++Nt).toArray:=by simp
 rw[ea]
 exact ⟨.ref _,_,I.QM (t':=s.toks) (r.append r2) (by rw[SD];omega),rfl,q _ I.fresh⟩
end
section
variable {prog:Program} {w:World} {A:Around} {E:Value->Shared->Prop} {s:Shared}
end
section
variable {X:Cx}
end
end L2
namespace Sx
open PySem PySem.W PySem.Calls PyProof.Rows
theorem m7 {P:Params} {h:Heap}: ∀(ns:List Int) (vs:List Value),WellAll P h vs (ns.map WData.int)->IntsAre vs ns:=by
 intro ns
 induction ns with
 | nil=>
  intro vs w
  rw[List.map_nil]at w
  cases w
  exact .nil
 | cons n ns ih=>
  intro vs w
  rw[Xl]at w
  cases w with
  | cons a b=>
   cases a
   exact .cons _ _ (ih _ b)
theorem AE {l:OpenLaw} {n:Nat} (hn:l.most=some n) {P:Params} {h:Heap} {args:List WData} {vals:List Value}
  (FA:l.row.toRowW.claim.pre args=true) (uJ:WellAll P h vals args):
  ∃a vs ns,vals=[Value.ref a]/\args=[WData.list (ns.map WData.int)]/\h.get? a=some { cls:= .type "list",data:= .seq vs.toArray }/\IntsAre vs ns/\ns.length<=n:=by
 have Uv:WShape.hasAll [] args [.list .int]=true:=(pre_splitW FA).1
 have hc:l.pre.holds [] { args:=args }=true:=(pre_splitW FA).2
 obtain ⟨d,r,rfl,h1,h2⟩:=hasAllW_cons Uv
 obtain rfl:=hasAllW_nil h2
 obtain ⟨xs,rfl,h3⟩:=hasW_list h1
 obtain ⟨ns,rfl⟩:=items_int h3
 have hlen:ns.length<=n:=by
  unfold OpenLaw.pre at hc
  have h4:(WTm.not (.lt (.lit (.int (n:Int))) (.len (.arg 0)))).holds [] { args:=[.list (ns.map .int)] }=true:=by
   have h4:=(holds_andW hc).1
   rw[hn]at h4
   exact h4
  have h5:=condW_of h4 (w_not (w_lt w_lit (w_len_list (w_arg rfl))))
  rw[K4]at h5
  refine Nat.le_of_not_lt fun q=>?_
  have q':(n:Int)<((ns.length:Nat):Int):=by omega
  first
   |(rw[decide_eq_true q']at h5;exact absurd h5 (by decide))
   |(simp at h5;omega)
 cases uJ with
 | cons w1 w2=>
  cases w2
  cases w1 with
  | list ho QP=>exact ⟨_,_,ns,rfl,rfl,ho,m7 ns _ QP,hlen⟩
theorem AF (l:OpenLaw) (args:List WData):l.row.toRowW.claim.post args (.bool true) args=true:=
 postW_of (r:=l.row.toRowW) (X:=(true==true))
  (show WShape.has [] (.bool true) .bool=true by first | rfl | decide | simp[WShape.has,WShape.arms,WShape.armsAll])
  (show (WTm.eq .res (.lit (.bool true))).value [] { args:=args,res:=some (.bool true),after:=args }=some (.bool (true==true)) from w_eq_bool (w_res rfl) w_lit) rfl
theorem u5 {l:OpenLaw} {n:Nat} {q:Program} {loose:List Str} {XP:(Str->Option Value)->Heap->Prop} {YP:World->Heap->Prop} {d:DefRec}
  (hn:l.most=some n) (Nu:d.params.defaults=[])
  (call: ∀(w:World) (s₀ s₁:Shared) (mg mb:Str->Option Value) (fa:Addr) (o:Obj) (pm cd doc:Value) (a:Addr) (vs:List Value) (ns:List Int),
   Ground q loose [] XP w s₀ mg mb s₁.heap->YP w s₁.heap->
   s₁.heap.get? fa=some o->o.data= .func (docDef d.name d.params d.body d.scope pm cd doc)->s₁.heap.CodeRec cd d.name->mg d.name=some (.ref fa)->
   s₁.heap.get? a=some { cls:= .type "list",data:= .seq vs.toArray }->IntsAre vs ns->ns.length<=n->s₁.gens= #[]->
   codeAny (model l.prog w) callerA (.call (.ref fa) ⟨[.ref a],[]⟩) (fun r s'=>r= .ok (.ret (.bool true))/\OldK s₁.heap s'.heap/\s'.os=s₁.os/\AllBare s'.gens) s₁):
  WalkO q loose XP YP l.row.toRowW d [] (fun f vs=>PySem.call f vs):=by
 intro w s₀ s₁ mg mb G Y fa o pm cd doc dV kV ho hd jY hD hmg hg args vals as FA Uw WD uJ WE
 obtain rfl:dV= .none:=Dflts.none hD Nu
 obtain rfl:kV= .none:=Dflts.noKw hD
 obtain ⟨a,vs,ns,rfl,rfl,Jb,hints,hlen⟩:=AE hn FA uJ
 refine enter_call (codeAny_mono (call w s₀ s₁ mg mb fa o pm cd doc a vs ns G Y ho (fd_plain hd) jY hmg Jb hints hlen hg) fun r s' hq=>?_)
 obtain ⟨rfl,h2,h3,h4⟩:=hq
 exact ⟨.inl ⟨.bool true, .bool true,[],rfl,fun _=>rfl, .bool true,AF l _,fun _=>⟨List.Pairwise.nil,fun _ hm=>(nomatch hm)⟩⟩,h2,h3,h4⟩
section
variable {prog:Program} {w:World} {A:Around} {E:Value->Shared->Prop} {s:Shared} {K:Frag}
end
end Sx
namespace L2
open PySem PySem.Spec PyProof.Rows
theorem qR: ∀{vs:List Value} {ns:List Int},IntsAre vs ns->Vals (ns.map V.int) vs
 | _,_, .nil=> .nil
 | _,_, .cons n t h=> .cons ⟨t,rfl⟩ (qR h)
def Jc (H:Hp):Prop:= ∀b,H b=none\/ ∃o xs,H b=some (.EW o (.lst xs))
theorem Ci {P:Program} {w:World} {K:PySem.W.Frag} {mg mb:Str->Option Value} {CX:Ay} {k:Nat} {fa a:Addr} {fd:FuncData} {x:Str} {sp:Sp} {s₁:Shared} {vs:List Value} {ns:List Int}
  (KX:K.In s₁.heap) (O6:s₁.heap.Ns mainGlobals mg) (hb:s₁.heap.Ns builtinsNs mb) (Ux: ∀x:Str,x≠"__name__"->mb x=bootBuiltins x) (QQ:s₁.heap.NoLimit) (hg:s₁.gens= #[])
  (ha:s₁.heap.get? a=some { cls:= .type "list",data:= .seq vs.toArray }) (hi:IntsAre vs ns) (hl:ns.length<=sizeLine) (hr:eU k callerA)
  (F: ∀base:Heap,K.In base->base.Ns mainGlobals mg->bC P w K mg base CX k fa fd [x] sp) (Nv: ∀(s:Shared) (u:Value),BindsTo s fd ⟨[u],[]⟩ [(x,u)])
  (HB: ∀H:Hp,Jc H->bA K H a (ns.map V.int)->sp [.ref a] H (fun v _=>v= .bl true) fun _ _ _=>False)
  (QR: ∀H e s',CX [] H s₁ (fun _ _ _=>False) e s'->False):
  codeAny (model P w) callerA (.call (.ref fa) ⟨[.ref a],[]⟩) (fun r s'=>r= .ok (.ret (.bool true))/\OldK s₁.heap s'.heap/\s'.os=s₁.os/\AllBare s'.gens) s₁:=by
 have rv:=qR hi
 have QS:=hi.length
 -- from an abstract heap in Sy nothing but B3 script may be tracked
 have core: ∀H:Hp,Jc H->bA K H a (ns.map V.int)->jX P w H s₁.heap->(∀b,H b≠none->b=a)->(H a≠none->K.lookup a=none)->
   codeAny (model P w) callerA (.call (.ref fa) ⟨[.ref a],[]⟩) (fun r s'=>r= .ok (.ret (.bool true))/\OldK s₁.heap s'.heap/\s'.os=s₁.os/\AllBare s'.gens) s₁:=by
  intro H hO hS b5 hA hK
  have yT: ∀{b:Addr} {o:Obj},s₁.heap.get? b=some o->H b=none->(sk s₁.heap H).get? b=some o:=fun e n=>BU e n
  have Nh: ∀{b:Addr} {o:Obj} {es:Array DictEntry} {ep:Nat},s₁.heap.get? b=some o->o.data= .dict es ep->H b=none:=fun {b o es ep} e d=>by
   cases q:H b with
   | none=>rfl
   | some u=>
    have e':b=a:=hA b (by rw[q];simp)
    subst e'
    rw[ha]at e;cases e
    have d':Data.seq vs.toArray _=Data.dict es ep:=d
    cases d'
  have O7: ∀{b:Addr} {m:Str->Option Value},s₁.heap.Ns b m->(sk s₁.heap H).Ns b m:=fun {b m} ⟨o,es,ep,e,d,r⟩=>⟨o,es,ep,yT e (Nh e d),d,r⟩
  have Sz:K.In (sk s₁.heap H):=fun b o e=>yT (KX b o e) (by
   cases q:H b with
   | none=>rfl
   | some u=>
    have e':b=a:=hA b (by rw[q];simp)
    subst e'
    rw[hK (by rw[q];simp)]at e;cases e)
  have hM:Mod K mg (sk s₁.heap H):=⟨Sz,O7 O6,⟨mb,O7 hb,Ux⟩,let ⟨mc,h1,h2⟩:=QQ;⟨mc,O7 h1,h2⟩⟩
  have e0:xa P w K mg (sk s₁.heap H) callerA [] s₁ H:=⟨rfl,hM,fun b o e=>Fg e,Nat.le_of_eq (Al _ _),trivial,fun b hb=>absurd (show b∈([]:List Addr) from hb) (by simp),b5, .of_eq hg⟩
  refine codeAny_mono ((F _ Sz (O7 O6)).run callerA [] s₁ H ⟨[.ref a],[]⟩ [.ref a] [.ref a] _ _ hr e0 (Nv s₁ (.ref a)) (.cons rfl .nil) (HB H hO hS)) fun r s' h=>?_
  cases r with
  | error e=>exact (QR H e s' h).elim
  | ok fl=>
   cases fl with
   | next=>exact False.elim h
   | brk=>exact False.elim h
   | cont=>exact False.elim h
   | ret u=>
    obtain ⟨v,H',os,bare,un,QT,r',q⟩:=h
    have q':v= .bl true:=q
    subst q'
    obtain rfl:u=Value.bool true:=r'
    refine ⟨rfl,OldK.of_keep fun b o e=>?_,os,bare⟩
    cases q:H b with
    | none=>exact un.keep b o e q (by intro z;exact absurd (show b∈([]:List Addr) from z) (by simp)) (by simp)
    | some u=>
     rcases hO b with z | ⟨ob,xs,z⟩
     ·rw[q]at z;cases z
     ·have z2:=un.oa b ob _ z
      obtain ⟨e1,_⟩:=b5 b _ z
      obtain ⟨e2,_⟩:=QT b _ z2
      rw[e]at e1;cases e1
      exact e2
 cases hk:K.lookup a with
 | some o=>
  -- B3 script is one of B3 Cd own objects
  have e:=KX a o hk
  rw[ha]at e
  cases e
  refine core (fun _=>none) (fun _=> .inl rfl) (.inr ⟨_,vs.toArray,_,hk,rfl,rfl,rfl,by rw[WH,QS];exact hl,by simpa using rv⟩) (fun b u z=>by have z':(none:Option HO)=some u:=z;cases z') (fun b z=>absurd rfl z) fun z=>absurd rfl z
 | none=>
  refine core (fun b=>if b=a then some (.EW { cls:= .type "list",data:= .seq vs.toArray } (.lst (ns.map V.int))) else none) (fun b=>?_) (.inl (.inr ⟨{ cls:= .type "list",data:= .seq vs.toArray },if_pos rfl⟩)) (fun b u z=>?_) (fun b z=>?_) fun _=>hk
  ·by_cases hb:b=a
   ·exact .inr ⟨_,_,if_pos hb⟩
   ·exact .inl (if_neg hb)
  ·by_cases hb:b=a
   ·have z':=(if_pos hb).symm.trans z
    cases z'
    subst hb
    exact ⟨ha,by rw[K4];exact hl,vs,_,rv,ha⟩
   ·have z':=(if_neg hb).symm.trans z
    cases z'
  ·by_cases hb:b=a
   ·exact hb
   ·exact absurd (if_neg hb) z
theorem yU {l:PySem.W.OpenLaw} {n k:Nat} {q:Program} {loose:List Str} {XP:(Str->Option Value)->Heap->Prop} {YP:World->Heap->Prop} {d:DefRec} {K:Params->PySem.W.Frag} {CX:World->Ay} {sp:World->Sp} {x:Str}
  (hn:l.most=some n) (w4:n<=sizeLine) (Nu:d.params.defaults=[]) (hr:eU k callerA)
  (hY: ∀(w:World) (h:Heap),YP w h->(K w.params).In h)
  (F: ∀(w:World) (mg:Str->Option Value) (fa:Addr) (h:Heap),(K w.params).In h->h.Ns mainGlobals mg->mg d.name=some (.ref fa)->
   ∃fd:FuncData,(∀(s:Shared) (u:Value),BindsTo s fd ⟨[u],[]⟩ [(x,u)])/\
    ∀base:Heap,(K w.params).In base->base.Ns mainGlobals mg->bC l.prog w (K w.params) mg base (CX w) k fa fd [x] (sp w))
  (HB: ∀(w:World) (H:Hp) (a:Addr) (ns:List Int),ns.length<=n->Jc H->bA (K w.params) H a (ns.map V.int)->sp w [.ref a] H (fun v _=>v= .bl true) fun _ _ _=>False)
  (QR: ∀(w:World) (H:Hp) (s:Shared) (e:Value) (s':Shared),CX w [] H s (fun _ _ _=>False) e s'->False):
  PySem.W.WalkO q loose XP YP l.row.toRowW d [] (fun f vs=>PySem.call f vs):=by
 refine Sx.u5 hn Nu fun w s₀ s₁ mg mb fa o pm cd doc a vs ns G Y ho hd jY hmg Jb hints hlen hg=>?_
 have KX:=hY w _ Y
 obtain ⟨fd,hb,hF⟩:=F w mg fa _ KX G.T.g hmg
 exact Ci KX G.T.g G.T.b G.T.builtins G.T.nolimit hg Jb hints (Xt hlen w4) hr hF hb (fun H hO hS=>HB w H a ns hlen hO hS) fun H e s'=>QR w H s₁ e s'
noncomputable def fu (s:Stmt):Arguments:=match s with
 | .FunctionDef _ a _ _ _ _ _ _ _ _=>a
 | _=>{ posonlyargs:=[],args:=[],vararg:=none,kwonlyargs:=[],kw_defaults:=[],kwarg:=none,defaults:=[] }
noncomputable def eQ (s:Stmt):List Stmt:=match s with
 | .FunctionDef _ _ b _ _ _ _ _ _ _=>b
 | _=>[]
noncomputable def au (s:Stmt):Scope:=match s with
 | .FunctionDef _ _ _ _ _ _ sc _ _ _=>sc
 | _=>{ kind:= .function,names:=[],isGenerator:=false,isCoroutine:=false }
abbrev eR:Ay:=fun _ _ _ _ _ _=>False
abbrev E0:XK:=fun _ _ _=>False
theorem aB {X:Cx}:Passes eR X E0:=fun _ _ _ _ _ _ _ h=>h.elim
structure FC (K:PySem.W.Frag) (x qual:Str) (st:Stmt) (f:Addr) (fd:FuncData):Prop where
 ex: ∃(oc:Value) (od:Option Addr) (kV doc pm:Value) (an:Option Addr) (cx ct:Value) (E1:Array (Option Value)),
  fd=PySem.W.fnOf x qual (fu st) (eQ st) (au st) .none kV doc pm an cx ct/\K.lookup f=some ⟨oc,od, .func fd,E1⟩/\PySem.W.codeIn K cx qual=true
 kp:PySem.W.keepIn K (.ref f)=true
section
variable {P:Program} {w:World} {K:PySem.W.Frag} {mg:Str->Option Value} {base:Heap}
theorem FC.ok {x qual:Str} {st:Stmt} {f:Addr} {fd:FuncData} {N ps:List Str} {k:Nat} {sp:Sp} (F:FC K x qual st f fd) (S:aF N ps (au st)) (len: ∀vs H Q E,sp vs H Q E->vs.length=ps.length)
  (B9: ∀(cx:Value) (A:Around) (outer:List Env) (s:Shared) (H:Hp) (vs:List V) (Q:VK) (E:XK),eU k (A.deeper (envOfC qual (au st) s.heap.objs.size f cx))->sp vs H Q E->
   ∃t,wR (Az eR P w K mg base N qual (au st) f cx A outer s H E).O0 (eQ st) t/\t { nx:=fun _ H'=>Q .fE H',rt:=Q } (start N vs) H):bC P w K mg base eR (k+1) f fd ps sp:=by
 obtain ⟨oc,od,kV,doc,pm,an,cx,ct,E1,rfl,lk,jY⟩:=F.ex
 refine Ni lk jY S len fun A outer s H vs Q E hr HB=>?_
 obtain ⟨t,h,q⟩:=B9 cx A outer s H vs Q E hr HB
 exact ⟨t,h.O0,q⟩
theorem FC.binds {x qual:Str} {st:Stmt} {f:Addr} {fd:FuncData} {ps:List Str} (F:FC K x qual st f fd)
  (h: ∀(kV doc pm:Value) (an:Option Addr) (cx ct:Value) (us:List Value),us.length=ps.length->bindArgs (PySem.W.fnOf x qual (fu st) (eQ st) (au st) .none kV doc pm an cx ct) ⟨us,[]⟩=pure (ps.zip us)):Binds K fd ps []:=by
 obtain ⟨oc,od,kV,doc,pm,an,cx,ct,E1,rfl,lk,jY⟩:=F.ex
 exact .all (h kV doc pm an cx ct)
theorem xj {x qual:Str} {st:Stmt} {f:Addr} {oc:Value} {od an:Option Addr} {E1:Array (Option Value)} {kV doc pm cx ct:Value} (l:K.lookup f=some ⟨oc,od, .func (PySem.W.fnOf x qual (fu st) (eQ st) (au st) .none kV doc pm an cx ct),E1⟩)
  (c:PySem.W.codeIn K cx qual=true) (k:PySem.W.keepIn K (.ref f)=true):FC K x qual st f (PySem.W.fnOf x qual (fu st) (eQ st) (au st) .none kV doc pm an cx ct):=⟨⟨oc,od,kV,doc,pm,an,cx,ct,E1,rfl,l,c⟩,k⟩
end
theorem kA {A:Around} {k:Nat} (hr:eU k A):A.units+1<cLine:=Xz (Nat.add_le_add_left (by decide:1<=64) _) hr.units
section
variable {X:Cx}
theorem pv (i:Nat) {x:Str} {pos:Pos} (hN:X.N[i]? =some x:=by rfl) (hv:MK X.env.scope x:=by first | exact Or.inl rfl | exact Or.inr (Or.inl rfl) | exact Or.inr (Or.inr rfl)) (hd:(x==("__debug__":Str))=false:=by decide)
  (jY:(x==("__classdict__":Str))=false:=by decide):PE X (.Name x pos) (Iw i):=Iy hN hv hd jY
end
theorem AG {A B:Prop} (h:B):if false=true then A else B:=by
 rw[if_neg Xi]
 exact h
theorem Jf {A B:Prop} (h:A):if true=true then A else B:=by
 rw[if_pos rfl]
 exact h
theorem bS {c A B:Prop} [Decidable c] (h1:c->A) (h2: ¬c->B):if c then A else B:=by
 by_cases h:c
 ·rw[if_pos h]
  exact h1 h
 ·rw[if_neg h]
  exact h2 h
def aq (H H':Hp):Prop:= ∀b o,H b=some o->H' b=some o
theorem aq.refl (H:Hp):aq H H:=fun _ _ h=>h
theorem aq.trans {H H1 H2:Hp} (a:aq H H1) (b:aq H1 H2):aq H H2:=fun c o h=>b c o (a c o h)
theorem aq.free {H H':Hp} (e:aq H H') {l:Addr} (h:H' l=Option.none):H l=Option.none:=by
 cases q:H l with
 | none=>rfl
 | some o=>
  rw[e l o q]at h
  cases h
theorem aq.seq {K:PySem.W.Frag} {H H':Hp} {a:Addr} {xs:List V} (e:aq H H') (h:bA K H a xs):bA K H' a xs:=by
 rcases h with (h | ⟨o,h⟩) | h
 ·exact .inl (.inl (e _ _ h))
 ·exact .inl (.inr ⟨o,e _ _ h⟩)
 ·exact .inr h
noncomputable def iu (env:Env):List (Str×NameKind)->List (Str×Addr)->List (Str×Addr)
 | [],acc=>acc
 |(n,k)::r,acc=>iu env r (if k== .free then (match env.cells.lookup n with | some a=>(n,a)::acc | none=>acc) else acc)
theorem fh {env:Env}: ∀(names:List (Str×NameKind)) (acc:List (Str×Addr)),(∀y∈names,y.2= .free-> ∃c,env.cells.lookup y.1=some c)->
  (forIn names acc fun (x:Str×NameKind) (cs:List (Str×Addr))=>(if (x.2==NameKind.free)=true then do let a <-cellOf env x.1;pure (ForInStep.yield ((x.1,a)::cs)) else pure (ForInStep.yield cs):Sem (ForInStep (List (Str×Addr)))))=pure (iu env names acc)
 | [],acc,_=>rfl
 |(n,k)::r,acc,h=>by
  rw[Zf]
  have hr: ∀y∈r,y.2= .free-> ∃c,env.cells.lookup y.1=some c:=fun y hy=>h y (UB _ hy)
  cases hk:(k==NameKind.free) with
  | false=>
   have e1:iu env ((n,k)::r) acc=iu env r acc:=by
    show iu env r (if (k==NameKind.free)=true then (match env.cells.lookup n with | some a=>(n,a)::acc | none=>acc) else acc)=_
    rw[hk,if_neg Xi]
   rw[e1, <-fh r acc hr]
   simp only[hk,YC,if_false,pure_bind]
  | true=>
   obtain ⟨c,hc⟩:=h (n,k) Uz (by simpa using hk)
   have e1:iu env ((n,k)::r) acc=iu env r ((n,c)::acc):=by
    have qj:env.cells.lookup n=some c:=hc
    show iu env r (if (k==NameKind.free)=true then (match env.cells.lookup n with | some a=>(n,a)::acc | none=>acc) else acc)=_
    rw[hk,qj,if_pos rfl]
   have e2:cellOf env n=pure c:=by
    have qj:env.cells.lookup n=some c:=hc
    unfold cellOf
    rw[qj]
   rw[e1, <-fh r ((n,c)::acc) hr]
   simp only[hk,if_true,e2,pure_bind]
theorem jJ {scope:Scope} {env:Env} (h: ∀y∈scope.names,y.2= .free-> ∃c,env.cells.lookup y.1=some c):closureFor scope env=pure (iu env scope.names []):=by
 have e:=fh scope.names [] h
 simp only[closureFor]
 rw[e]
 rfl
theorem lQ {env:Env} {x:Str} {c:Addr}: ∀(names:List (Str×NameKind)) (acc:List (Str×Addr)),(∀y d,acc.lookup y=some d->env.cells.lookup y=some d)->(iu env names acc).lookup x=some c->env.cells.lookup x=some c
 | [],acc,ha,h=>ha x c h
 |(n,k)::r,acc,ha,h=>by
  refine lQ r _ (fun y d q=>?_) h
  by_cases hk:(k==NameKind.free)=true
  ·rw[if_pos hk]at q
   cases e:env.cells.lookup n with
   | none=>rw[e]at q;exact ha y d q
   | some a=>
    rw[e]at q
    have q':List.lookup y ((n,a)::acc)=some d:=q
    rw[XI]at q'
    cases hy:(y==n) with
    | true=>
     rw[hy]at q'
     have:y=n:=by simpa using hy
     subst this
     rw[e];exact q'
    | false=>rw[hy]at q';exact ha y d q'
  ·rw[if_neg hk]at q;exact ha y d q
theorem u6 {env:Env} {x:Str}: ∀(names:List (Str×NameKind)) (acc:List (Str×Addr)),(∃c,acc.lookup x=some c)-> ∃c,(iu env names acc).lookup x=some c
 | [],acc,h=>h
 |(n,k)::r,acc,⟨c,hc⟩=>by
  refine u6 r _ ?_
  by_cases hk:(k==NameKind.free)=true
  ·rw[if_pos hk]
   cases e:env.cells.lookup n with
   | none=>exact ⟨c,hc⟩
   | some a=>
    show ∃c,List.lookup x ((n,a)::acc)=some c
    rw[XI]
    cases hy:(x==n) with
    | true=>exact ⟨a,rfl⟩
    | false=>exact ⟨c,hc⟩
  ·rw[if_neg hk];exact ⟨c,hc⟩
theorem oA {env:Env} {x:Str}: ∀(names:List (Str×NameKind)) (acc:List (Str×Addr)),(∀y∈names,y.2= .free-> ∃c,env.cells.lookup y.1=some c)->names.lookup x=some .free-> ∃c,(iu env names acc).lookup x=some c
 | [],acc,_,h=>by simp at h
 |(n,k)::r,acc,hf,h=>by
  have hr: ∀y∈r,y.2= .free-> ∃c,env.cells.lookup y.1=some c:=fun y hy=>hf y (UB _ hy)
  rw[XI]at h
  cases hy:(x==n) with
  | true=>
   rw[hy]at h
   have hk:k= .free:=Xa h
   subst hk
   have hx:x=n:=by simpa using hy
   subst hx
   obtain ⟨c,hc⟩:=hf (x, .free) Uz rfl
   have qj:env.cells.lookup x=some c:=hc
   refine u6 r _ ⟨c,?_⟩
   rw[if_pos (show (NameKind.free==NameKind.free)=true by decide),qj]
   show List.lookup x ((x,c)::acc)=some c
   rw[XI]
   simp
  | false=>
   rw[hy]at h
   exact oA r _ hr h
theorem kB {env:Env}: ∀{names:List (Str×NameKind)} {x:Str},names.lookup x=some .free->
  ((names.map fun (n,k)=>if (k==NameKind.free&&env.scope.kind== .function&&env.kindOf n==some .cell) then (n,NameKind.cell) else (n,k)).lookup x=some .cell\/
   (names.map fun (n,k)=>if (k==NameKind.free&&env.scope.kind== .function&&env.kindOf n==some .cell) then (n,NameKind.cell) else (n,k)).lookup x=some .free)
 | [],_,h=>by simp at h
 |(n,k)::r,x,h=>by
  have ih:= @kB env r x
  show (List.lookup x ((if (k==NameKind.free&&env.scope.kind== .function&&env.kindOf n==some .cell)=true then (n,NameKind.cell) else (n,k))::_)=_\/List.lookup x ((if (k==NameKind.free&&env.scope.kind== .function&&env.kindOf n==some .cell)=true then (n,NameKind.cell) else (n,k))::_)=_)
  cases hx:x==n with
  | true=>
   simp only[XI,hx]at h
   cases h
   by_cases hc:((NameKind.free==NameKind.free)&&env.scope.kind== .function&&env.kindOf n==some .cell)=true
   ·rw[if_pos hc];simp[XI,hx]
   ·rw[if_neg hc];simp[XI,hx]
  | false=>
   simp only[XI,hx]at h
   by_cases hc:(k==NameKind.free&&env.scope.kind== .function&&env.kindOf n==some .cell)=true
   ·rw[if_pos hc];simp only[XI,hx];exact ih h
   ·rw[if_neg hc];simp only[XI,hx];exact ih h
theorem kC {env:Env}: ∀{names:List (Str×NameKind)} {x:Str},(∀y∈names,y.2≠ .cell)->
  ((names.map fun (n,k)=>if (k==NameKind.free&&env.scope.kind== .function&&env.kindOf n==some .cell) then (n,NameKind.cell) else (n,k)).lookup x=some .cell\/
   (names.map fun (n,k)=>if (k==NameKind.free&&env.scope.kind== .function&&env.kindOf n==some .cell) then (n,NameKind.cell) else (n,k)).lookup x=some .free)->names.lookup x=some .free
 | [],_,_,h=>by simp at h
 |(n,k)::r,x,hn,h=>by
  have ih:= @kC env r x (fun y hy=>hn y (UB _ hy))
  have hk:=hn (n,k) Uz
  have h':(List.lookup x ((if (k==NameKind.free&&env.scope.kind== .function&&env.kindOf n==some .cell)=true then (n,NameKind.cell) else (n,k))::(r.map fun (n,k)=>if (k==NameKind.free&&env.scope.kind== .function&&env.kindOf n==some .cell) then (n,NameKind.cell) else (n,k)))=some .cell\/List.lookup x ((if (k==NameKind.free&&env.scope.kind== .function&&env.kindOf n==some .cell)=true then (n,NameKind.cell) else (n,k))::(r.map fun (n,k)=>if (k==NameKind.free&&env.scope.kind== .function&&env.kindOf n==some .cell) then (n,NameKind.cell) else (n,k)))=some .free):=h
  cases hx:x==n with
  | true=>
   rw[XI,hx]
   by_cases hc:(k==NameKind.free&&env.scope.kind== .function&&env.kindOf n==some .cell)=true
   ·have:(k==NameKind.free)=true:=by
     rw[XZ,XZ]at hc;exact hc.1.1
    have Nw:k= .free:=by simpa using this
    rw[Nw]
   ·rw[if_neg hc]at h'
    simp only[XI,hx]at h'
    rcases h' with h' | h'
    ·exact absurd (Xa h') hk
    ·exact h'
  | false=>
   rw[XI,hx]
   by_cases hc:(k==NameKind.free&&env.scope.kind== .function&&env.kindOf n==some .cell)=true
   ·rw[if_pos hc]at h';simp only[XI,hx]at h';exact ih h'
   ·rw[if_neg hc]at h';simp only[XI,hx]at h';exact ih h'
abbrev E3:Value->Shared->Prop:=fun _ _=>False
theorem sN {prog:Program} {w:World} {A:Around} {R:Result->Shared->Prop} {s:Shared} {elt target iter:Expr} {ifs:List Expr} {scope:Scope} {pos:Pos} {it acc:Value} {env:Env} (I:Nat->Shared->Prop)
  (turn: ∀n s,I n s->wpAny (model prog w) A (pyNext it) (fun r s₁=>match r with
   | none=>R (.ok .next) s₁
   | some v=>wpAny (model prog w) A (letOwnedTupleGo target it v) (fun _ SG=>wpAny (model prog w) A (assign target env v) (fun _ s₂=>
     wpAny (model prog w) A (forIn ifs true fun c r=>if r=true then do let ok <-isTrue c env (eval c env);pure (ForInStep.yield ok) else pure (ForInStep.yield r)) (fun ok s₃=>
      if ok=true then wpAny (model prog w) A (eval elt env) (fun x s₄=>
       wpAny (model prog w) A (call (.builtin "list.append") [acc,x]) (fun _ s₅=> ∃m,m<n/\I m s₅) E3 s₄) E3 s₃
      else ∃m,m<n/\I m s₃) E3 s₂) E3 SG) E3 s₁) E3 s)
  (n:Nat) (h:I n s):codeAny (model prog w) A (.compLoop (.ListComp elt [⟨target,iter,ifs,0⟩] scope pos) 0 it acc env) R s:=by
 refine codeAny_loop rfl I (fun n s hI=>?_) n h
 show wpAny _ A ((compTurn (.ListComp elt [⟨target,iter,ifs,0⟩] scope pos) 0 it acc env).onRaise (fun x=>do noteFrame x env;theTreesLotGoes x)) _ _ s
 refine wpAny_noted ?_
 rw[compTurn_list]
 have no: ∀{F:Value->Shared->Prop} (e:Value) (s':Shared),E3 e s'->F e s':=fun _ _ h=>h.elim
 refine wpAny_bind (wpAny_standAt (wpAny_bind (wpAny_mono (turn n s hI) (fun r s₁ h₁=>?_) no)))
 cases r with
 | none=>exact wpAny_pure h₁
 | some v=>
  refine wpAny_bind (wpAny_mono h₁ (fun _ SG UD=>?_) no)
  refine wpAny_bind (wpAny_mono UD (fun _ s₂ h₂=>wpAny_bind (wpAny_mono h₂ (fun ok s₃ h₃=>?_) no)) no)
  cases ok with
  | false=>exact wpAny_pure ⟨rfl,h₃⟩
  | true=>
   exact wpAny_bind (wpAny_bind (wpAny_mono h₃ (fun x s₄ h₄=>wpAny_bind (wpAny_mono h₄ (fun _ s₅ h₅=>wpAny_pure (wpAny_pure ⟨rfl,h₅⟩)) no)) no))
noncomputable def bQ (X:Cx) (scope:Scope) (C:Addr) (Nc:List Str) (s:Shared) (H:Hp) (fp:List Addr):Cx where
 prog:=X.prog
 w:=X.w
 K:=X.K
 mg:=X.mg
 base:=X.base
 A:=X.A
 N:=Nc
 s₀:=s
 H₀:=H
 env:=compEnvC scope (iu X.env scope.names []) C X.env
 outer:=X.stack
 stack:=X.stack
 ex:=fp
 fn:=fun _=>false
 calm:=X.calm
 pn:=[]
 xe:=E3
def jE (X:Cx) (scope:Scope):List Str->List (Option Nat)->Prop
 | [],[]=>True
 | _::ys,none::os=>jE X scope ys os
 | y::ys,some j::os=>(X.N[j]? =some y/\scope.names.lookup y=some .free/\(X.env.kindOf y=some .cell\/X.env.kindOf y=some .free))/\jE X scope ys os
 | _,_=>False
noncomputable def kD (σ:St) (ix:List (Option Nat)):St:=ix.map fun o=>match o with | none=>none | some j=>(σ[j]?).getD none
def Wk:St->St->Prop
 | [],[]=>True
 | none::a,_::b=>Wk a b
 | some v::a,w::b=>w=some v/\Wk a b
 | _,_=>False
theorem Wk.len: ∀{a b:St},Wk a b->a.length=b.length
 | [],[],_=>rfl
 | none::a,_::b,h=>congrArg (· +1) (Wk.len (a:=a) (b:=b) h)
 | some _::a,_::b,h=>congrArg (· +1) (Wk.len (a:=a) (b:=b) h.2)
theorem Wk.get: ∀{a b:St} {i:Nat} {v:V},Wk a b->a[i]? =some (some v)->b[i]? =some (some v)
 | [],[],i,v,_,h=>by simp at h
 | none::a,x::b,0,v,_,h=>by simp at h
 | none::a,x::b,i+1,v,k,h=>by
  have:=Wk.get (a:=a) (b:=b) (i:=i) (v:=v) k (by simpa using h)
  simpa using this
 | some y::a,x::b,0,v,k,h=>by
  have e:y=v:=by simpa using h
  subst e
  simp[k.1]
 | some y::a,x::b,i+1,v,k,h=>by
  have:=Wk.get (a:=a) (b:=b) (i:=i) (v:=v) k.2 (by simpa using h)
  simpa using this
theorem jE.len {X:Cx} {scope:Scope}: ∀{N:List Str} {ix:List (Option Nat)},jE X scope N ix->ix.length=N.length
 | [],[],_=>rfl
 | _::ys,none::os,h=>congrArg (· +1) (jE.len (N:=ys) (ix:=os) h)
 | _::ys,some _::os,h=>congrArg (· +1) (jE.len (N:=ys) (ix:=os) h.2)
theorem jE.get {X:Cx} {scope:Scope}: ∀{N:List Str} {ix:List (Option Nat)} {i j:Nat},jE X scope N ix->ix[i]? =some (some j)-> ∃y,N[i]? =some y/\X.N[j]? =some y/\scope.names.lookup y=some .free/\(X.env.kindOf y=some .cell\/X.env.kindOf y=some .free)
 | [],[],i,j,_,h=>by simp at h
 | y::ys,none::os,0,j,_,h=>by simp at h
 | y::ys,none::os,i+1,j,k,h=>by
  obtain ⟨z,h1,h2⟩:=jE.get (N:=ys) (ix:=os) (i:=i) (j:=j) k (by simpa using h)
  exact ⟨z,by simpa using h1,h2⟩
 | y::ys,some j'::os,0,j,k,h=>by
  have e:j'=j:=by simpa using h
  subst e
  exact ⟨y,by simp,k.1⟩
 | y::ys,some j'::os,i+1,j,k,h=>by
  obtain ⟨z,h1,h2⟩:=jE.get (N:=ys) (ix:=os) (i:=i) (j:=j) k.2 (by simpa using h)
  exact ⟨z,by simpa using h1,h2⟩
theorem AH {σ:St} {ix:List (Option Nat)} {i:Nat} {v:V} (h:(kD σ ix)[i]? =some (some v)): ∃j,ix[i]? =some (some j)/\σ[j]? =some (some v):=by
 unfold kD at h
 rw[Xd]at h
 cases e:ix[i]? with
 | none=>rw[e]at h;cases h
 | some o=>
  rw[e]at h
  cases o with
  | none=>cases h
  | some j=>
   refine ⟨j,rfl,?_⟩
   have h':some ((σ[j]?).getD none)=some (some v):=h
   cases q:σ[j]? with
   | none=>rw[q]at h';cases h'
   | some z=>rw[q]at h';cases h';rfl
theorem xk {X:Cx} {pins:List (Addr×Obj)} {σ:St} {H:Hp} {s:Shared} (I:Inv X pins σ H s) {scope:Scope} {Nc:List Str} {ix:List (Option Nat)} (xl:jE X scope Nc ix) (gw: ∀y∈scope.names,y.2≠ .cell)
  (hX:scope.kind= .function) (FD: ∀y∈scope.names,y.2= .free->X.env.kindOf y.1=some .cell\/X.env.kindOf y.1=some .free) {fp:List Addr} (hf: ∀b∈fp,m5 X pins H b) (Ny: ∀b∈fp, ∃o,s.heap.get? b=some o)
  {C:Addr} {h':Heap} {t':Nat} {m0:Str->Option Value} (hC:s.heap.objs.size<=C) (O6:h'.Ns C m0) (k: ∀b o,s.heap.get? b=some o->h'.get? b=some o):
  Inv (bQ X scope C Nc s H fp) [] (kD σ ix) H { s with heap:=h',toks:=t' }:=by
 have K5: ∀y∈scope.names,y.2= .free-> ∃c,X.env.cells.lookup y.1=some c:=fun y hy e=>I.ok.has y.1 (FD y hy e)
 have kE: ∀{x:Str} {c:Addr},(iu X.env scope.names []).lookup x=some c->X.env.cells.lookup x=some c:=fun {x c} e=>lQ scope.names [] (fun y d q=>by simp at q) e
 refine ⟨⟨I.ok.mod,hX,I.ok.glob,I.ok.blt,hC,fun x y c h1 h2=>I.ok.inj x y c (kE h1) (kE h2),fun x hx=>?_,fun x c h=>?_,I.ok.hd,I.ok.frames, .inl rfl,fun b hb=>?_,I.bs,Xt I.ok.Fh I.sz,fun b o e hb=>?_,fun b hb hs=>?_,I.stack,I.yK⟩,
  rfl,I.bare,Un.kept k,⟨m0,O6,fun i x v h1 h2 h3=>?_⟩,fun x c e=>?_,I.b5.fresh hC,fun x c e=>I.iB x c (kE e),fun p hp=>absurd (show p∈([]:List (Addr×Obj)) from hp) (by simp),I.b5.kept k,?_⟩
 ·have yV:scope.names.lookup x=some .free:=kC gw hx
  exact oA scope.names [] K5 yV
 ·exact absurd (show false=true from h) (by decide)
 ·refine ⟨?_,fun x c e=>(hf b hb).2.2.2.2.1 x c (kE e)⟩
  obtain ⟨o,ho⟩:=Ny b hb
  exact Xm (Xq (Xf ho) hC)
 ·rcases (hf b hb).2.2.2.1 with z | z
  ·exact I.ok.BV b o e z
  ·exact absurd (Xq (Xf e) (Xt I.ok.Fh z)) (XN _)
 ·rcases WG.mp (I.oe b hs) with z | z
  ·exact (hf b hb).2.1 z
  ·exact (hf b hb).2.2.1 z
 ·obtain ⟨j,e1,e2⟩:=AH h2
  obtain ⟨y,y1,y2,y3,y4⟩:=xl.get e1
  have SH:Nc[i]? =some x:=h1
  rw[y1]at SH
  cases SH
  obtain ⟨m,hn,hl⟩:=I.loc
  have hv:MK X.env.scope x:=by
   rcases y4 with z | z
   ·exact .inr (.inl z)
   ·exact .inr (.inr z)
  obtain ⟨u,r,l⟩:=hl j x v y2 e2 hv
  refine ⟨u,r, .inr ⟨kB y3,?_⟩⟩
  rcases l with ⟨l,_⟩ | ⟨_,c,hc,q⟩
  ·rcases y4 with z | z
   ·rw[z]at l;cases l
   ·rw[z]at l;cases l
  ·obtain ⟨c',qj⟩:=oA scope.names [] K5 y3
   have e:=kE qj
   rw[hc]at e
   cases e
   obtain ⟨o,ho,hd⟩:=q
   exact ⟨c,qj,o,k _ _ ho,hd⟩
 ·obtain ⟨v,o,ho,hd⟩:=I.cell x c (kE e)
  exact ⟨v,o,k _ _ ho,hd⟩
 ·show (kD σ ix).length=Nc.length
  unfold kD
  rw[K4]
  exact xl.len
theorem AI {X:Cx} {pins yM:List (Addr×Obj)} {σ σ':St} {H H':Hp} {s s':Shared} (I:Inv X pins σ H s) {scope:Scope} {Nc:List Str} {fp:List Addr} {C D:Addr} (J:Inv (bQ X scope C Nc s H fp) yM σ' H' s')
  (hf: ∀b∈fp,m5 X pins H b) (hD:s.heap.objs.size<=D) (hC:s.heap.objs.size<=C) (Jg:D≠C) {aJ:List Value} {n:Nat} {acc:List V} (eD:s'.heap.get? D=some { cls:= .type "list",data:= .seq aJ.toArray n }) (r:Vals acc aJ)
  (hz:acc.length<=sizeLine) (nD:H' D=none) {oC:Obj} (eC:s'.heap.get? C=some oC) (dC: ∀v,oC.data≠ .cell v):Inv X (pins++[(C,oC)]) σ (upd H' D (.lst acc)) s':=by
 have lt: ∀b o,s.heap.get? b=some o->b≠D:=fun b o e=>Xm (Xq (Xf e) hD)
 have U:Un (yJ X.stack) fp H H' s.heap s'.heap:=J.base
 have U':Un (yJ X.stack) fp H (upd H' D (.lst acc)) s.heap s'.heap:=
  ⟨U.keep,U.slot,fun b o e n hx=>by rw[ay (lt b o e)];exact U.free b o e n hx,U.there,fun b xs e=>by rw[ay (az (U.qh b xs e) nD)];exact U.qh b xs e,
   fun b o u e=>by rw[ay (az (U.oa b o u e) nD)];exact U.oa b o u e,fun b ps e=>by
    obtain ⟨more,q⟩:=U.sj b ps e
    exact ⟨more,by rw[ay (az q nD)];exact q⟩⟩
 have b5:jX X.prog X.w (upd H' D (.lst acc)) s'.heap:=fun b u e=>by
  by_cases hb:b=D
  ·subst hb
   rw[ah]at e;cases e
   exact ⟨hz,aJ,n,r,eD⟩
  ·rw[ay hb]at e
   exact (J.b5 b u e).uO (fun c v _ q=>q) (fun c q=>by rw[ay (az q nD)];exact q) fun c xs q=>by rw[ay (az q nD)];exact q
 have I':Inv X pins σ (upd H' D (.lst acc)) s':=I.MP (ch:=fp) J.os U' b5 J.bare fun b hb=>by
  obtain ⟨_,h1,_,h2,h3,h4⟩:=hf b hb
  exact ⟨h2,h1,h3,h4⟩
 refine I'.km fun p hp=>?_
 rcases WJ.mp hp with z | z
 ·exact I'.pin p (Xj _ z)
 ·have e:p=(C,oC):=O8.mp z
  subst e
  refine ⟨eC,?_,ZD (Xq I.lt hC),I.Ir hC,dC⟩
  rw[ay (Ne.symm Jg)]
  exact J.free
def PF (Y:Cx) (ifs:List Expr) (tc:TT):Prop:=
 ∀(pins:List (Addr×Obj)) (s:Shared) (σ:St) (H:Hp) (Q:Bool->Hp->Prop),Inv Y pins σ H s->tc σ H Q->
  wpAny (model Y.prog Y.w) Y.A (forIn ifs true fun c r=>if r=true then do let ok <-isTrue c Y.env (eval c Y.env);pure (ForInStep.yield ok) else pure (ForInStep.yield r)) (TP Y pins σ Q) Y.xe s
def Nz:TT:=fun _ H Q=>Q true H
theorem iI {Y:Cx}:PF Y [] Nz:=fun _ _ _ H _ I h=>wpAny_tests_nil ⟨H,I,h⟩
theorem sO {Y:Cx} {c:Expr} {tc:TT} (h:PT Y c tc):PF Y [c] tc:=fun pins s σ H Q I hw=>wpAny_tests_one (h pins s σ H Q I hw)
def qS (J:It) (σc:St) (g:TG) (tc:TT) (te:TE) (Q:VK) (H1:Hp):Prop:=
 ∃W:Nat->Nat->List V->Hp->Prop,(∃m,W 0 m [] H1)/\ ∀i m acc H,W i m acc H->acc.length<sizeLine/\
 ((J.stop i H/\ ∀D,H D=none->Q (.ref D) (upd H D (.lst acc)))\/
  (J.go i H/\ ∀x H',J.B2 i H x H'->g x σc H' fun σ2 H2=>Wk σc σ2/\tc σ2 H2 fun b H3=>if b=true then te σ2 H3 fun v H4=> ∃m',m'<m/\W (i+1) m' (acc++[v]) H4 else ∃m',m'<m/\W (i+1) m' acc H3))
def u7 (wi:TI) (ix:List (Option Nat)) (g:TG) (tc:TT) (te:TE):TE:=fun σ H Q=>wi σ H fun J H1=>qS J (kD σ ix) g tc te Q H1
theorem qT {X:Cx} {tg iter elt:Expr} {ifs:List Expr} {scope:Scope} {pos:Pos} {wi:TI} {g:TG} {tc:TT} {te:TE} {Nc:List Str} {ix:List (Option Nat)} (hi:PI X tg iter wi) (jK:X.calm=true) (xl:jE X scope Nc ix)
  (gw: ∀y∈scope.names,y.2≠ .cell) (hX:scope.kind= .function) (FD: ∀y∈scope.names,y.2= .free->X.env.kindOf y.1=some .cell\/X.env.kindOf y.1=some .free)
  (hG: ∀C s H fp,PG (bQ X scope C Nc s H fp) tg g) (hT: ∀C s H fp,PF (bQ X scope C Nc s H fp) ifs tc) (hE: ∀C s H fp,PE (bQ X scope C Nc s H fp) elt te)
  {pins:List (Addr×Obj)} {s:Shared} {σ:St} {H:Hp} {Q:VK} (I:Inv X pins σ H s) (h:u7 wi ix g tc te σ H Q) {RR:Value->Addr->Result->Shared->Prop}
  (UE: ∀(D C:Addr) (oC:Obj) (m:Str->Option Value) (H':Hp) (s':Shared),s'.heap.get? C=some oC->s'.heap.Ns C m->m5 X pins H' C->Inv X (pins++[(C,oC)]) σ H' s'->Q (.ref D) H'->RR (.ref D) C (.ok .next) s'):
  wpAny (model X.prog X.w) X.A (eval iter X.env) (fun v s1=>wpAny (model X.prog X.w) X.A (pyIter v) (fun it s2=>wpAny (model X.prog X.w) X.A (newList []) (fun acc s3=>
   wpAny (model X.prog X.w) X.A (newFunctionEnv scope X.env.globals (iu X.env scope.names []) [] X.env.qual none .none (some X.env)) (fun NA s4=>
    codeAny (model X.prog X.w) X.A (.compStart (.ListComp elt [⟨tg,iter,ifs,0⟩] scope pos) 0 it acc { NA with scope:=relabel scope X.env }) (RR acc NA.locals) s4) X.xe s3) X.xe s2) X.xe s1) X.xe s:=by
 refine b_ (hi pins s σ H _ I h) fun v s1 h1=>b_ h1 fun Qv s2 h2=>?_
 obtain ⟨it,fp,tn,J,H2,e,I2,T,wH,f2,W,⟨m0,w0⟩,turn⟩:=h2
 subst e
 refine wpAny_newObj_type (wpAny_newFunctionEnv gw (by intro y hy;simp at hy) (fun h₁ Jh FE=>?_) hX)
 dsimp only at Jh FE ⊢
 generalize HC:s2.heap.push { cls:= .type "list",dict:=none,data:= .seq ([]:List Value).toArray }=P2 at Jh FE ⊢
 have hC:P2.objs.size=s2.heap.objs.size+1:=by rw[<-HC,Zd]
 have Jg:s2.heap.objs.size≠P2.objs.size:=by rw[hC];exact Xm (Yr _)
 have Ji:s2.heap.objs.size<=P2.objs.size:=by rw[hC];exact Yp _
 have Iv: ∀b,b<s2.heap.objs.size->b≠P2.objs.size:=fun b hb=>by rw[hC];exact Xm (YG hb)
 have old: ∀b o,s2.heap.get? b=some o->h₁.get? b=some o:=fun b o e=>FE.extBut b o (Iv b (Xf e)) (SF _ (HC▸SF _ e))
 have xm:h₁.get? s2.heap.objs.size=some { cls:= .type "list",data:= .seq ([]:List Value).toArray }:=FE.extBut _ _ Jg (SF _ (HC▸Xe _ rfl))
 have SI:tn 0 h₁:=T.keep 0 _ _ wH fun b _ o e=>old b o e
 have Ny: ∀b∈fp, ∃o,s2.heap.get? b=some o:=fun b hb=>let ⟨o,e,_⟩:=T.obj 0 _ wH b hb;⟨o,e⟩
 have SJ: ∀b∈fp,s2.heap.objs.size≠b:=fun b hb=>let ⟨o,e⟩:=Ny b hb;ZD (Xf e)
 have IY:=xk I2 xl gw hX FD f2 Ny (t':=s2.toks+([]:List (Str×Value)).length) Ji Jh old
 have QU: ∀b,s2.heap.objs.size<=b->b∉yJ X.stack:=fun b hb hs=>by
  rcases WG.mp (I2.oe b hs) with z | z
  ·exact absurd (Xq I2.lt hb) (by rw[z];exact XN _)
  ·exact I2.Ir hb z
 have kE: ∀{x:Str} {c:Addr},(iu X.env scope.names []).lookup x=some c->X.env.cells.lookup x=some c:=fun {x c} e=>lQ scope.names [] (fun y d q=>by simp at q) e
 have NB: ∀x c,(iu X.env scope.names []).lookup x=some c->c≠s2.heap.objs.size:=fun x c e z=>by
  obtain ⟨v,q⟩:=I2.cell x c (kE e)
  exact absurd (q.lt) (by rw[z];exact XN _)
 have fY: ∀{pl:List (Addr×Obj)} {H':Hp},(∀p∈pl,p.1=s2.heap.objs.size)->(∀b∈fp,H' b=none)-> ∀b∈fp,m5 (bQ X scope P2.objs.size Nc s2 H2 fp) pl H' b:=fun {pl H'} jI hn b hb=>by
  refine ⟨hn b hb,?_,?_, .inl hb,fun x c e=>(f2 b hb).2.2.2.2.1 x c (kE e),fun p hp=>?_⟩
  ·obtain ⟨o,e⟩:=Ny b hb
   exact Iv b (Xf e)
  ·intro hs
   rcases WG.mp (I2.oe b hs) with z | z
   ·exact (f2 b hb).2.1 z
   ·exact (f2 b hb).2.2.1 z
  ·rw[jI p hp]
   exact SJ b hb
 have loop: ∀s₃:Shared,s₃={ s2 with heap:=h₁,toks:=s2.toks+([]:List (Str×Value)).length }->
   codeAny (model X.prog X.w) X.A (.compLoop (.ListComp elt [⟨tg,iter,ifs,0⟩] scope pos) 0 (.ref it) (.ref s2.heap.objs.size) (compEnvC scope (iu X.env scope.names []) P2.objs.size X.env)) (RR (.ref s2.heap.objs.size) P2.objs.size) s₃:=by
  rintro s₃ rfl
  refine sN (fun n s'=> ∃i acc aJ nn H',Inv (bQ X scope P2.objs.size Nc s2 H2 fp) [] (kD σ ix) H' s'/\tn i s'.heap/\(∀b∈fp,H' b=none)/\
   s'.heap.get? s2.heap.objs.size=some { cls:= .type "list",data:= .seq (aJ:List Value).toArray nn }/\Vals acc aJ/\H' s2.heap.objs.size=none/\W i n acc H') ?_ m0
   ⟨0,[],[],0,H2,IY,SI,fun b hb=>(f2 b hb).1,xm, .nil,I2.b5.fresh (SA _),w0⟩
  rintro n s3 ⟨i,acc,aJ,nn,H3,I3,M1,M3,eD,rv,nD,w3⟩
  obtain ⟨hz,alt⟩:=turn i n acc H3 w3
  have IP:Inv (bQ X scope P2.objs.size Nc s2 H2 fp) [(s2.heap.objs.size,{ cls:= .type "list",data:= .seq aJ.toArray nn })] (kD σ ix) H3 s3:=I3.km fun p hp=>by
   have e:p=(s2.heap.objs.size,_):=O8.mp hp
   subst e
   refine ⟨eD,nD,Jg,QU _ (SA _),fun v z=>?_⟩
   have z':Data.seq aJ.toArray nn=Data.cell v:=z
   cases z'
  have jI: ∀p∈[(s2.heap.objs.size,({ cls:= .type "list",data:= .seq aJ.toArray nn }:Obj))],p.1=s2.heap.objs.size:=fun p hp=>by
   have e:p=(s2.heap.objs.size,_):=O8.mp hp
   rw[e]
  rcases alt with ⟨stop,fin⟩ | ⟨go,step⟩
  ·refine b_ (T.done (bQ X scope P2.objs.size Nc s2 H2 fp) rfl rfl rfl jK i _ s3 _ H3 E3 IP (fY jI M3) M1 stop) fun r s4 zz=>?_
   obtain ⟨hr,I4⟩:=zz
   subst hr
   obtain ⟨m,hn,_⟩:=id I4.loc
   obtain ⟨oC,es,ep,eC,dC,_⟩:=id hn
   have UG:=(I4.pin (s2.heap.objs.size,_) (Xj _ (O8.mpr rfl))).1
   have QV:=fin _ nD
   refine UE _ _ oC m _ s4 eC hn ?_ (AI I2 I4 f2 (SA _) Ji Jg UG rv (XD hz) nD eC fun v z=>?_) QV
   ·refine I2.og Ji ?_
    rw[ay (Ne.symm Jg)]
    exact I4.free
   ·rw[dC]at z;cases z
  ·refine b_ (T.item (bQ X scope P2.objs.size Nc s2 H2 fp) rfl rfl rfl jK i _ s3 _ H3 E3 IP (fY jI M3) M1 go) fun r s4 zz=>?_
   obtain ⟨u,hr,h4⟩:=zz
   subst hr
   refine b_ h4 fun _ s5 zz=>?_
   obtain ⟨x,H5,I5,r5,y5,IH,Qz⟩:=zz
   have QA:=I5.pinned (fY jI Qz) (T.obj _ _ IH)
   refine b_ (hG _ s2 H2 fp _ s5 _ H5 x u _ QA r5 (step x H5 y5)) fun _ s6 zz=>?_
   obtain ⟨σ6,H6,I6,wk,q6⟩:=zz
   refine b_ (hT _ s2 H2 fp _ s6 σ6 H6 _ I6 q6) fun b s7 zz=>?_
   obtain ⟨H7,I7,q7⟩:=zz
   have again: ∀{H9:Hp} {s9:Shared} {m':Nat},Inv (bQ X scope P2.objs.size Nc s2 H2 fp) ([(s2.heap.objs.size,({ cls:= .type "list",data:= .seq aJ.toArray nn }:Obj))]++oh fp s5.heap) σ6 H9 s9->
     (s9.heap.get? s2.heap.objs.size=some { cls:= .type "list",data:= .seq aJ.toArray nn }/\H9 s2.heap.objs.size=none)/\tn (i+1) s9.heap/\(∀b∈fp,H9 b=none)/\Inv (bQ X scope P2.objs.size Nc s2 H2 fp) [] (kD σ ix) H9 s9:=fun {H9 s9 m'} I9=>by
    have pD:=I9.pin (s2.heap.objs.size,_) (Xj _ (X0 _ (O8.mpr rfl)))
    refine ⟨⟨pD.1,pD.2.1⟩,T.keep _ _ _ IH fun b hb o e=>(I9.pin (b,o) (Xj _ (Xj _ (gN hb e)))).1,fun b hb=>?_,?_⟩
    ·obtain ⟨o,e,d⟩:=T.obj _ _ IH b hb
     exact (I9.pin (b,o) (Xj _ (Xj _ (gN hb e)))).2.1
    ·exact (I9.weak wk.len fun i v e=>wk.get e).km fun p hp=>absurd hp (by simp)
   cases b with
   | false=>
    rw[if_neg Xi]at q7 ⊢
    obtain ⟨m',hm,w7⟩:=q7
    obtain ⟨⟨e7,n7⟩,t7,f7,J7⟩:=again (m':=0) I7
    exact ⟨m',hm,i+1,acc,aJ,nn,H7,J7,t7,f7,e7,rv,n7,w7⟩
   | true=>
    rw[if_pos rfl]at q7 ⊢
    refine b_ (hE _ s2 H2 fp _ s7 σ6 H7 _ I7 q7) fun y s8 zz=>?_
    obtain ⟨v,H8,I8,r8,m',hm,w8⟩:=zz
    obtain ⟨⟨e8,n8⟩,t8,f8,J8⟩:=again (m':=0) I8
    refine wpAny_list_append_plain (items:=aJ.toArray) ⟨nn,e8⟩ (fun h9 UH SK=>?_) (by rw[WH, <-rv.length];exact XD hz)
    obtain ⟨n9,e9⟩:=UH
    refine ⟨m',hm,i+1,acc++[v],aJ++[y],n9,H8,J8.turned (t':=s8.toks) (fun b o hb e=>(SK.2 b hb).trans e) n8 Jg (.inr (SA _)) NB (fun p hp=>absurd hp (by simp[bQ])),?_,f8,?_,rv.append (.cons r8 .nil),n8,w8⟩
    ·exact T.keep _ _ _ t8 fun b hb o e=>(SK.2 b (Ne.symm (SJ b hb))).trans e
    ·simpa using e9
 exact codeAny_compStart_list (loop _ rfl) (T.self _ 0 _ _ _ SI (loop _ rfl))
theorem FF {X:Cx} {tg iter elt:Expr} {ifs:List Expr} {scope:Scope} {pos:Pos} {wi:TI} {g:TG} {tc:TT} {te:TE} (Nc:List Str) (ix:List (Option Nat)) (hi:PI X tg iter wi) (jK:X.calm=true) (xl:jE X scope Nc ix)
  (gw: ∀y∈scope.names,y.2≠ .cell) (hX:scope.kind= .function) (FD: ∀y∈scope.names,y.2= .free->X.env.kindOf y.1=some .cell\/X.env.kindOf y.1=some .free)
  (xn: ∀x∈scope.names,x.2= .local->scope.names.lookup x.1=some .local)
  (hG: ∀C s H fp,PG (bQ X scope C Nc s H fp) tg g) (hT: ∀C s H fp,PF (bQ X scope C Nc s H fp) ifs tc) (hE: ∀C s H fp,PE (bQ X scope C Nc s H fp) elt te)
  (hs: ∀x,foldedSetIterable iter X.env x=pure x:=by intro _;rfl):PE X (.ListComp elt [⟨tg,iter,ifs,0⟩] scope pos) (u7 wi ix g tc te):=by
 intro pins s σ H Q I h
 rw[eval_ListComp]
 have K5: ∀y∈scope.names,y.2= .free-> ∃c,X.env.cells.lookup y.1=some c:=fun y hy e=>I.ok.has y.1 (FD y hy e)
 refine wpAny_comprehension_free (use:=none) rfl hs (jJ K5) hX xn (qT hi jK xl gw hX FD hG hT hE I h (RR:=fun acc C=>compPost (model X.prog X.w) X.A X.xe none (EP X pins σ Q) acc C) ?_)
 intro D C oC m H' s' eC hn fC I' q
 refine ⟨m,hn,fun h' NC=>⟨.ref D,H',?_,rfl,q⟩⟩
 exact I'.iE.turned (t':=s'.toks) (fun b o hb e=>(NC.2 b hb).trans e) fC.1 fC.2.1 fC.2.2.2.1 fC.2.2.2.2.1 fC.2.2.2.2.2
theorem FG {X:Cx} {i:Nat} {x:Str} {tg iter elt:Expr} {ifs:List Expr} {scope:Scope} {pos Cj pos':Pos} {wi:TI} {g:TG} {tc:TT} {te:TE} (Nc:List Str) (ix:List (Option Nat)) (hN:X.N.Nodup) (ND:X.N[i]? =some x) (hx:Loc X.env.scope x)
  (NF:swapsWith (.ListComp elt [⟨tg,iter,ifs,0⟩] scope pos) (some (.Name x pos')) Cj.line X.env=pure true) (hi:PI X tg iter wi) (jK:X.calm=true) (xl:jE X scope Nc ix)
  (gw: ∀y∈scope.names,y.2≠ .cell) (hX:scope.kind= .function) (FD: ∀y∈scope.names,y.2= .free->X.env.kindOf y.1=some .cell\/X.env.kindOf y.1=some .free)
  (xn: ∀x∈scope.names,x.2= .local->scope.names.lookup x.1=some .local)
  (hG: ∀C s H fp,PG (bQ X scope C Nc s H fp) tg g) (hT: ∀C s H fp,PF (bQ X scope C Nc s H fp) ifs tc) (hE: ∀C s H fp,PE (bQ X scope C Nc s H fp) elt te)
  (hs: ∀x,foldedSetIterable iter X.env x=pure x:=by intro _;rfl) (hf:X.fn x=true\/X.env.scope.names.lookup x=some .local:=by first | exact .inl rfl | exact .inr rfl | assumption):
  PS X (.Assign [.Name x pos'] (.ListComp elt [⟨tg,iter,ifs,0⟩] scope pos) Cj) (Fl (u7 wi ix g tc te) (uS i)):=by
 intro pins s σ H E I h
 have K5: ∀y∈scope.names,y.2= .free-> ∃c,X.env.cells.lookup y.1=some c:=fun y hy e=>I.ok.has y.1 (FD y hy e)
 rw[exec_Assign_Name_used _ _ _ _ NF]
 refine wpAny_bind (wpAny_standAt (wpAny_bind ?_))
 show wpAny _ X.A (do let _ <-comprehension (.ListComp elt [⟨tg,iter,ifs,0⟩] scope pos) scope X.env _ (newList []) false (eval iter X.env) (some (assign (.Name x pos') X.env))) _ _ s
 refine wpAny_bind (wpAny_mono (wpAny_comprehension_free (use:=some (assign (.Name x pos') X.env)) (Q:=fun _ s'=>SP X pins E .next s') rfl hs (jJ K5) hX xn
  (qT hi jK xl gw hX FD hG hT hE I h (RR:=fun acc C=>compPost (model X.prog X.w) X.A X.xe (some (assign (.Name x pos') X.env)) (fun _ s'=>SP X pins E .next s') acc C) ?_)) (fun _ s' hq=>wpAny_pure (wpAny_pure hq)) fun _ _ e=>e)
 intro D C oC m H' s' eC hn fC I' q
 show wpAny _ X.A (assign (.Name x pos') X.env (.ref D)) _ _ _
 refine wpAny_assign_Name (ko I' hN ND hx (show RelV (.ref D) _ from rfl) (fun Ng SM=>?_) hf)
 have pC:=SM.pin (C,oC) (Xj _ (Xj _ (O8.mpr rfl)))
 refine ⟨m,?_,fun h' NC=>?_⟩
 ·obtain ⟨o,es,ep,e,r⟩:=hn
  rw[eC]at e;cases e
  exact ⟨oC,es,ep,pC.1,r⟩
 ·refine ⟨_,H',SM.iE.turned (t':=Ng.toks) (fun b o hb e=>(NC.2 b hb).trans e) fC.1 fC.2.1 fC.2.2.2.1 fC.2.2.2.2.1 fC.2.2.2.2.2,q⟩
noncomputable def S (l:List Nat):Str:=⟨l.toArray⟩
theorem eJ (l:List Nat):(S l).cps.toList=l:=by simp[S]
theorem cR (l:List Nat):(S l).length=l.length:=by simp[S,Str.length]
theorem lR (l:List Nat):(S l).cps.size=l.length:=by simp[S]
theorem Ck {a b:List Nat} (h:S a=S b):a=b:=by
 have:=congrArg (fun x:Str=>x.cps.toList) h
 simpa [S]using this
theorem NG (x:Str):x=S x.cps.toList:=by cases x;simp[S]
theorem HD (a b:List Nat):S a++S b=S (a++b):=by
 apply Str.ext'
 apply Zz.mp
 simp[S,Str.cps_append]
theorem HE {a b:List Nat}:decide (V.str (S a)=V.str (S b))=decide (a=b):=by
 by_cases h:a=b
 ·subst h;simp
 ·rw[decide_eq_false h,decide_eq_false]
  intro q
  exact h (Ck (V.str.inj q))
noncomputable def cut {α:Type} (xs:List α) (lo hi:Option Int):List α:=(xs.drop (HT.hZ xs.length 0 lo)).take (HT.hZ xs.length xs.length hi - HT.hZ xs.length 0 lo)
theorem u9 (n d:Nat) (v:Int):max 0 (min (if v<0 then v+(n:Int) else v) (n:Int))=((HT.hZ n d (some v):Nat):Int):=by
 show _=(((if v<0 then (v+(n:Int)).toNat else min v.toNat n):Nat):Int)
 by_cases hv:v<0
 ·simp only[if_pos hv];omega
 ·simp only[if_neg hv];omega
theorem mS (lo hi:Option Int) (n:Nat):Builtin.Str.strSliceIndices lo hi 1 n=(List.range (HT.hZ n n hi - HT.hZ n 0 lo)).map (HT.hZ n 0 lo+ ·):=by
 have h1:(1:Int)>0:=by decide
 rw[<-sliceRange_one]
 unfold Builtin.Str.strSliceIndices
 simp only[h1,if_true]
 congr 1
 ·cases lo with
  | none=>rfl
  | some v=>exact u9 n 0 v
 ·cases hi with
  | none=>rfl
  | some v=>exact u9 n n v
theorem FH (l:List Nat) (lo hi:Option Int):Txt.slice (S l) lo hi=S (cut l lo hi):=by
 have hx:((Builtin.Str.strSliceIndices lo hi 1 (S l).length).filterMap ((S l).cps[·]?))=cut l lo hi:=by
  rw[cR,mS,pick_run,eJ]
  rfl
 have hlen:(Builtin.Str.strSliceIndices lo hi 1 (S l).length).length=HT.hZ l.length l.length hi - HT.hZ l.length 0 lo:=by
  rw[cR,mS,K4,Zn]
 unfold Txt.slice
 by_cases hc:((1:Int)==1&&(Builtin.Str.strSliceIndices lo hi 1 (S l).length).length==(S l).length)=true
 ·rw[if_pos hc]
  rw[hlen,cR]at hc
  have e:HT.hZ l.length l.length hi - HT.hZ l.length 0 lo=l.length:=by simpa using hc
  have h2:=HT.IQ l.length l.length (SA _) hi
  have e0:HT.hZ l.length 0 lo=0\/l.length=0:=by omega
  unfold cut
  rw[e]
  rcases e0 with z | z
  ·rw[z];simp
  ·have:l=[]:=Zc z
   subst this
   simp
 ·rw[if_neg hc]
  rw[hx]
  rfl
section
variable {X:Cx}
theorem iJ {x:Str} {j pos} (l:List Nat) (h:x=S l):PE X (.Constant (.str x) j pos) (tC (.str (S l))):=by
 subst h
 exact Iz
def Cm:R2:=fun x y H Q=> ∃a b,x= .str (S a)/\y= .str (S b)/\a.length+b.length<=sizeLine/\Q (.str (S (a++b))) H
theorem gP:iG X (binaryOp .Add) Cm:=by
 intro pins s σ H x y v u Q I rx ry h
 obtain ⟨a,b,rfl,rfl,hz,q⟩:=h
 exact wY pins s σ H _ _ v u Q I rx ry ⟨S a,S b,rfl,rfl,by rw[cR,cR];exact hz,by rw[HD];exact q⟩
theorem Cn:iG X (inplaceOp .Add) Cm:=by
 intro pins s σ H x y v u Q I rx ry h
 obtain ⟨a,b,rfl,rfl,hz,q⟩:=h
 exact uV pins s σ H _ _ v u Q I rx ry ⟨S a,S b,rfl,rfl,by rw[cR,cR];exact hz,by rw[HD];exact q⟩
def NH:R2:=fun x y H Q=> ∃l i c,x= .str (S l)/\y= .int i/\l.length<=sizeLine/\m6 l i=some c/\Q (.str (S [c])) H
theorem gQ:IS X NH:=by
 intro value slice pins s σ H x y v u Q I rx ry h hs
 obtain ⟨l,i,c,rfl,rfl,hz,he,q⟩:=h
 exact IU value slice pins s σ H _ _ v u Q I rx ry ⟨S l,i,c,rfl,rfl,by rw[cR];exact hz,by rw[eJ];exact he,q⟩ hs
def QW:V->Option Int->Option Int->Hp->VK->Prop:=fun x lo hi H Q=> ∃l,x= .str (S l)/\l.length<=sizeLine/\Q (.str (S (cut l lo hi))) H
theorem m8:O5 X QW:=by
 intro pins s σ H x v vl vu lo hi sl Q I rx hs pl pu h
 obtain ⟨l,rfl,hz,q⟩:=h
 obtain ⟨t,rfl⟩:=rx
 refine ⟨"str",_,F.slot_str_getitem.lookup,typeIs_str _ _ _,?_⟩
 have key: ∀(a b:Option (Int×Tok)),vl=partValue a->vu=partValue b->a.map (·.1)=lo->b.map (·.1)=hi->wpAny (model X.prog X.w) X.A (getItem (.str (S l) t) (.ref sl)) (EP X pins σ Q) X.xe s:=by
  rintro a b rfl rfl rfl rfl
  obtain ⟨o,e,c,d⟩:=hs
  refine wpAny_getItem_str_slice (l:=a) (u:=b) (st:=none) ⟨o,e,c,d⟩ rfl (post_val_or_str ⟨?_,fun t' k=>?_⟩)
  ·exact Xt (Txt.slice_le (S l) _ _) (by rw[cR];exact hz)
  ·exact ⟨.str (S (cut l _ _)),H,I.tok _,⟨t',congrArg (fun z=>Value.str z t') (FH l _ _)⟩,q⟩
 cases pl with
 | none=>
  cases pu with
  | none=>exact key none none rfl rfl rfl rfl
  | int i ti=>exact key none (some (i,ti)) rfl rfl rfl rfl
 | int i ti=>
  cases pu with
  | none=>exact key (some (i,ti)) none rfl rfl rfl rfl
  | int j tj=>exact key (some (i,ti)) (some (j,tj)) rfl rfl rfl rfl
theorem aR:dB X (.builtin "len") (fun xs H Q=> ∃l,xs=[.str (S l)]/\l.length<=sizeLine/\Q (.int l.length) H):=by
 intro pins s σ H xs us Q I r h
 obtain ⟨l,rfl,hz,q⟩:=h
 exact sL pins s σ H _ us Q I r ⟨S l,rfl,by rw[cR];exact hz,by rw[cR];exact q⟩
noncomputable def cg (l:List Nat):List V:=l.map fun c=>V.str (S [c])
theorem xo {l:List Nat}: ∀{acc:List Value},acc.length=l.length->(∀j v,acc[j]? =some v->SignAt (S l) j v)->Vals (cg l) acc:=by
 induction l with
 | nil=>intro acc h _;have:acc=[]:=Zc h;subst this;exact .nil
 | cons c l ih=>
  intro acc h k
  cases acc with
  | nil=>cases h
  | cons a acc=>
   refine .cons ?_ (ih (by simpa using h) fun j v e=>?_)
   ·obtain ⟨c',u,e1,e2⟩:=k 0 a rfl
    have:c=c':=by simpa [S]using e1
    subst this
    exact ⟨u,e2⟩
   ·obtain ⟨c',u,e1,e2⟩:=k (j+1) v (by simpa using e)
    exact ⟨c',u,by simpa [S]using e1,e2⟩
theorem oB (hc:X.calm=true):dB X (.type "list") (fun xs H Q=> ∃l,xs=[.str (S l)]/\l.length<=sizeLine/\ ∀p,H p=none->Q (.ref p) (upd H p (.lst (cg l)))):=by
 intro pins s σ H xs us Q I r h
 obtain ⟨l,rfl,hz,q⟩:=h
 obtain ⟨u,rfl,t,rfl⟩:=vals1 r
 refine call_list_str (I.ok.hd hc) (S l) t (fun h' tk eK c' hk e xm=>?_) (by rw[lR];exact hz)
 obtain ⟨h1,h2⟩:=xm
 rw[lR]at h1
 refine ⟨.ref s.heap.objs.size,_,I.laid (t':=tk) (o:= .lst (cg l)) hk (SA _) ?_,rfl,q _ I.fresh⟩
 exact ⟨by unfold cg;rw[K4];exact hz,eK.toList,c',xo (by simpa using h1) (fun j v e=>h2 j v (by simpa using e)),by simpa using e⟩
def QX:R2:=fun x y H Q=> ∃c l,x= .str (S [c])/\y= .str (S l)/\Q (.bl (decide (c∈l))) H
theorem sP:iG X (compareOp .In) QX:=by
 intro pins s σ H x y v u Q I rx ry h
 obtain ⟨c,l,rfl,rfl,q⟩:=h
 refine Ar pins s σ H _ _ v u Q I rx ry ⟨S [c],S l,rfl,rfl,?_⟩
 have e:=StrLaws.found_one (S l) c
 rw[eJ]at e
 rw[show (S [c])=(⟨#[c]⟩:Str) from rfl,e]
 exact q
end
theorem qU (s sub:Str) (hi:Nat): ∀(l:List Nat) (st:Array Nat×Nat),1<=st.fst.size->(forIn l st (StrLaws.occBody s sub hi 1)).run.fst=st.fst
 | [],st,h=>rfl
 | a::l,st,h=>by
  rw[Zf]
  unfold StrLaws.occBody
  rw[if_neg (fun z=>absurd z.1.1.1 (Nat.not_lt.mpr h))]
  exact qU s sub hi l _ h
theorem occ_first (s sub:Str) (hi:Nat): ∀(l:List Nat) (free:Nat),(∀i∈l,free<=i)->
  (forIn l ((#[]:Array Nat),free) (StrLaws.occBody s sub hi 1)).run.fst.toList=(l.find? fun i=>decide (i+sub.length<=hi)&&Builtin.Str.subAt s sub i).toList
 | [],free,_=>rfl
 | a::l,free,hf=>by
  rw[Zf,Yv]
  unfold StrLaws.occBody
  have ha:free<=a:=hf a Uz
  by_cases hc:a+sub.length<=hi/\Builtin.Str.subAt s sub a=true
  ·rw[if_pos ⟨⟨⟨by simp,ha⟩,hc.1⟩,hc.2⟩]
   have:(decide (a+sub.length<=hi)&&Builtin.Str.subAt s sub a)=true:=by simp[hc]
   rw[this]
   show (forIn l (#[].push a,a+sub.length) (StrLaws.occBody s sub hi 1)).run.fst.toList=_
   rw[qU s sub hi l _ (by simp)]
   rfl
  ·rw[if_neg (fun z=>hc ⟨z.1.2,z.2⟩)]
   have:(decide (a+sub.length<=hi)&&Builtin.Str.subAt s sub a)=false:=by
    cases h1:decide (a+sub.length<=hi) with
    | false=>rfl
    | true=>
     cases h2:Builtin.Str.subAt s sub a with
     | false=>rfl
     | true=>exact absurd ⟨of_decide_eq_true h1,h2⟩ hc
   rw[this]
   exact occ_first s sub hi l free fun i lS=>hf i (UB _ lS)
theorem subAt_one (l:List Nat) (c i:Nat):Builtin.Str.subAt (S l) (S [c]) i=(l[i]? ==some c):=by
 unfold Builtin.Str.subAt
 rw[cR]
 show ((S l).cps.extract i (i+1)== #[c])=_
 have e:((S l).cps.extract i (i+1))=((l.drop i).take 1).toArray:=by
  apply Zz.mp
  simp[S,List.take_drop]
 rw[e]
 by_cases h:i<l.length
 ·have e2:(l.drop i).take 1=[l[i]]:=by
   rw[X1 h];rfl
  rw[e2,Jd h]
  by_cases hc:l[i]=c
  ·rw[hc];simp
  ·have h1:([l[i]].toArray== #[c])=false:=by
    rw[beq_eq_false_iff_ne]
    intro z
    apply hc
    have:=congrArg Array.toList z
    simpa using this
   have h2:(some l[i]==some c)=false:=by simpa using hc
   rw[h1,h2]
 ·have e2:(l.drop i).take 1=[]:=by rw[Y4 (by omega)];rfl
  rw[e2,Ys (by omega)]
  rfl
theorem oE (l:List Nat) (c:Nat): ∀(k n:Nat),k+n=l.length+1->((List.range' k n).find? fun i=>decide (i+1<=l.length)&&(l[i]? ==some c))=if c∈l.drop k then some (k+(l.drop k).idxOf c) else none
 | k,0,h=>by
  have:l.drop k=[]:=Y4 (by omega)
  rw[this];simp
 | k,n+1,h=>by
  rw[List.range'_succ,Yv]
  by_cases hk:k<l.length
  ·have e:l.drop k=l[k]::l.drop (k+1):=X1 hk
   rw[Jd hk,e]
   by_cases hc:l[k]=c
   ·have:(decide (k+1<=l.length)&&(some l[k]==some c))=true:=by simp[hc];omega
    rw[this,if_pos (by simp[hc])]
    simp[hc]
   ·have:(decide (k+1<=l.length)&&(some l[k]==some c))=false:=by simp[hc]
    rw[this,oE l c (k+1) n (by omega)]
    have qj: ¬c=l[k]:=fun z=>hc z.symm
    by_cases hm:c∈l.drop (k+1)
    ·rw[if_pos hm,if_pos (UB _ hm),List.idxOf_cons]
     have:(l[k]==c)=false:=by simpa using hc
     rw[this]
     show some (k+1+List.idxOf c (List.drop (k+1) l))=some (k+(List.idxOf c (List.drop (k+1) l)+1))
     congr 1
     omega
    ·rw[if_neg hm,if_neg (by intro z;rcases WG.mp z with z | z;exact qj z;exact hm z)]
  ·have:l.drop k=[]:=Y4 (by omega)
   have e1:(decide (k+1<=l.length)&&(l[k]? ==some c))=false:=by
    rw[decide_eq_false (by omega)];rfl
   have e2:l.drop (k+1)=[]:=Y4 (by omega)
   rw[e1,oE l c (k+1) n (by omega),this,e2]
   simp
theorem HF (l:List Nat) (c:Nat):Builtin.Str.occurrences (S l) (S [c]) 0 (S l).length 1=if c∈l then [l.idxOf c] else []:=by
 rw[StrLaws.occ_eq,occ_first _ _ _ _ 0 fun _ _=>Xb _]
 have e:(fun i=>decide (i+(S [c]).length<=(S l).length)&&Builtin.Str.subAt (S l) (S [c]) i)=fun i=>decide (i+1<=l.length)&&(l[i]? ==some c):=by
  funext i
  rw[subAt_one,cR,cR]
  rfl
 rw[e,cR,Nat.sub_zero,oE l c 0 (l.length+1) (by omega),List.drop_zero]
 by_cases h:c∈l
 ·rw[if_pos h,if_pos h,ZC];rfl
 ·rw[if_neg h,if_neg h];rfl
section
variable {X:Cx}
def FI:V->List V->Hp->VK->Prop:=fun x vs H Q=> ∃l c,x= .str (S l)/\vs=[.str (S [c])]/\c∈l/\Q (.int (l.idxOf c:Nat)) H
theorem jk:AB X "str.index" FI:=by
 intro pins s σ H x xs v us Q I rx rv h
 obtain ⟨l,c,rfl,rfl,hc,q⟩:=h
 obtain ⟨t,rfl⟩:=rx
 obtain ⟨u,rfl,t',rfl⟩:=vals1 rv
 exact SC.index (i:=l.idxOf c) (rest:=[]) (by rw[HF,if_pos hc]) ⟨.int (l.idxOf c:Nat),H,I.tok _,⟨_,rfl⟩,q⟩
def Jj:V->List V->Hp->VK->Prop:=fun x vs H Q=> ∃l c,x= .str (S l)/\vs=[.str (S [c])]/\Q (.int (if c∈l then (l.idxOf c:Nat) else -1)) H
theorem u_:AB X "str.find" Jj:=by
 intro pins s σ H x xs v us Q I rx rv h
 obtain ⟨l,c,rfl,rfl,q⟩:=h
 obtain ⟨t,rfl⟩:=rx
 obtain ⟨u,rfl,t',rfl⟩:=vals1 rv
 refine SC.find ⟨.int _,H,I.tok _,⟨_,rfl⟩,?_⟩
 have e:Txt.find (S l) (S [c])=(if c∈l then ((l.idxOf c:Nat):Int) else -1):=by
  unfold Txt.find
  rw[HF]
  by_cases h:c∈l
  ·rw[if_pos h,if_pos h]
  ·rw[if_neg h,if_neg h]
 rw[e]
 exact q
def HG (f:Nat->Bool):V->List V->Hp->VK->Prop:=fun x vs H Q=> ∃c,x= .str (S [c])/\vs=[]/\c<128/\Q (.bl (f c)) H
def NI (f:Nat->Nat):V->List V->Hp->VK->Prop:=fun x vs H Q=> ∃c,x= .str (S [c])/\vs=[]/\c<128/\Q (.str (S [f c])) H
noncomputable def aA (c:Nat):Bool:=decide (97<=c)&&decide (c<=122)
noncomputable def isUp (c:Nat):Bool:=decide (65<=c)&&decide (c<=90)
theorem FJ: ∀c,c<128->Txt.islower ⟨#[c]⟩=aA c:=by decide+kernel
theorem Jk: ∀c,c<128->Txt.isupper ⟨#[c]⟩=isUp c:=by decide+kernel
theorem j5:AB X "str.islower" (HG aA):=by
 intro pins s σ H x xs v us Q I rx rv h
 obtain ⟨c,rfl,rfl,hc,q⟩:=h
 obtain ⟨t,rfl⟩:=rx
 have e:us=[]:=by cases rv;rfl
 subst e
 exact SC.islower ⟨.bl (aA c),H,I,congrArg Value.bool (FJ c hc),q⟩
theorem xp:AB X "str.isupper" (HG isUp):=by
 intro pins s σ H x xs v us Q I rx rv h
 obtain ⟨c,rfl,rfl,hc,q⟩:=h
 obtain ⟨t,rfl⟩:=rx
 have e:us=[]:=by cases rv;rfl
 subst e
 exact SC.isupper ⟨.bl (isUp c),H,I,congrArg Value.bool (Jk c hc),q⟩
theorem upper_one {c:Nat} (hc:c<128):Txt.upper (S [c])=S [up1 c]:=by
 rw[upper_ascii (by intro d hd;rw[eJ]at hd;simp at hd;omega)]
 simp[S]
theorem qV {c:Nat} (hc:c<128):Txt.lower (S [c])=S [lo1 c]:=by
 rw[lower_ascii (by intro d hd;rw[eJ]at hd;simp at hd;omega)]
 simp[S]
theorem HH (c:Nat):Builtin.Str.tooLong (S [c]).length=false:=by
 rw[cR]
 show Builtin.Str.tooLong 1=false
 decide
theorem Co:AB X "str.upper" (NI up1):=by
 intro pins s σ H x xs v us Q I rx rv h
 obtain ⟨c,rfl,rfl,hc,q⟩:=h
 obtain ⟨t,rfl⟩:=rx
 have e:us=[]:=by cases rv;rfl
 subst e
 exact SC.upper (by rw[upper_one hc];exact HH _) ⟨.str (S [up1 c]),H,I.tok _,⟨_,congrArg (fun z=>Value.str z _) (upper_one hc)⟩,q⟩
theorem kF:AB X "str.lower" (NI lo1):=by
 intro pins s σ H x xs v us Q I rx rv h
 obtain ⟨c,rfl,rfl,hc,q⟩:=h
 obtain ⟨t,rfl⟩:=rx
 have e:us=[]:=by cases rv;rfl
 subst e
 exact SC.lower (by rw[qV hc];exact HH _) ⟨.str (S [lo1 c]),H,I.tok _,⟨_,congrArg (fun z=>Value.str z _) (qV hc)⟩,q⟩
theorem Cp: ∀(ls:List (List Nat)) (a:Array Nat),(ls.map S).foldl (fun acc p=>acc++(S []).cps++p.cps) a=a++ls.flatten.toArray
 | [],a=>by simp
 | l::ls,a=>by
  rw[Xl,Yu,Cp ls]
  simp[S]
theorem Jl (ls:List (List Nat)):Txt.join (S []) (ls.map S)=S ls.flatten:=by
 unfold Txt.join Builtin.Str.glued
 cases ls with
 | nil=>rfl
 | cons l ls=>
  show Str.mk ((List.map S ls).foldl (fun acc p=>acc++(S []).cps++p.cps) (S l).cps)=_
  rw[Cp]
  simp[S]
theorem oF: ∀{ls:List (List Nat)} {us:List Value},Vals (ls.map fun l=>V.str (S l)) us->StrsAre us (ls.map S)
 | [],us,r=>by cases r;exact .nil
 | l::ls,us,r=>by
  cases r with
  | cons r1 r2=>
   obtain ⟨t,rfl⟩:=r1
   exact .cons _ t (oF r2)
def Cq (K:PySem.W.Frag):V->List V->Hp->VK->Prop:=fun x vs H Q=> ∃(p:Addr) (ls:List (List Nat)),x= .str (S [])/\vs=[.ref p]/\bA K H p (ls.map fun l=>V.str (S l))/\(ls.map List.length).sum<=16777216/\Q (.str (S ls.flatten)) H
theorem Cr:AB X "str.join" (Cq X.K):=by
 intro pins s σ H x xs v us Q I rx rv h
 obtain ⟨p,ls,rfl,rfl,hq,hz,q⟩:=h
 obtain ⟨t,rfl⟩:=rx
 obtain ⟨u,rfl,ru⟩:=vals1 rv
 cases ru
 obtain ⟨aJ,r,pl,_⟩:=I.list hq
 have e:(S []).length=0:=rfl
 refine join_list pl.isList (by simpa using oF r) ?_ fun t' k=>?_
 ·rw[e,Nat.mul_zero,Nat.add_zero,X5]
  have e2:(Str.length ∘ S)=List.length:=by funext l;exact cR l
  have e3:((fun x:Str=>x.length) ∘ S)=List.length:=by funext l;exact cR l
  first | (rw[e2];exact hz) | (rw[e3];exact hz)
 ·exact ⟨.str (S ls.flatten),H,I.tok _,⟨t',congrArg (fun z=>Value.str z t') (Jl ls)⟩,q⟩
theorem AJ (hc:X.calm=true):dB X (.builtin "all") (fun xs H Q=> ∃(p:Addr) (bs:List Bool),xs=[.ref p]/\bA X.K H p (bs.map V.bl)/\Q (.bl (bs.all id)) H):=by
 intro pins s σ H xs us Q I r h
 obtain ⟨p,bs,rfl,hq,q⟩:=h
 obtain ⟨u,rfl,ru⟩:=vals1 r
 cases ru
 obtain ⟨aJ,rv,pl,hz⟩:=I.list hq
 have hlen:aJ.length=bs.length:=by rw[<-rv.length,K4]
 have hp:p<s.heap.objs.size:=by
  obtain ⟨o,n,e,_⟩:=pl
  exact Xf e
 refine call_all_walk (wpAny_pyIter_list pl.isList ?_)
 refine ⟨s.heap.objs.size,_,_,_,_,_,fun i=>(bs[i]?).getD true,rfl,Walks.list (A:=X.A.in1) (I.ok.hd hc) s.heap.objs.size p (Xm hp) aJ.toArray,⟨⟨_,Xe _ rfl,rfl,rfl⟩,?_⟩,fun i v s' Q' E' hP hQ=>?_,fun h' tk hk=>?_⟩
 ·obtain ⟨o,ho,hr⟩:=pl.isList
  exact ⟨o,SF _ ho,hr⟩
 ·have O9:aJ[i]? =some v:=by simpa using hP
  have hi:i<bs.length:=by rw[<-hlen];exact (Je.mp O9).1
  have hb:(bs.map V.bl)[i]? =some (V.bl bs[i]):=by rw[Xd,Jd hi];rfl
  obtain ⟨u,hu,ru⟩:=rv.get hb
  rw[O9]at hu;cases hu
  cases (show v=Value.bool bs[i] from ru)
  have e:(bs[i]?).getD true=bs[i]:=by rw[Jd hi];rfl
  have SN:Q' ((bs[i]?).getD true) s':=hQ
  rw[e]at SN
  exact wpAny_pure SN
 ·have e:((List.range aJ.toArray.size).all fun i=>(bs[i]?).getD true)=bs.all id:=by
   rw[WH,hlen]
   clear hq rv hlen q
   rw[YT,YN,YN]
   constructor
   ·intro h b hb
    obtain ⟨i,hi,e⟩:=YS hb
    have:=h i (XX.mpr hi)
    rw[Jd hi,e]at this
    exact this
   ·intro h i hi
    have lS:=XX.mp hi
    rw[Jd lS]
    exact h _ (Xp lS)
  have I1:Inv X pins σ H { s with heap:=h',toks:=tk }:=by
   have I0:Inv X pins σ H { s with heap:=s.heap.push { cls:= .type "list_iterator",data:= .fields #[.ref p, .int 0 0] } }:=I.kept (t':=s.toks) fun b o e=>SF _ e
   have f:=I.og (H':=H) (b:=s.heap.objs.size) (SA _) I.fresh
   have J:=I0.turned (h':=h') (t':=tk) (it:=s.heap.objs.size) (fun b o hb e=>hk b o (by simpa using hb) e) f.1 f.2.1 f.2.2.2.1 f.2.2.2.2.1 f.2.2.2.2.2
   exact J
  exact ⟨.bl (bs.all id),H,I1,by rw[e];rfl,q⟩
end
end L2
namespace L2.F2
open PySem PySem.Spec PyProof.Rows
theorem qW:Manifest.owners.lookup (String.ofList ['d','e','s','r','e','v','e','r'].reverse)=some Manifest.sig_reversed:=by kernel_rfl
theorem dD:Slot "reversed" "__next__" "reversed.__next__":=
 .of (owner:="reversed") (n:="__next__") (by rw[typeLookup_type,builtinLookup_eq_fast];kernel_rfl) (by decide+kernel) (by decide+kernel) (by decide+kernel)
  (by first | exact .inl (by decide+kernel) | exact .inr (by decide+kernel)) (by rw[isSubtype_type];kernel_rfl)
theorem iK:entryFor table "reversed.__next__"=some Builtin.«reversed.__next__» :=entryFor_of_tree (by kernel_rfl)
theorem h7 (a:Value):argsOk "reversed.__next__" ⟨[a],[]⟩:=by
 unfold argsOk;rw[signature?_of (id:="reversed.__next__") (n:=['_','_','t','x','e','n','_','_']) (o:=['d','e','s','r','e','v','e','r']) (by kernel_rfl) qW];kernel_rfl
theorem jL:Slot "reversed" "__iter__" "reversed.__iter__":=
 .of (owner:="reversed") (n:="__iter__") (by rw[typeLookup_type,builtinLookup_eq_fast];kernel_rfl) (by decide+kernel) (by decide+kernel) (by decide+kernel)
  (by first | exact .inl (by decide+kernel) | exact .inr (by decide+kernel)) (by rw[isSubtype_type];kernel_rfl)
theorem m9 (a:Value):argsOk "reversed.__iter__" ⟨[a],[]⟩:=by
 unfold argsOk;rw[signature?_of (id:="reversed.__iter__") (n:=['_','_','r','e','t','i','_','_']) (o:=['d','e','s','r','e','v','e','r']) (by kernel_rfl) qW];kernel_rfl
theorem oG:entryFor table "reversed.__iter__"=some Builtin.«dict_keyiterator.__iter__» :=
 entryFor_alias (id':="dict_keyiterator.__iter__") (by kernel_rfl) (by first | rfl | decide+kernel | (unfold String.splitOn;simp+decide [String.splitOnAux])) (by decide+kernel) (by kernel_rfl)
theorem qp:Slot "reversed" "__init__" "object.__init__":=
 .of (owner:="object") (n:="__init__") (by rw[typeLookup_type,builtinLookup_eq_fast];kernel_rfl) (by decide+kernel) (by decide+kernel) (by decide+kernel)
  (by first | exact .inl (by decide+kernel) | exact .inr (by decide+kernel)) (by rw[isSubtype_type];kernel_rfl)
theorem xq:TypeCalled "reversed" "reversed.__new__" "object.__init__":=
 ⟨by decide+kernel,by decide+kernel,⟨_,_,F.mro_reversed⟩,F.made_reversed,by decide+kernel,by rw[isSubtype_type];kernel_rfl,qp⟩
theorem xr:typeLookup (.type "str") "__reversed__"=pure none:=by rw[typeLookup_type,builtinLookup_eq_fast];kernel_rfl
end L2.F2
namespace L2
open PySem PySem.Spec PyProof.Rows
theorem oH (x:Str) (t:Tok) (hz:x.length<=sizeLine):Meets (Builtin.«reversed.__new__» ⟨[.type "reversed", .str x t],[]⟩) (fun _ R s=> ∀tk,R (.ok (.ret (.ref s.heap.objs.size))) { s with heap:=s.heap.push { cls:= .type "reversed",data:= .fields #[.str x t,rawInt ((x.length:Int) - 1)] },toks:=tk }):=by
 refine Meets.of_wp fun prog w A R s h=>?_
 unfold Builtin.«reversed.__new__»
 refine wpAny_bind (wpAny_of_eq (newClass_reversed _) ?_)
 try dsimp only
 refine wpAny_bind (wpAny_of_eq (a:=()) (by first | rfl | kernel_rfl) ?_)
 refine wpAny_bind (wpAny_of_eq (a:=()) (by first | rfl | kernel_rfl) ?_)
 try dsimp only
 refine wpAny_bind (wpAny_specialOf (typeIs_str s x t) F2.xr ?_)
 try dsimp only
 refine wpAny_bind (wpAny_of_eq (a:=true) (by first | rfl | kernel_rfl) ?_)
 rw[if_neg (by decide)]
 have hn:=fF
 refine wpAny_bind (len_str (by omega) ?_)
 refine wpAny_bind (wpAny_of_eq (a:=some (x.length:Int)) (by first | rfl | kernel_rfl) ?_)
 show wpAny _ _ (Builtin.SmallTypes.newRecord (Value.type "reversed") [Value.str x t,rawInt ((x.length:Int) - 1)] >>= _) _ _ _
 refine wpAny_bind ?_
 unfold Builtin.SmallTypes.newRecord
 refine wpAny_newObj_type ?_ (by size_fits)
 exact wpAny_pure ⟨_,rfl,h _⟩
section
variable {prog:Program} {w:World} {A:Around} {E:Value->Shared->Prop} {s:Shared}
theorem oI {x:Str} {t:Tok} {Q:Value->Shared->Prop} (hz:x.length<=sizeLine) (h: ∀tk,Q (.ref s.heap.objs.size) { s with heap:=s.heap.push { cls:= .type "reversed",data:= .fields #[.str x t,rawInt ((x.length:Int) - 1)] },toks:=tk }):
  wpAny (model prog w) A (call (.type "reversed") [.str x t]) Q E s:=
 callType_new F2.xq (by decide+kernel) (F.typeCall_reversed_1 _) (F.newCall_reversed_1 _) (fun obj=>by unfold argsOk;kernel_rfl) F.entry_reversed_new (oH x t hz)
  fun tk=>⟨⟨_,Xe _ rfl,rfl⟩,h tk⟩
def iL (h:Heap) (it:Addr) (x:Str) (t:Tok) (i:Int):Prop:= ∃o,h.get? it=some o/\o.cls= .type "reversed"/\o.data= .fields #[.str x t,rawInt i]
theorem iL.typeIs {it:Addr} {x:Str} {t:Tok} {i:Int} (h:iL s.heap it x t i):s.TypeIs (.ref it) "reversed":=let ⟨o,ho,hc,_⟩:=h;⟨o,ho,hc⟩
theorem oJ {it:Addr} {x:Str} {t:Tok} {i:Int} {Q:Value->Shared->Prop} (hit:iL s.heap it x t i) (h:Q (.ref it) s):wpAny (model prog w) A (pyIter (.ref it)) Q E s:=by
 refine wpAny_pyIter_slot hit.typeIs F2.jL (wpAny_call_entry F2.jL hit.typeIs F2.oG ?_ (F2.m9 _))
 show wpAny _ _ (ret (.ref it)) _ _ s
 exact wpAny_pure ⟨_,rfl,"reversed",_,hit.typeIs,F2.dD.lookup,h⟩
theorem m_ {it:Addr} {x:Str} {t:Tok} {i c:Nat} {Q:Option Value->Shared->Prop} (hit:iL s.heap it x t (i:Int)) (hx:x.cps[i]? =some c) (hz:x.length<=sizeLine)
  (hQ: ∀h' tk u,iL h' it x t ((i:Int) - 1)->Heap.SameBut it s.heap h'->Q (some (.str ⟨#[c]⟩ u)) { s with heap:=h',toks:=tk }):wpAny (model prog w) A (pyNext (.ref it)) Q E s:=by
 obtain ⟨o,ho,hc,hd⟩:=id hit
 have hn:=fF
 have hi:i<x.length:=(Array.getElem?_eq_some_iff.mp hx).1
 unfold pyNext
 refine wpAny_bind (wpAny_attempt (wpAny_callSpecial?_slot (name:=Str.ofString "__next__") hit.typeIs F2.dD
  (wpAny_call_entry F2.dD hit.typeIs F2.iK ?_ (F2.h7 _))))
 unfold Builtin.«reversed.__next__»
 refine wpAny_bind (wpAny_of_eq (a:=(Value.ref it,[])) rfl ?_)
 try dsimp only
 refine wpAny_bind (wpAny_field ho hd (x:= .str x t) rfl ?_)
 refine wpAny_bind (wpAny_field ho hd (x:=rawInt (i:Int)) rfl ?_)
 show wpAny _ _ (if (i:Int)<0 then _ else _) _ _ s
 rw[if_neg (by omega)]
 refine wpAny_bind (wpAny_specialOf (typeIs_str s x t) F.slot_str_getitem.lookup ?_)
 show wpAny _ _ (if (some (Value.builtin _)).isNone=true then _ else _) _ _ s
 rw[if_neg (by decide)]
 refine wpAny_bind (wpAny_mkInt ?_)
 refine wpAny_bind (wpAny_attempt (getItem_str (c:=c) (by
  have e1:decide ((i:Int)< -(2 ^ 63:Int))=false:=decide_eq_false (by omega)
  have e2:decide ((i:Int) ≥ 2 ^ 63)=false:=decide_eq_false (by omega)
  rw[e1,e2,Zt]) (by rw[seqIndex_of (by omega) (by omega),UA];exact hx) ?_))
 show wpAny _ _ (field (Value.ref it) 1 >>= _) _ _ _
 refine wpAny_bind (wpAny_field ho hd (x:=rawInt (i:Int)) rfl ?_)
 show wpAny _ _ (setField (Value.ref it) 1 (rawInt ((i:Int) - 1)) >>= _) _ _ _
 refine wpAny_bind (wpAny_setField ho hd (by simp) ?_)
 refine wpAny_pure ⟨_,rfl,wpAny_pure (hQ _ _ _ ?_ (Z7 ..))⟩
 exact ⟨_,Ya _ ho (Obj.isFreed_of_fields (Obj.data_mapFields hd _)),(Obj.cls_mapFields ..).trans hc,by
  rw[Obj.data_mapFields hd];simp⟩
theorem oK {it:Addr} {x:Str} {t:Tok} {Q:Option Value->Shared->Prop} (hh:A.handled=none) (hit:iL s.heap it x t (-1))
  (hQ: ∀h',Heap.ExtBut it s.heap h'->Q none { s with heap:=h' }):wpAny (model prog w) A (pyNext (.ref it)) Q E s:=by
 obtain ⟨o,ho,hc,hd⟩:=id hit
 unfold pyNext
 refine wpAny_bind (wpAny_attempt (wpAny_callSpecial?_slot (name:=Str.ofString "__next__") hit.typeIs F2.dD
  (wpAny_call_entry F2.dD hit.typeIs F2.iK ?_ (F2.h7 _))))
 unfold Builtin.«reversed.__next__»
 refine wpAny_bind (wpAny_of_eq (a:=(Value.ref it,[])) rfl ?_)
 try dsimp only
 refine wpAny_bind (wpAny_field ho hd (x:= .str x t) rfl ?_)
 refine wpAny_bind (wpAny_field ho hd (x:=rawInt (-1)) rfl ?_)
 show wpAny _ _ (if (-1:Int)<0 then _ else _) _ _ s
 rw[if_pos (by decide)]
 refine wpAny_bind (wpAny_rule ?_)
 refine wpAny_bind ?_
 show wpAny _ _ (setField (Value.ref it) 1 (rawInt (-1)) >>= fun _=>setField (Value.ref it) 0 .none) _ _ _
 refine wpAny_bind (wpAny_setField ho hd (by simp) ?_)
 refine wpAny_setField (Ya _ ho (Obj.isFreed_of_fields (Obj.data_mapFields hd _))) (Obj.data_mapFields hd _) (by simp) ?_
 first
 | show wpAny _ _ (newExc (.type "StopIteration") [] >>= _) _ _ _
 |(refine wpAny_bind ?_;show wpAny _ _ (newExc (.type "StopIteration") [] >>= _) _ _ _)
 refine wpAny_bind ?_
 simp only[newExc,newTuple]
 refine wpAny_bind (wpAny_newObj_type ?_ (by size_fits))
 refine wpAny_bind (m:=firstArgMember _ _) (wpAny_of_eq (a:=Value.none) (by first | rfl | (simp only[firstArgMember];rfl)) ?_)
 refine wpAny_newObj_type ?_ (by size_fits)
 simp only[raiseNew]
 refine wpAny_bind (wpAny_handled ?_)
 first | rw[show A.in1.handled=none from hh] | rw[hh]
 refine wpAny_bind (wpAny_pure (wpAny_throw ?_))
 refine wpAny_bind (wpAny_isInstance (T:="StopIteration") (b:=true) ⟨_,Xe _ rfl,rfl⟩ isSubtype_stop ?_)
 refine wpAny_pure (hQ _ fun b ob hb e=>?_)
 refine SF _ (SF _ ?_)
 exact (XJ _ _ (Ne.symm hb)).trans ((XJ _ _ (Ne.symm hb)).trans e)
end
noncomputable def FK (xs:List V):It:=⟨fun i _=>i<xs.length,fun i H x H'=>H'=H/\xs[i]? =some x,fun i _=>xs.length<=i⟩
theorem dU {l:List Nat} {i:Nat} {x:V} (h:(cg l)[i]? =some x): ∃c,l[i]? =some c/\x= .str (S [c]):=by
 unfold cg at h
 rw[Xd]at h
 cases e:l[i]? with
 | none=>rw[e]at h;cases h
 | some c=>rw[e]at h;cases h;exact ⟨c,rfl,rfl⟩
theorem aN (l:List Nat):(cg l).length=l.length:=by unfold cg;rw[K4]
theorem Cs {P:Program} {w:World} {K:PySem.W.Frag} {tg:Expr} (it:Addr) (l:List Nat) (t:Tok):Turn P w K tg (FK (cg l)) [it] it (fun i h=>h.IsStrIter it (strIterType (S l)) (S l) t i) where
 mem:=by simp
 obj:=fun i h st b hb=>by
  have e:b=it:=by simpa using hb
  subst e
  obtain ⟨o,e,c,d⟩:=st
  exact ⟨o,e,fun v z=>by rw[d]at z;cases z⟩
 keep:=fun i h h' st k=>let ⟨o,e,r⟩:=st;⟨o,k it (by simp) o e,r⟩
 item:=by
  intro X hP hw hK hc i pins s σ H E I hf st hg
  subst hP hw hK
  have FL:i<l.length:=by have:i<(cg l).length:=hg;rwa [aN]at this
  obtain ⟨f0,f1,f2,f3,f4,f5⟩:=hf it (by simp)
  have fin: ∀(v:Value) (h':Heap) (tk:Nat),SignAt (S l) i v->h'.IsStrIter it (strIterType (S l)) (S l) t (i+1)->(∀b o,b∉[it]->s.heap.get? b=some o->h'.get? b=some o)->
    ∃u,some v=some u/\wpAny (model X.prog X.w) X.A (letOwnedTupleGo tg (.ref it) u) (fun _ s2=> ∃x H',Inv X pins σ H' s2/\RelV x u/\(FK (cg l)).B2 i H x H'/\s2.heap.IsStrIter it (strIterType (S l)) (S l) t (i+1)/\ ∀b∈[it],H' b=none) E { s with heap:=h',toks:=tk }:=by
   intro v h' tk hv uI kk
   obtain ⟨c,u,e1,e2⟩:=hv
   subst e2
   have I1:Inv X pins σ H { s with heap:=h',toks:=tk }:=I.turned (fun b o hb e=>kk b o (by simpa using hb) e) f0 f1 f3 f4 f5
   obtain ⟨o,e,cc,d⟩:=id uI
   refine ⟨_,rfl,uT (s:={ s with heap:=h',toks:=tk }) e cc d (by unfold strIterType;split<;>decide) ⟨.str (S [c]),H,I1,⟨u,rfl⟩,⟨rfl,?_⟩,uI,fun b hb=>(hf b hb).1⟩⟩
   unfold cg
   rw[Xd]
   have Ct:l[i]? =some c:=by simpa [S]using e1
   rw[Ct]
   rfl
  have hsz:i<(S l).cps.size:=by rw[lR];exact FL
  by_cases ha:(S l).cps.all (· <128)=true
  ·have et:strIterType (S l)="str_ascii_iterator":=by unfold strIterType;rw[if_pos ha]
   rw[et]at st
   exact (Walks.strAscii (prog:=X.prog) (w:=X.w) (I.ok.hd hc) it (S l) t).item i s _ _ hsz st fun v h' tk hv uI kk=>fin v h' tk hv (by rw[et];exact uI) kk
  ·have et:strIterType (S l)="str_iterator":=by unfold strIterType;rw[if_neg ha]
   rw[et]at st
   exact (Walks.strWide (prog:=X.prog) (w:=X.w) (I.ok.hd hc) it (S l) t).item i s _ _ hsz st fun v h' tk hv uI kk=>fin v h' tk hv (by rw[et];exact uI) kk
 done:=by
  intro X hP hw hK hc i pins s σ H E I hf st hg
  subst hP hw hK
  obtain ⟨f0,f1,f2,f3,f4,f5⟩:=hf it (by simp)
  have FL:l.length<=i:=by have:(cg l).length<=i:=hg;rwa [aN]at this
  have hx:(S l).cps[i]? =none:=by rw[Array.getElem?_eq_none_iff,lR];exact FL
  by_cases ha:(S l).cps.all (· <128)=true
  ·have et:strIterType (S l)="str_ascii_iterator":=by unfold strIterType;rw[if_pos ha]
   rw[et]at st
   exact wpAny_pyNext_ascii_end (I.ok.hd hc) st hx fun h' eb=>⟨rfl,I.turned (t':=s.toks) (fun b o hb e=>eb b o hb e) f0 f1 f3 f4 f5⟩
  ·have et:strIterType (S l)="str_iterator":=by unfold strIterType;rw[if_neg ha]
   rw[et]at st
   exact wpAny_pyNext_wide_end (I.ok.hd hc) st hx fun h' eb=>⟨rfl,I.turned (t':=s.toks) (fun b o hb e=>eb b o hb e) f0 f1 f3 f4 f5⟩
 self:=fun _ _ s _ _ st h=>by
  by_cases ha:(S l).cps.all (· <128)=true
  ·have et:strIterType (S l)="str_ascii_iterator":=by unfold strIterType;rw[if_pos ha]
   rw[et]at st
   exact wpAny_pyIter_striter_ascii st h
  ·have et:strIterType (S l)="str_iterator":=by unfold strIterType;rw[if_neg ha]
   rw[et]at st
   exact wpAny_pyIter_striter_wide st h
theorem Cu {P:Program} {w:World} {K:PySem.W.Frag} {tg:Expr} (it:Addr) (l:List Nat) (t:Tok) (hz:l.length<=sizeLine):Turn P w K tg (FK (cg l).reverse) [it] it (fun i h=>i<=l.length/\iL h it (S l) t ((l.length:Int) - 1 - (i:Int))) where
 mem:=by simp
 obj:=fun i h st b hb=>by
  have e:b=it:=by simpa using hb
  subst e
  obtain ⟨_,o,e,c,d⟩:=st
  exact ⟨o,e,fun v z=>by rw[d]at z;cases z⟩
 keep:=fun i h h' st k=>let ⟨q,o,e,r⟩:=st;⟨q,o,k it (by simp) o e,r⟩
 item:=by
  intro X hP hw hK hc i pins s σ H E I hf st hg
  subst hP hw hK
  have FL:i<l.length:=by have:i<(cg l).reverse.length:=hg;rwa [XA,aN]at this
  obtain ⟨f0,f1,f2,f3,f4,f5⟩:=hf it (by simp)
  obtain ⟨_,st⟩:=st
  have e:(l.length:Int) - 1 - (i:Int)=((l.length - 1 - i:Nat):Int):=by omega
  rw[e]at st
  have dz:l.length - 1 - i<l.length:=by omega
  refine m_ (c:=l[l.length - 1 - i]) st (by simp[S,dz]) (by rw[cR];exact hz) fun h' tk u uI sb=>?_
  have I1:Inv X pins σ H { s with heap:=h',toks:=tk }:=I.turned (fun b o hb e=>(sb.2 b hb).trans e) f0 f1 f3 f4 f5
  obtain ⟨o,e1,cc,d⟩:=id uI
  refine ⟨_,rfl,uT (s:={ s with heap:=h',toks:=tk }) e1 cc d (by decide) ⟨.str (S [l[l.length - 1 - i]]),H,I1,⟨u,rfl⟩,⟨rfl,?_⟩,⟨FL,?_⟩,fun b hb=>(hf b hb).1⟩⟩
  ·rw[Y7 (by rw[aN];exact FL),aN]
   unfold cg
   rw[Xd,Jd dz]
   rfl
  ·have e2:(l.length:Int) - 1 - ((i+1:Nat):Int)=((l.length - 1 - i:Nat):Int) - 1:=by omega
   rw[e2]
   exact uI
 done:=by
  intro X hP hw hK hc i pins s σ H E I hf st hg
  subst hP hw hK
  obtain ⟨f0,f1,f2,f3,f4,f5⟩:=hf it (by simp)
  have FL:l.length<=i:=by have:(cg l).reverse.length<=i:=hg;rwa [XA,aN]at this
  obtain ⟨hi,st⟩:=st
  have e:(l.length:Int) - 1 - (i:Int)= -1:=by omega
  rw[e]at st
  exact oK (I.ok.hd hc) st fun h' eb=>⟨rfl,I.turned (t':=s.toks) (fun b o hb e=>eb b o hb e) f0 f1 f3 f4 f5⟩
 self:=fun _ _ _ _ _ st h=>oJ st.2 h
section
variable {X:Cx} {tg:Expr}
def QY (tl:TE):TI:=fun σ H R=>tl σ H fun x H1=> ∃l,x= .str (S l)/\R (FK (cg l)) H1
theorem gR {l:Expr} {tl:TE} (hl:PE X l tl):PI X tg l (QY tl):=by
 intro pins s σ H R I h
 refine b_ (hl pins s σ H _ I h) fun v s1 ⟨x,H1,I1,r1,q1⟩=>?_
 obtain ⟨l,rfl,q⟩:=q1
 obtain ⟨t,rfl⟩:=r1
 refine wpAny_pyIter_strU ?_
 refine ⟨s1.heap.objs.size,[s1.heap.objs.size],_,_,H1,rfl,I1.kept (t':=s1.toks) fun b o e=>SF _ e,Cs _ l t,⟨_,Xe _ rfl,rfl,rfl⟩,fun b hb=>?_,q⟩
 have e:b=s1.heap.objs.size:=by simpa using hb
 subst e
 exact I1.og (SA _) (I1.b5.fresh (SA _))
def QZ (ta:TA):TI:=fun σ H R=>ta σ H fun vs H1=> ∃l,vs=[.str (S l)]/\l.length<=sizeLine/\R (FK (cg l).reverse) H1
theorem Cv {a:Expr} {ta:TA} {p pos:Pos} (hg:Gl X "reversed") (hm:X.mg "reversed"=none) (ha:PA X [a] ta) (hs:starEach [a] X.env=[(false,eval a X.env)]:=by rfl):PI X tg (.Call (.Name "reversed" p) [a] [] pos) (QZ ta):=by
 intro pins s σ H R I h
 refine Call_ (gL I hg hm boot_reversed (X3 (b_ (ha pos pins s σ H _ I h) fun us s1 ⟨vs,H1,I1,r1,q1⟩=>?_) hs rfl))
 obtain ⟨l,rfl,hz,q⟩:=q1
 obtain ⟨u,rfl,t,rfl⟩:=vals1 r1
 refine oI (by rw[cR];exact hz) fun tk=>?_
 have hit:iL (s1.heap.push { cls:= .type "reversed",data:= .fields #[.str (S l) t,rawInt (((S l).length:Int) - 1)] }) s1.heap.objs.size (S l) t (((S l).length:Int) - 1):=⟨_,Xe _ rfl,rfl,rfl⟩
 refine oJ hit ?_
 refine ⟨s1.heap.objs.size,[s1.heap.objs.size],_,_,H1,rfl,I1.kept (t':=tk) fun b o e=>SF _ e,Cu _ l t hz,⟨Xb _,?_⟩,fun b hb=>?_,q⟩
 ·have e:(l.length:Int) - 1 - ((0:Nat):Int)=((S l).length:Int) - 1:=by rw[cR];simp
  rw[e]
  exact hit
 ·have e:b=s1.heap.objs.size:=by simpa using hb
  subst e
  exact I1.og (SA _) (I1.b5.fresh (SA _))
end
theorem nJ {xs:List V} {g:TG} {tb:TS} {D:Ends} {σ:St} {H:Hp} (Pv:Nat->St->Hp->Prop) (h0:Pv 0 σ H)
  (hs: ∀i x σ H,xs[i]? =some x->Pv i σ H->g x σ H fun σ2 H2=>tb { D with nx:=Pv (i+1),ct:=Pv (i+1),bk:=D.nx } σ2 H2) (hd: ∀σ H,Pv xs.length σ H->D.nx σ H):
  ∃W:Nat->Nat->St->Hp->Prop,(∃m,W 0 m σ H)/\ ∀i m σ H,W i m σ H->
   ((FK xs).stop i H/\D.nx σ H)\/((FK xs).go i H/\ ∃N:St->Hp->Prop,(∀σ' H',N σ' H'-> ∃m',m'<m/\W (i+1) m' σ' H')/\ ∀x H',(FK xs).B2 i H x H'->g x σ H' fun σ2 H2=>tb { D with nx:=N,ct:=N,bk:=D.nx } σ2 H2):=by
 refine ⟨fun i m σ H=>m=xs.length - i/\i<=xs.length/\Pv i σ H,⟨xs.length,by simp,Xb _,h0⟩,?_⟩
 rintro i m σ H ⟨rfl,hi,p⟩
 by_cases dz:i<xs.length
 ·refine .inr ⟨dz,Pv (i+1),fun σ' H' p'=>⟨xs.length - (i+1),by omega,rfl,dz,p'⟩,fun x H' y=>?_⟩
  obtain ⟨e,y⟩:=y
  subst e
  exact hs i x σ _ y p
 ·have e:i=xs.length:=by omega
  subst e
  exact .inl ⟨SA _,hd σ H p⟩
theorem nK {J:It} {n:Nat} {xs:Nat->V->Prop} {σc:St} {g:TG} {tc:TT} {te:TE} {Q:VK} {H1:Hp} (Pv:Nat->List V->Hp->Prop) (hn:n<sizeLine) (UI: ∀i acc H,i<n->Pv i acc H->J.go i H) (NJ: ∀acc H,Pv n acc H->J.stop n H)
  (hy: ∀i acc H x H',i<n->Pv i acc H->J.B2 i H x H'->H'=H/\xs i x) (h0:Pv 0 [] H1)
  (hs: ∀(i:Nat) (x:V) (acc:List V) (H:Hp) (Nx:List V->Hp->Prop),i<n->xs i x->acc.length<=i->Pv i acc H->(∀eK H',eK.length<=i+1->Pv (i+1) eK H'->Nx eK H')->
   g x σc H fun σ2 H2=>Wk σc σ2/\tc σ2 H2 fun b H3=>if b=true then te σ2 H3 fun v H4=>Nx (acc++[v]) H4 else Nx acc H3)
  (hd: ∀acc H D,acc.length<=n->Pv n acc H->H D=none->Q (.ref D) (upd H D (.lst acc))):qS J σc g tc te Q H1:=by
 refine ⟨fun i m acc H=>m=n - i/\i<=n/\acc.length<=i/\Pv i acc H,⟨n,by simp,Xb _,SA _,h0⟩,?_⟩
 rintro i m acc H ⟨rfl,hi,hl,p⟩
 refine ⟨by omega,?_⟩
 by_cases dz:i<n
 ·refine .inr ⟨UI i acc H dz p,fun x H' y=>?_⟩
  obtain ⟨rfl,y2⟩:=hy i acc H x H' dz p y
  exact hs i x acc _ (fun eK H'=> ∃m',m'<n - i/\(m'=n - (i+1)/\i+1<=n/\eK.length<=i+1/\Pv (i+1) eK H')) dz y2 hl p fun eK H' h1 h2=>⟨n - (i+1),by omega,rfl,dz,h1,h2⟩
 ·have e:i=n:=by omega
  subst e
  exact .inl ⟨NJ acc H p,fun D hD=>hd acc H D hl p hD⟩
theorem fG {xs:List V} {σc:St} {g:TG} {tc:TT} {te:TE} {Q:VK} {H1:Hp} (Pv:Nat->List V->Hp->Prop) (hn:xs.length<sizeLine) (h0:Pv 0 [] H1)
  (hs: ∀(i:Nat) (x:V) (acc:List V) (H:Hp) (Nx:List V->Hp->Prop),i<xs.length->xs[i]? =some x->acc.length<=i->Pv i acc H->(∀eK H',eK.length<=i+1->Pv (i+1) eK H'->Nx eK H')->
   g x σc H fun σ2 H2=>Wk σc σ2/\tc σ2 H2 fun b H3=>if b=true then te σ2 H3 fun v H4=>Nx (acc++[v]) H4 else Nx acc H3)
  (hd: ∀acc H D,acc.length<=xs.length->Pv xs.length acc H->H D=none->Q (.ref D) (upd H D (.lst acc))):qS (FK xs) σc g tc te Q H1:=
 nK (xs:=fun i x=>xs[i]? =some x) Pv hn (fun i _ _ h _=>h) (fun _ _ _=>SA _) (fun i _ H x H' _ _ y=>y) h0 hs hd
theorem Cw {lo:Int} {n:Nat} {σc:St} {g:TG} {tc:TT} {te:TE} {Q:VK} {H1:Hp} (Pv:Nat->List V->Hp->Prop) (hn:n<sizeLine) (h0:Pv 0 [] H1)
  (hs: ∀(i:Nat) (acc:List V) (H:Hp) (Nx:List V->Hp->Prop),i<n->acc.length<=i->Pv i acc H->(∀eK H',eK.length<=i+1->Pv (i+1) eK H'->Nx eK H')->
   g (.int (lo+i)) σc H fun σ2 H2=>Wk σc σ2/\tc σ2 H2 fun b H3=>if b=true then te σ2 H3 fun v H4=>Nx (acc++[v]) H4 else Nx acc H3)
  (hd: ∀acc H D,acc.length<=n->Pv n acc H->H D=none->Q (.ref D) (upd H D (.lst acc))):qS (Hv lo n) σc g tc te Q H1:=
 nK (xs:=fun i x=>x= .int (lo+i)) Pv hn (fun i _ _ h _=>h) (fun _ _ _=>SA _) (fun i _ H x H' _ _ y=>y) h0 (fun i x acc H Nx h1 h2=>by subst h2;exact hs i acc H Nx h1) hd
theorem AK {K:PySem.W.Frag} {a:Addr} {xs:List V} {σc:St} {g:TG} {tc:TT} {te:TE} {Q:VK} {H1:Hp} (Pv:Nat->List V->Hp->Prop) (hn:xs.length<sizeLine) (hl: ∀i acc H,Pv i acc H->bA K H a xs) (h0:Pv 0 [] H1)
  (hs: ∀(i:Nat) (x:V) (acc:List V) (H:Hp) (Nx:List V->Hp->Prop),i<xs.length->xs[i]? =some x->acc.length<=i->Pv i acc H->(∀eK H',eK.length<=i+1->Pv (i+1) eK H'->Nx eK H')->
   g x σc H fun σ2 H2=>Wk σc σ2/\tc σ2 H2 fun b H3=>if b=true then te σ2 H3 fun v H4=>Nx (acc++[v]) H4 else Nx acc H3)
  (hd: ∀acc H D,acc.length<=xs.length->Pv xs.length acc H->H D=none->Q (.ref D) (upd H D (.lst acc))):qS (K2 K a) σc g tc te Q H1:=
 nK (xs:=fun i x=>xs[i]? =some x) Pv hn (fun i acc H h p=>⟨xs,xs[i],hl i acc H p,by simp[h]⟩) (fun acc H p=>⟨xs,hl _ acc H p,SA _⟩) (fun i acc H x H' h p y=>⟨y.1,y.2 xs (hl i acc H p)⟩) h0 hs hd
def FN (c:TT) (tb:TS):TS:=fun D σ H=> ∃W:Nat->St->Hp->Prop,(∃m,W m σ H)/\ ∀m σ H,W m σ H->
 c σ H fun b H1=>if b=true then tb { D with nx:=fun σ' H'=> ∃m',m'<m/\W m' σ' H',ct:=fun σ' H'=> ∃m',m'<m/\W m' σ' H',bk:=D.nx } σ H1 else D.nx σ H1
theorem cJ {X:Cx} {c:Expr} {body:List Stmt} {tc:TT} {tb:TS} {pos:Pos} (hp:PassesOwn (model X.prog X.w) X.A X.env X.xe) (hc:PT X c tc) (hb:wR X body tb):PS X (.While c body [] pos) (FN tc tb):=by
 intro pins s σ H D I h
 obtain ⟨W,⟨m0,w0⟩,turn⟩:=h
 refine wpAny_While (codeAny_whileLoop (fun n s'=> ∃σ' H',Inv X pins σ' H' s'/\W n σ' H') ?_ m0 ⟨σ,H,I,w0⟩)
 rintro n s1 ⟨σ1,H1,I1,w1⟩
 refine wpAny_passesOwn hp (b_ (hc pins s1 σ1 H1 _ I1 (turn n σ1 H1 w1)) fun b s2 ⟨H2,I2,q2⟩=>?_)
 cases b with
 | true=>
  rw[if_pos rfl]at q2 ⊢
  refine wpAny_passesOwn hp (b_ (hb pins s2 σ1 H2 _ I2 q2) fun f s3 q3=>?_)
  cases f with
  | next=>
   obtain ⟨σ3,H3,I3,m',hm,w3⟩:=q3
   exact ⟨m',hm,σ3,H3,I3,w3⟩
  | cont=>
   obtain ⟨σ3,H3,I3,m',hm,w3⟩:=q3
   exact ⟨m',hm,σ3,H3,I3,w3⟩
  | brk=>exact q3
  | ret v=>exact q3
 | false=>
  rw[if_neg Xi]at q2 ⊢
  exact wpAny_execs_nil ⟨σ1,H2,I2,q2⟩
noncomputable def sQ (X:Cx) (scope:Scope):Bool:=(scope.names.all fun y=>y.2 != .cell)&&(scope.kind== .function)&&(scope.names.all fun y=>y.2 != .free||X.env.kindOf y.1==some .cell||X.env.kindOf y.1==some .free)&&(scope.names.all fun y=>y.2 != .local||scope.names.lookup y.1==some .local)
theorem kG {X:Cx} {scope:Scope} (h:sQ X scope=true):(∀y∈scope.names,y.2≠ .cell)/\scope.kind= .function/\(∀y∈scope.names,y.2= .free->X.env.kindOf y.1=some .cell\/X.env.kindOf y.1=some .free)/\(∀x∈scope.names,x.2= .local->scope.names.lookup x.1=some .local):=by
 unfold sQ at h
 simp only[XZ]at h
 obtain ⟨⟨⟨h1,h2⟩,h3⟩,h4⟩:=h
 refine ⟨fun y hy e=>?_,by simpa using h2,fun y hy e=>?_,fun y hy e=>?_⟩
 ·have:=YN.mp h1 y hy
  rw[e]at this;simp at this
 ·have:=YN.mp h3 y hy
  rw[e]at this
  simpa using this
 ·have:=YN.mp h4 y hy
  rw[e]at this
  simpa using this
theorem cV {X:Cx} {tg iter elt:Expr} {ifs:List Expr} {scope:Scope} {pos:Pos} {wi:TI} {g:TG} {tc:TT} {te:TE} (Nc:List Str) (ix:List (Option Nat)) (hi:PI X tg iter wi) (xl:jE X scope Nc ix)
  (hG: ∀C s H fp,PG (bQ X scope C Nc s H fp) tg g) (hT: ∀C s H fp,PF (bQ X scope C Nc s H fp) ifs tc) (hE: ∀C s H fp,PE (bQ X scope C Nc s H fp) elt te) (b5:sQ X scope=true:=by rfl) (jK:X.calm=true:=by rfl)
  (hs: ∀x,foldedSetIterable iter X.env x=pure x:=by intro _;rfl):PE X (.ListComp elt [⟨tg,iter,ifs,0⟩] scope pos) (u7 wi ix g tc te):=
 let ⟨h1,h2,h3,h4⟩:=kG b5
 FF Nc ix hi jK xl h1 h2 h3 h4 hG hT hE hs
theorem Cy {X:Cx} {i:Nat} {x:Str} {tg iter elt:Expr} {ifs:List Expr} {scope:Scope} {pos Cj pos':Pos} {wi:TI} {g:TG} {tc:TT} {te:TE} (Nc:List Str) (ix:List (Option Nat)) (hN:X.N.Nodup) (ND:X.N[i]? =some x) (hx:Loc X.env.scope x)
  (hi:PI X tg iter wi) (xl:jE X scope Nc ix)
  (hG: ∀C s H fp,PG (bQ X scope C Nc s H fp) tg g) (hT: ∀C s H fp,PF (bQ X scope C Nc s H fp) ifs tc) (hE: ∀C s H fp,PE (bQ X scope C Nc s H fp) elt te)
  (NF:swapsWith (.ListComp elt [⟨tg,iter,ifs,0⟩] scope pos) (some (.Name x pos')) Cj.line X.env=pure true:=by rfl) (b5:sQ X scope=true:=by rfl) (jK:X.calm=true:=by rfl)
  (hs: ∀x,foldedSetIterable iter X.env x=pure x:=by intro _;rfl) (hf:X.fn x=true\/X.env.scope.names.lookup x=some .local:=by first | exact .inl rfl | exact .inr rfl | assumption):
  PS X (.Assign [.Name x pos'] (.ListComp elt [⟨tg,iter,ifs,0⟩] scope pos) Cj) (Fl (u7 wi ix g tc te) (uS i)):=
 let ⟨h1,h2,h3,h4⟩:=kG b5
 FG Nc ix hN ND hx NF hi jK xl h1 h2 h3 h4 hG hT hE hs hf
section
variable {X:Cx}
def Q0:R2:=fun x y H Q=> ∃a b,x= .str (S a)/\y= .str (S b)/\Q (.bl (decide (a=b))) H
def Q3:R2:=fun x y H Q=> ∃a b,x= .str (S a)/\y= .str (S b)/\Q (.bl (!decide (a=b))) H
theorem gS:iG X (compareOp .Eq) Q0:=by
 intro pins s σ H x y v u Q I rx ry h
 obtain ⟨a,b,rfl,rfl,q⟩:=h
 exact Hx pins s σ H _ _ v u Q I rx ry ⟨rfl,by rw[HE];exact q⟩
theorem Cz:iG X (compareOp .NotEq) Q3:=by
 intro pins s σ H x y v u Q I rx ry h
 obtain ⟨a,b,rfl,rfl,q⟩:=h
 exact Hy pins s σ H _ _ v u Q I rx ry ⟨rfl,by rw[HE];exact q⟩
theorem HI {i j:Int}:decide (V.int i=V.int j)=decide (i=j):=by
 by_cases h:i=j
 ·subst h;simp
 ·rw[decide_eq_false h,decide_eq_false]
  intro q
  exact h (V.int.inj q)
theorem j6:iG X (compareOp .Eq) (EZ fun i j=> .bl (decide (i=j))):=by
 intro pins s σ H x y v u Q I rx ry h
 obtain ⟨a,b,rfl,rfl,q⟩:=h
 exact Hx pins s σ H _ _ v u Q I rx ry ⟨rfl,by rw[HI];exact q⟩
theorem sR:iG X (compareOp .NotEq) (EZ fun i j=> .bl (!decide (i=j))):=by
 intro pins s σ H x y v u Q I rx ry h
 obtain ⟨a,b,rfl,rfl,q⟩:=h
 exact Hy pins s σ H _ _ v u Q I rx ry ⟨rfl,by rw[HI];exact q⟩
def Q5 (f:List Nat->List Nat->Bool):R2:=fun x y H Q=> ∃a b,x= .str (S a)/\y= .str (S b)/\Q (.bl (f a b)) H
theorem sS:iG X (compareOp .Lt) (Q5 fun a b=>decide (a<b)):=by
 intro pins s σ H x y v u Q I rx ry h
 obtain ⟨a,b,rfl,rfl,q⟩:=h
 exact Aq pins s σ H _ _ v u Q I rx ry ⟨S a,S b,rfl,rfl,by rw[eJ,eJ];exact q⟩
end
section
variable {X:Cx} {tg:Expr}
theorem bX (K:PySem.W.Frag) (h:X.K=K):IS X (Nk K):=by subst h;exact Fu
theorem bB (K:PySem.W.Frag) (h:X.K=K):IS X (Nl K):=by subst h;exact IT
def NK (K:PySem.W.Frag):List V->Hp->VK->Prop:=fun xs H Q=> ∃p ys,xs=[.ref p]/\(bA K H p ys\/cT K H p ys)/\Q (.int ys.length) H
theorem a_ (K:PySem.W.Frag) (h:X.K=K):dB X (.builtin "len") (NK K):=by subst h;exact sJ
theorem fH (K:PySem.W.Frag) (h:X.K=K):AB X "str.join" (Cq K):=by subst h;exact Cr
def NL (K:PySem.W.Frag):List V->Hp->VK->Prop:=fun xs H Q=> ∃(p:Addr) (bs:List Bool),xs=[.ref p]/\bA K H p (bs.map V.bl)/\Q (.bl (bs.all id)) H
theorem AL (K:PySem.W.Frag) (h:X.K=K) (hc:X.calm=true):dB X (.builtin "all") (NL K):=by subst h;exact AJ hc
def yW (K:PySem.W.Frag):List V->Hp->VK->Prop:=fun xs H Q=> ∃p ys,xs=[.ref p]/\(bA K H p ys\/cT K H p ys)/\ ∀l,H l=none->Q (.ref l) (upd H l (.lst ys))
theorem gg (K:PySem.W.Frag) (h:X.K=K):dB X (.type "list") (yW K):=by subst h;exact sM
theorem iM (K:PySem.W.Frag) (h:X.K=K):O5 X (Nn K):=by subst h;exact Fv
theorem gy (K:PySem.W.Frag) (h:X.K=K) {l:Expr} {tl:TE} (hl:PE X l tl):PI X tg l (Hw K tl):=by subst h;exact Fm hl
theorem sU (K:PySem.W.Frag) (h:X.K=K) {l:Expr} {tl:TE} (hl:PE X l tl):PI X tg l (MX K tl):=by subst h;exact IE hl
end
section
variable {X:Cx} {o e:Expr} {es:List Expr} {to:TE} {t:TA} {name:Str} {apos ir:Pos} {T id:String} {r:V->List V->Hp->VK->Prop}
theorem dW (K:PySem.W.Frag) (hK:X.K=K) (pa:PlainAttrs T) (slot:Slot T name id) (IZ:typeOf (.builtin id)=pure (.type "method_descriptor")) (hm:AB X id r) (ho:PE X o to)
  (oz:attributeBase o name X.env (eval o X.env)=eval o X.env:=by rfl) (mR:(apos.endLine==ir.line)=true:=by rfl):PE X (.Call (.Attribute o name apos) [] [] ir) (Np K T r to):=by
 subst hK
 exact IX pa slot IZ hm ho oz mR
theorem bL (K:PySem.W.Frag) (hK:X.K=K) (pa:PlainAttrs T) (slot:Slot T name id) (IZ:typeOf (.builtin id)=pure (.type "method_descriptor")) (hm:AB X id r) (ho:PE X o to) (ha:PA X (e::es) t)
  (oz:attributeBase o name X.env (eval o X.env)=eval o X.env:=by rfl)
  (Cc:((backTo ir (starEach (e::es) X.env)).all (fun x=>!x.1)&&(backToKw ir (keywordEach [] X.env)).all (fun x=>x.1.isSome)
   &&decide ((e::es).length+([]:List Keyword).length+(if ([]:List Keyword).isEmpty then 0 else 1)<30))=true:=by rfl)
  (mR:(apos.endLine==ir.line)=true:=by rfl) (hs:starEach (e::es) X.env=(false,eval e X.env)::starEach es X.env:=by rfl) (xf:(backTo ir (starEach es X.env)).any (·.1)=false:=by rfl):
  PE X (.Call (.Attribute o name apos) (e::es) [] ir) (Sw K T r to t):=by
 subst hK
 exact Nq pa slot IZ hm ho ha oz Cc mR hs xf
end
section
variable {X:Cx} {pins:List (Addr×Obj)} {σ:St} {H:Hp} {s:Shared}
end
section
variable {X:Cx}
def NM (K:PySem.W.Frag) (ta:TE):TT:=fun σ H Q=>ta σ H fun x H'=> ∃p xs,x= .ref p/\bA K H' p xs/\Q (!xs.isEmpty) H'
theorem FO {a:Expr} {ta:TE} (K:PySem.W.Frag) (h:X.K=K) (ha:PE X a ta) (he: ∀whole,isTrue a X.env whole=(do let v <-whole;standAt a.pos;holding [v] (truthy v)):=by intro _;rfl):PT X a (NM K ta):=by
 subst h
 intro pins s σ H Q I hw
 refine isTrue_plain (b_ (ha pins s σ H _ I hw) fun v s1 ⟨x,H1,I1,r1,q1⟩=>?_) (he _)
 obtain ⟨p,xs,rfl,hq,q⟩:=q1
 exact IJ pins s1 σ H1 _ v Q I1 r1 ⟨_, .inl ⟨xs,hq,rfl⟩,q⟩
theorem kH (K:PySem.W.Frag) (h:X.K=K) {es:List Expr} {k:Nat} {t:Hu} {n:Nat} {pos:Pos} (hc:X.calm=true) (hs:MT X es t)
  (hn:(assignEach es X.env).length=n:=by rfl) (mO:(assignEach es X.env).findIdx? (·.1)=none:=by rfl):PG X (.Tuple es k pos) (MW K n t):=by
 subst h
 exact IC hc hs hn mO
theorem FP:K1 X .Add (fun x y H Q=>Cm x y H Q):=by
 intro pins s σ H x y v u Q I rx ry h
 exact Cn pins s σ H x y v u Q I rx ry h
end
noncomputable def cO (a b:List Nat):List Nat:=if b<a then b else a
noncomputable def bZ:List Nat->List (List Nat)->List Nat
 | a,[]=>a
 | a,b::r=>bZ (cO a b) r
theorem argBest_lt (bt:Nat->Nat->Bool): ∀n,argBest bt n<=n
 | 0=>SA _
 | n+1=>by
  unfold argBest
  split
  ·exact SA _
  ·exact Y1 (argBest_lt bt n)
section
variable {X:Cx}
end
section
variable {X:Cx}
theorem FQ (K:PySem.W.Frag) (h:X.K=K):iG X (compareOp .NotIn) (Sv K true):=by subst h;exact sI
end
noncomputable def dH (n:Nat) (l:List Nat):List Nat:=(List.replicate n l).flatten
theorem eL (n:Nat) (l:List Nat):dH (n+1) l=l++dH n l:=by unfold dH;rw[ZN,Ye]
theorem xt (n:Nat) (l:List Nat):dH (n+1) l=dH n l++l:=by unfold dH;rw[List.replicate_succ',List.flatten_append,Ye,List.flatten_nil,Xy]
theorem va (n:Nat) (l:List Nat):(dH n l).length=n*l.length:=by
 induction n with
 | zero=>simp[dH]
 | succ n ih=>rw[eL,SD,ih,Zh,ZW]
theorem qX (l:List Nat): ∀(n:Nat) (acc:Array Nat),((List.replicate n (S l).cps).foldl (· ++ ·) acc).toList=acc.toList++dH n l
 | 0,acc=>by simp[dH]
 | n+1,acc=>by
  rw[ZN,Yu,qX l n,eL]
  simp[S]
def NN:R2:=fun x y H Q=> ∃(l:List Nat) (i:Int),x= .str (S l)/\y= .int i/\(0<=i/\i<=1000000)/\l.length*i.toNat<=sizeLine/\Q (.str (S (dH i.toNat l))) H
theorem sV {X:Cx}:iG X (binaryOp .Mult) NN:=by
 intro pins s σ H x y v u Q I rx ry h
 obtain ⟨l,i,rfl,rfl,⟨h0,h1⟩,hz,q⟩:=h
 obtain ⟨t,rfl⟩:=rx
 obtain ⟨t',rfl⟩:=ry
 have hn:=fF
 have Q6:(S l).length=l.length:=cR l
 have Q7:(l.length:Int)*i<=2 ^ 63 - 1:=by
  have e:((l.length*i.toNat:Nat):Int)=(l.length:Int)*i:=by rw[Z_,Int.toNat_of_nonneg h0]
  have:((l.length*i.toNat:Nat):Int)<=(sizeLine:Int):=by exact_mod_cast hz
  rw[<-e];omega
 refine P.mul_str (x:=S l) (n:=i) (t:=t) (u:=t') (by
  have e1:decide (i< -(2 ^ 63:Int))=false:=decide_eq_false (by omega)
  have e2:decide (i ≥ 2 ^ 63)=false:=decide_eq_false (by omega)
  rw[e1,e2];rfl) (fun z _=>?_) (fun z _=>?_) ?_
 ·rw[Q6]
  have:(l.length:Int)<=(2 ^ 63 - 1) / i:=(Int.le_ediv_iff_mul_le (by omega)).mpr Q7
  omega
 ·rw[Q6]
  show Builtin.Str.tooLong _=false
  unfold Builtin.Str.tooLong
  exact decide_eq_false (by omega)
 ·by_cases z:i<1
  ·rw[if_pos z]
   have e:i.toNat=0:=by omega
   rw[e]at q
   exact ⟨by decide, .str _,H,I.tok _,⟨_,rfl⟩,q⟩
  ·rw[if_neg z]
   by_cases z2:(i==1||(S l).length==0)=true
   ·rw[if_pos z2]
    have e:dH i.toNat l=l:=by
     rcases Bool.or_eq_true _ _ |>.mp z2 with e | e
     ·have e:i=1:=by simpa using e
      subst e
      show dH 1 l=l
      rw[eL];simp[dH]
     ·have e:l.length=0:=by rw[Q6]at e;simpa using e
      have e:l=[]:=XM.mp e
      subst e
      unfold dH
      simp
    rw[e]at q
    exact ⟨.str _,H,I,⟨_,rfl⟩,q⟩
   ·rw[if_neg z2]
    have e:(⟨(List.replicate i.toNat (S l).cps).foldl (· ++ ·) #[]⟩:Str)=S (dH i.toNat l):=by
     have:=qX l i.toNat #[]
     show _=(⟨(dH i.toNat l).toArray⟩:Str)
     congr 1
     apply Zz.mp
     rw[this]
     simp
    rw[e]
    refine ⟨?_, .str _,H,I.tok _,⟨_,rfl⟩,q⟩
    rw[cR,va,Yw]
    exact hz
section
variable {X:Cx}
end
section
variable {X:Cx} {pins:List (Addr×Obj)} {σ:St} {H:Hp} {s:Shared} {h':Heap}
theorem Inv.oM {t':Nat} {ch:List Addr} {T:Addr} {ob:HO} (I:Inv X pins σ H s) (k: ∀b o,b∉ch->s.heap.get? b=some o->h'.get? b=some o) (hf: ∀b∈ch,m5 X pins H b)
  (hT:s.heap.objs.size<=T) (new:cQ X.prog X.w (upd H T ob) h' T ob):Inv X pins σ (upd H T ob) { s with heap:=h',toks:=t' }:=by
 have hn:=I.b5.fresh hT
 have Hs: ∀b u,H b=some u->b∉ch:=fun b u e z=>by rw[(hf b z).1]at e;cases e
 have neT: ∀b o,s.heap.get? b=some o->b≠T:=fun b o e z=>absurd (Xq (Xf e) hT) (by rw[z];exact XN _)
 refine I.step (g':=s.gens) (d':=s.drawn) (ch:=ch) (fun b hb=>?_) (fun b o _ _ hc e _=>k b o hc e) (fun b o _ _ hc e _=>⟨o.slots,k b o hc e⟩) (fun b o _ e n=>by rw[ay (neT b o e)];exact n)
  (fun b o hc e=>⟨o,k b o hc e⟩) (fun b xs e=>by rw[ay (az e hn)];exact e) (fun b o u e=>by rw[ay (az e hn)];exact e) (fun b ps e=>⟨#[],by rw[ay (az e hn),e];simp⟩) (fun m hm=>?_) (fun b u e=>?_) I.bare
 ·obtain ⟨_,h2,_,h4,h5,h6⟩:=hf b hb
  exact ⟨h4,h2,h5,h6⟩
 ·obtain ⟨o,es,ep,ho,r⟩:=hm
  exact ⟨o,es,ep,k _ o (fun z=>(hf _ z).2.1 rfl) ho,r⟩
 ·by_cases hb:b=T
  ·subst hb;rw[ah]at e;cases e;exact new
  ·rw[ay hb]at e
   refine (I.b5 b u e).uO (fun c v hc q=>k c v ?_ q) (fun c q=>by rw[ay (az q hn)];exact q) fun c xs q=>by rw[ay (az q hn)];exact q
   rcases hc with z | z
   ·rw[z];exact Hs b u e
   ·exact Hs c _ z
theorem Inv.sW {t':Nat} {ch:List Addr} (I:Inv X pins σ H s) (k: ∀b o,b∉ch->s.heap.get? b=some o->h'.get? b=some o) (hf: ∀b∈ch,m5 X pins H b):Inv X pins σ H { s with heap:=h',toks:=t' }:=by
 have Hs: ∀b u,H b=some u->b∉ch:=fun b u e z=>by rw[(hf b z).1]at e;cases e
 refine I.step (g':=s.gens) (d':=s.drawn) (ch:=ch) (fun b hb=>?_) (fun b o _ _ hc e _=>k b o hc e) (fun b o _ _ hc e _=>⟨o.slots,k b o hc e⟩) (fun b o _ e n=>n)
  (fun b o hc e=>⟨o,k b o hc e⟩) (fun b xs e=>e) (fun b o u e=>e) (fun b ps e=>⟨#[],by rw[e];simp⟩) (fun m hm=>?_) (fun b u e=>?_) I.bare
 ·obtain ⟨_,h2,_,h4,h5,h6⟩:=hf b hb
  exact ⟨h4,h2,h5,h6⟩
 ·obtain ⟨o,es,ep,ho,r⟩:=hm
  exact ⟨o,es,ep,k _ o (fun z=>(hf _ z).2.1 rfl) ho,r⟩
 ·refine (I.b5 b u e).uO (fun c v hc q=>k c v ?_ q) (fun c q=>q) fun c xs q=>q
  rcases hc with z | z
  ·rw[z];exact Hs b u e
  ·exact Hs c _ z
end
noncomputable def NO (l:List Nat):It:=⟨fun i _=>i<l.length,fun i H x H'=> ∃T c,l[i]? =some c/\x= .ref T/\H T=none/\H'=upd H T (.tup [.int i, .str (S [c])]),fun i _=>l.length<=i⟩
theorem qY {prog:Program} {w:World} {A:Around} (hh:A.handled=none) (it:Addr) (x:Str) (t:Tok):
  Draws prog w A it [it] x.cps.size (fun i v=> ∃c u,x.cps[i]? =some c/\v= .str ⟨#[c]⟩ u) (fun i h=>h.IsStrIter it (strIterType x) x t i):=by
 by_cases ha:x.cps.all (· <128)=true
 ·have et:strIterType x="str_ascii_iterator":=by unfold strIterType;rw[if_pos ha]
  rw[et];exact Draws.strAscii hh it x t
 ·have et:strIterType x="str_iterator":=by unfold strIterType;rw[if_neg ha]
  rw[et];exact Draws.strWide hh it x t
theorem xu {P:Program} {w:World} {K:PySem.W.Frag} {elts:List Expr} {k:Nat} {pos:Pos} (e it:Addr) (yX:e≠it) (l:List Nat) (t:Tok):
  Turn P w K (.Tuple elts k pos) (NO l) [e,it] e (fun i h=>i<=l.length/\(∃old,IsEnum h e it i old)/\h.IsStrIter it (strIterType (S l)) (S l) t i) where
 mem:=by simp
 obj:=fun i h st b hb=>by
  obtain ⟨_,⟨old,he⟩,o,ho,hc,hd⟩:=st
  rcases WG.mp hb with z | z
  ·rw[z];exact ⟨_,he,fun v z=>by cases z⟩
  ·rw[O8.mp z];exact ⟨o,ho,fun v z=>by rw[hd]at z;cases z⟩
 keep:=fun i h h' st kp=>by
  obtain ⟨h1,⟨old,he⟩,o,ho,r⟩:=st
  exact ⟨h1,⟨old,kp e (by simp) _ he⟩,o,kp it (by simp) o ho,r⟩
 item:=by
  intro X hP hw hK hc i pins s σ H E I hf st hg
  subst hP hw hK
  obtain ⟨_,wI,wH⟩:=st
  have D:=qY (prog:=X.prog) (w:=X.w) (A:=X.A.in1) (I.ok.hd hc) it (S l) t
  have W:=WalksT.enumerateD D e yX (by simpa using yX) (by simp)
  have hi:i<(S l).cps.size:=by rw[lR];exact hg
  refine W.item i s _ _ hi ⟨wI,wH⟩ fun T vals h' tk NP hT CA vb hk=>⟨_,rfl,?_⟩
  refine W.go elts k pos i T { s with heap:=h',toks:=tk } _ _ vb fun h2 vc xv=>?_
  obtain ⟨tt,x,⟨c,u,Q8,rfl⟩,rfl⟩:=NP
  have HJ:T∉[e,it]:=W.apart i T h' vb
  have vd:h2.IsTuple T #[.int i tt, .str ⟨#[c]⟩ u]:=by
   obtain ⟨o,ho,r⟩:=CA
   exact ⟨o,xv T o HJ ho,r⟩
  have hl:l[i]? =some c:=by simpa [S]using Q8
  refine ⟨.ref T,upd H T (.tup [.int i, .str (S [c])]),?_,rfl,⟨T,c,hl,rfl,I.b5.fresh hT,rfl⟩,⟨hg,vc.1,vc.2⟩,fun b hb=>?_⟩
  ·refine I.oM (t':=tk) (h':=h2) (fun b o hb y=>xv b o hb (hk b o hb y)) hf hT ?_
   exact ⟨by show 2<=sizeLine;decide,[.int i tt, .str ⟨#[c]⟩ u], .cons ⟨tt,rfl⟩ (.cons ⟨u,rfl⟩ .nil),vd⟩
  ·rw[ay (fun z:b=T=>HJ (z▸hb))];exact (hf b hb).1
 done:=by
  intro X hP hw hK hc i pins s σ H E I hf st hg
  subst hP hw hK
  obtain ⟨h1,wI,wH⟩:=st
  have e1:i=l.length:=Z8 h1 hg
  have D:=qY (prog:=X.prog) (w:=X.w) (A:=X.A.in1) (I.ok.hd hc) it (S l) t
  have W:=WalksT.enumerateD D e yX (by simpa using yX) (by simp)
  refine W.done s _ _ ?_ fun h' tk hk=>⟨rfl,I.sW (t':=tk) hk hf⟩
  rw[lR, <-e1]
  exact ⟨wI,wH⟩
 self:=fun _ _ s _ _ st h=>by
  obtain ⟨_,⟨old,he⟩,_⟩:=st
  exact wpAny_pyIter_enum he h
def Jm (ta:TA):TI:=fun σ H R=>ta σ H fun vs H1=> ∃l,vs=[.str (S l)]/\R (NO l) H1
theorem CB {X:Cx} {elts:List Expr} {k:Nat} {pos':Pos} {a:Expr} {ta:TA} {p pos:Pos} (hg:Gl X "enumerate") (hm:X.mg "enumerate"=none) (ha:PA X [a] ta) (hs:starEach [a] X.env=[(false,eval a X.env)]:=by rfl):PI X (.Tuple elts k pos') (.Call (.Name "enumerate" p) [a] [] pos) (Jm ta):=by
 intro pins s σ H R I h
 refine Call_ (gL I hg hm boot_enumerate (X3 (b_ (ha pos pins s σ H _ I h) fun us s1 ⟨vs,H1,I1,r1,q1⟩=>?_) hs rfl))
 obtain ⟨l,rfl,q⟩:=q1
 obtain ⟨u,rfl,t,rfl⟩:=vals1 r1
 refine call_enumerate_str fun h' he hit hsz hk=>?_
 refine wpAny_pyIter_enum he ?_
 refine ⟨s1.heap.objs.size+1,[s1.heap.objs.size+1,s1.heap.objs.size],_,_,H1,rfl,I1.kept (t':=s1.toks) hk,xu _ _ (Zv _) l t,⟨Xb _,⟨_,he⟩,hit⟩,fun b hb=>?_,q⟩
 have j7:s1.heap.objs.size<=b:=by
  rcases WG.mp hb with z | z
  ·rw[z];exact Yp _
  ·rw[O8.mp z];exact SA _
 exact I1.og j7 (I1.b5.fresh j7)
theorem CC {l:List Nat} {g:TG} {tb:TS} {D:Ends} {σ:St} {H:Hp} (Pv:Nat->St->Hp->Prop) (h0:Pv 0 σ H)
  (hs: ∀i c σ H T,l[i]? =some c->Pv i σ H->H T=none->g (.ref T) σ (upd H T (.tup [.int i, .str (S [c])])) fun σ2 H2=>tb { D with nx:=Pv (i+1),ct:=Pv (i+1),bk:=D.nx } σ2 H2) (hd: ∀σ H,Pv l.length σ H->D.nx σ H):
  ∃W:Nat->Nat->St->Hp->Prop,(∃m,W 0 m σ H)/\ ∀i m σ H,W i m σ H->
   ((NO l).stop i H/\D.nx σ H)\/((NO l).go i H/\ ∃N:St->Hp->Prop,(∀σ' H',N σ' H'-> ∃m',m'<m/\W (i+1) m' σ' H')/\ ∀x H',(NO l).B2 i H x H'->g x σ H' fun σ2 H2=>tb { D with nx:=N,ct:=N,bk:=D.nx } σ2 H2):=by
 refine ⟨fun i m σ H=>m=l.length - i/\i<=l.length/\Pv i σ H,⟨l.length,by simp,Xb _,h0⟩,?_⟩
 rintro i m σ H ⟨rfl,hi,p⟩
 by_cases dz:i<l.length
 ·refine .inr ⟨dz,Pv (i+1),fun σ' H' p'=>⟨l.length - (i+1),by omega,rfl,dz,p'⟩,fun x H' y=>?_⟩
  obtain ⟨T,c,hc,rfl,hn,rfl⟩:=y
  exact hs i c σ _ T hc p hn
 ·have e:i=l.length:=by omega
  subst e
  exact .inl ⟨SA _,hd σ H p⟩
section
variable {X:Cx}
theorem FR {ls:List (List Nat)}: ∀{aJ:List Value},Vals (ls.map fun l=>V.str (S l)) aJ->StrsAre aJ (ls.map S):=by
 induction ls with
 | nil=>intro aJ r;cases r;exact .nil
 | cons l ls ih=>
  intro aJ r
  cases r with
  | cons r1 r2=>
   obtain ⟨t,rfl⟩:=r1
   exact .cons _ t (ih r2)
theorem yY: ∀{aJ:List Value} {ss:List Str},StrsAre aJ ss->Vals ((ss.map fun x=>x.cps.toList).map fun l=>V.str (S l)) aJ
 | _,_, .nil=> .nil
 | _,_, .cons x t h=> .cons ⟨t,by rw[<-NG]⟩ (yY h)
theorem qZ: ∀(p:Str) (r:List Str),risingS p r=true->(p::r).Pairwise fun a b=> ¬b.cps.toList<a.cps.toList
 | p,[],_=>List.pairwise_singleton _ _
 | p,x::r,h=>by
  have h':(!ltCps x.cps.toList p.cps.toList&&risingS x r)=true:=h
  rw[XZ,ltCps_eq]at h'
  have h1: ¬x.cps.toList<p.cps.toList:=by simpa using h'.1
  have ih:=qZ x r h'.2
  refine Yk.mpr ⟨fun y hy=>?_,ih⟩
  rcases WG.mp hy with z | z
  ·rw[z];exact h1
  ·exact List.le_trans (show p.cps.toList<=x.cps.toList from h1) (show x.cps.toList<=y.cps.toList from List.rel_of_pairwise_cons ih z)
theorem AM {ss:List Str} (h:sortedS ss=true):(ss.map fun x=>x.cps.toList).Pairwise fun a b=> ¬b<a:=by
 rw[X9]
 cases ss with
 | nil=>exact List.Pairwise.nil
 | cons x r=>exact qZ x r h
def Jn (K:PySem.W.Frag):List V->Hp->VK->Prop:=fun xs H Q=> ∃(p:Addr) (ls:List (List Nat)),xs=[.ref p]/\bA K H p (ls.map fun l=>V.str (S l))/\ls.length<64/\ ∀(q:Addr) (Q9:List (List Nat)),H q=none->Q9.Perm ls->(Q9.Pairwise fun a b=> ¬b<a)->Q (.ref q) (upd H q (.lst (Q9.map fun l=>V.str (S l))))
theorem gT (K:PySem.W.Frag) (h:X.K=K):dB X (.builtin "sorted") (Jn K):=by
 subst h
 intro pins s σ H xs us Q I r h
 obtain ⟨p,ls,rfl,hq,hn,q⟩:=h
 obtain ⟨u,rfl,ru⟩:=vals1 r
 cases ru
 obtain ⟨aJ,rv,pl,hz⟩:=I.list hq
 have hlen:aJ.length=ls.length:=by rw[<-rv.length,K4]
 refine sorted_strs (l:=p) (vs:=aJ) (ss:=ls.map S) pl.isList (FR rv) (by omega) fun out BL h1 h2 h3=>?_
 obtain ⟨e,he⟩:=sortedAll_at s.heap aJ out
 have ve:(BL.map fun x=>x.cps.toList).Perm ls:=by
  have:=h2.map fun x:Str=>x.cps.toList
  rw[X5]at this
  have e2:ls.map ((fun x:Str=>x.cps.toList) ∘ S)=ls:=by
   have: ∀l∈ls,((fun x:Str=>x.cps.toList) ∘ S) l=l:=fun l _=>eJ l
   calc ls.map _=ls.map id:=Zg this
    _=ls:=Zm ls
  rwa [e2]at this
 have AD:=ve.length_eq
 have UJ:(64:Nat)<sizeLine:=by decide
 have NQ:((BL.map fun x=>x.cps.toList).map fun l=>V.str (S l)).length<=sizeLine:=by rw[K4,AD];omega
 refine ⟨.ref (s.heap.objs.size+1),_,I.laid (t':=s.toks) (a:=s.heap.objs.size+1) (o:= .lst ((BL.map fun x=>x.cps.toList).map fun l=>V.str (S l))) (fun b o e=>sortedAll_old e) (Yp _) ⟨NQ,out.toList,e,yY h1,by simpa [seqObj]using he⟩,rfl,q _ _ (I.b5.fresh (Yp _)) ve (AM h3)⟩
end
section
variable {X:Cx}
theorem yZ {ls:List (List Nat)} {l:List Nat} (h:ls.Perm (l.map fun c=>[c])): ∃l':List Nat,ls=l'.map (fun c=>[c])/\l'.Perm l:=by
 refine ⟨ls.flatten,?_,?_⟩
 ·have hs: ∀x∈ls, ∃c,x=[c]:=fun x hx=>by
   obtain ⟨c,_,e⟩:=Xr.mp (h.mem_iff.mp hx)
   exact ⟨c,e.symm⟩
  clear h
  induction ls with
  | nil=>rfl
  | cons x ls ih=>
   obtain ⟨c,rfl⟩:=hs x Uz
   rw[Ye,WI, <-ih fun y hy=>hs y (UB _ hy)]
   rfl
 ·have:=h.flatten
  have e:(l.map fun c=>[c]).flatten=l:=by
   clear h this
   induction l with
   | nil=>rfl
   | cons c l ih=>rw[Xl,Ye,ih];rfl
  rwa [e]at this
theorem y0 {l:List Nat} (h:(l.map fun c=>[c]).Pairwise fun a b=> ¬b<a):l.Pairwise fun a b=>a<=b:=by
 rw[X9]at h
 refine h.imp fun {a b} z=>?_
 by_cases y:a<=b
 ·exact y
 ·exact absurd (ZL.mpr (.inl (by omega))) z
end
section
variable {X:Cx}
end
section
variable {prog:Program} {w:World} {A:Around} {E:Value->Shared->Prop} {s:Shared}
theorem xw {it tp:Addr} {j:Nat} {xs:Array Value} {y:Value} {Q:Value->Shared->Prop} (hi:s.heap.IsTupleIter it tp j) (ht:s.heap.IsTuple tp xs) (hy:xs[j]? =some y)
  (q: ∀h2,h2.IsTupleIter it tp (j+1)->Heap.SameBut it s.heap h2->Q y { s with heap:=h2 }):wpAny (model prog w) A (Builtin.SmallTypes.nextOf (.ref it)) Q E s:=by
 obtain ⟨oi,eo,ec,ed⟩:=id hi
 obtain ⟨ot,et,_,nt,dt⟩:=ht
 unfold Builtin.SmallTypes.nextOf
 refine wpAny_bind (wpAny_callSpecial?_slot (name:=Str.ofString "__next__") hi.typeIs F.slot_tuple_iterator_next (wpAny_call_entry F.slot_tuple_iterator_next hi.typeIs F.entry_tuple_iterator_next ?_ (F.args_tuple_iterator_next_1 _)))
 refine wpAny_bind (m:=field (.ref it) 0) (wpAny_field eo ed (x:= .ref tp) rfl ?_)
 show wpAny (model prog w) _ (if (Value.ref tp==Value.none)=true then _ else _) _ E s
 rw[if_neg (show ¬(Value.ref tp==Value.none)=true from Xi)]
 refine wpAny_bind (m:=field (.ref it) 1) (wpAny_field eo ed (x:= .int j 0) rfl ?_)
 refine wpAny_bind (m:=seqItems? (.ref tp)) (wpAny_seqItems et dt ?_)
 simp only[UA,hy]
 refine wpAny_bind (wpAny_setField eo ed (by simp) (wpAny_pure ⟨y,rfl,wpAny_pure (q _ ⟨_,Ya _ eo (Obj.isFreed_of_fields (Obj.data_mapFields ed _)),(Obj.cls_mapFields ..).trans ec,by rw[Obj.data_mapFields ed];simp[rawInt]⟩ (Z7 ..))⟩))
theorem AN {it tp:Addr} {j:Nat} {xs:Array Value} {Q:Value->Shared->Prop} (hh:A.handled=none) (hi:s.heap.IsTupleIter it tp j) (ht:s.heap.IsTuple tp xs) (hy:xs[j]? =none)
  (q: ∀h2 e,Heap.ExtBut it s.heap h2->(∃o,h2.get? e=some o/\o.cls= .type "StopIteration")->E (.ref e) { s with heap:=h2 }):wpAny (model prog w) A (Builtin.SmallTypes.nextOf (.ref it)) Q E s:=by
 obtain ⟨oi,eo,ec,ed⟩:=id hi
 obtain ⟨ot,et,_,nt,dt⟩:=ht
 unfold Builtin.SmallTypes.nextOf
 refine wpAny_bind (wpAny_callSpecial?_slot (name:=Str.ofString "__next__") hi.typeIs F.slot_tuple_iterator_next (wpAny_call_entry F.slot_tuple_iterator_next hi.typeIs F.entry_tuple_iterator_next ?_ (F.args_tuple_iterator_next_1 _)))
 refine wpAny_bind (m:=field (.ref it) 0) (wpAny_field eo ed (x:= .ref tp) rfl ?_)
 show wpAny (model prog w) _ (if (Value.ref tp==Value.none)=true then _ else _) _ E s
 rw[if_neg (show ¬(Value.ref tp==Value.none)=true from Xi)]
 refine wpAny_bind (m:=field (.ref it) 1) (wpAny_field eo ed (x:= .int j 0) rfl ?_)
 refine wpAny_bind (m:=seqItems? (.ref tp)) (wpAny_seqItems et dt ?_)
 simp only[UA,hy]
 refine wpAny_bind (wpAny_rule (wpAny_bind (wpAny_setField eo ed (by simp) ?_)))
 refine wpAny_bind (m:=newExc (.type "StopIteration") []) ?_
 simp only[newExc,newTuple]
 refine wpAny_bind (wpAny_newObj_type (wpAny_bind (m:=firstArgMember _ _) (wpAny_of_eq (a:=Value.none) (by first | rfl | (simp only[firstArgMember];rfl)) (wpAny_newObj_type ?_ (by size_fits)))) (by size_fits))
 simp only[raiseNew]
 refine wpAny_bind (wpAny_handled ?_);first | rw[show A.in1.handled=none from hh] | rw[hh]
 exact wpAny_bind (wpAny_pure (wpAny_throw (q _ _ (((Z7 ..).extBut.push _).push _) ⟨_,Xe _ rfl,rfl⟩)))
theorem mT (hh:A.handled=none) (it tp:Addr) (ne:tp≠it) (xs:Array Value):
  Draws prog w A it [it,tp] xs.size (fun i v=>xs[i]? =some v) (fun i h=>h.IsTupleIter it tp i/\h.IsTuple tp xs) where
 live:=fun _ _ z=>let ⟨o,e,_⟩:=z.1;⟨o,e⟩
 frame:=fun _ _ _ z k=>by
  obtain ⟨⟨o,e,r⟩,o2,e2,r2⟩:=z
  exact ⟨⟨o,k it (by simp) o e,r⟩,o2,k tp (by simp) o2 e2,r2⟩
 item:=fun i s Q E hi z q=>xw z.1 z.2 (y:=xs[i]) (by simp[hi]) fun h2 z2 sb=>q _ h2 s.toks (by simp[hi]) ⟨z2,z.2.extBut sb.extBut ne⟩ sb
 done:=fun s Q E z q=>AN hh z.1 z.2 (by simp) q
theorem vf (l:Addr) (items:Array Value) (n:Nat) (Q_:Option Addr) (sl:Array (Option Value)):
  Meets (Builtin.«enumerate.__new__» ⟨[.type "enumerate", .ref l],[]⟩) (fun _ R s=>s.heap.get? l=some { cls:= .type "tuple",dict:=Q_,data:= .seq items n,slots:=sl }/\
   R (.ok (.ret (.ref (s.heap.push { cls:= .type "tuple_iterator",data:= .fields #[.ref l, .int 0 0] }).objs.size)))
    { s with heap:=(s.heap.push { cls:= .type "tuple_iterator",data:= .fields #[.ref l, .int 0 0] }).push { cls:= .type "enumerate",data:= .fields #[.none, .bool false, .ref s.heap.objs.size,rawInt 0, .none, .none] } }):=
 .of_wp fun prog w A R s h=>by
  obtain ⟨hp,g,d,tk,os⟩:=s;obtain ⟨hl,q⟩:=h;have UK:=sub_enumerate
  have hT:Heap.IsTuple (Shared.heap ⟨hp,g,d,tk,os⟩) l items:=⟨_,hl,rfl,n,rfl⟩
  wp_walk using AutoSeq1.wpAny_loadPart' hl
  refine wpAny_stack_any fun st=>wpAny_pure ?_
  split
  ·rename_i c _ _ _ _ _
   cases (c==Value.type "enumerate")<;>(wp_walk using AutoSeq1.wpAny_loadPart' hl,wpAny_pyIter_tuple hT;exact ⟨_,rfl,q⟩)
  ·wp_walk using AutoSeq1.wpAny_loadPart' hl,wpAny_pyIter_tuple hT
   exact ⟨_,rfl,q⟩
theorem xx {l:Addr} {items:Array Value} {Q:Value->Shared->Prop} (hL:s.heap.IsTuple l items)
  (h: ∀h',IsEnum h' (s.heap.objs.size+1) s.heap.objs.size 0 .none->h'.IsTupleIter s.heap.objs.size l 0->(∀b o,s.heap.get? b=some o->h'.get? b=some o)->Q (.ref (s.heap.objs.size+1)) { s with heap:=h' }):
  wpAny (model prog w) A (call (.type "enumerate") [.ref l]) Q E s:=by
 obtain ⟨⟨c,Q_,dt,sl⟩,hl,hc,n,hd⟩:=hL
 cases (show c= .type "tuple" from hc)
 cases (show dt= .seq items n from hd)
 refine callType_new F.called_enumerate (by decide) (F.typeCall_enumerate_1 _) (F.newCall_enumerate_1 _) (fun ob=>F.args_object_init_2 ob _) F.entry_enumerate_new (vf l items n Q_ sl) ⟨hl,?_⟩
 have hz:(s.heap.push { cls:= .type "tuple_iterator",data:= .fields #[.ref l, .int 0 0] }).objs.size=s.heap.objs.size+1:=Zd ..
 show _/\_
 rw[hz]
 have he:IsEnum ((s.heap.push { cls:= .type "tuple_iterator",data:= .fields #[.ref l, .int 0 0] }).push { cls:= .type "enumerate",data:= .fields #[.none, .bool false, .ref s.heap.objs.size,rawInt 0, .none, .none] }) (s.heap.objs.size+1) s.heap.objs.size 0 .none:=by
  have:=Xe (s.heap.push { cls:= .type "tuple_iterator",data:= .fields #[.ref l, .int 0 0] }) (o:={ cls:= .type "enumerate",data:= .fields #[.none, .bool false, .ref s.heap.objs.size,rawInt 0, .none, .none] }) rfl
  rwa [hz]at this
 exact ⟨⟨_,he,rfl⟩,h _ he ⟨_,SF _ (Xe _ rfl),rfl,rfl⟩ fun b o x=>SF _ (SF _ x)⟩
end
noncomputable def CD (K:PySem.W.Frag) (a:Addr):It:=⟨fun i H=> ∃xs x,cT K H a xs/\xs[i]? =some x,fun i H x H'=> ∃T y,(∀xs,cT K H a xs->xs[i]? =some y)/\x= .ref T/\H T=none/\H'=upd H T (.tup [.int i,y]),fun i H=> ∃xs,cT K H a xs/\xs.length=i⟩
noncomputable def CF (K:PySem.W.Frag) (a:Addr):It:=⟨fun i H=> ∃xs x,bA K H a xs/\xs[i]? =some x,fun i H x H'=> ∃T y,(∀xs,bA K H a xs->xs[i]? =some y)/\x= .ref T/\H T=none/\H'=upd H T (.tup [.int i,y]),fun i H=> ∃xs,bA K H a xs/\xs.length=i⟩
theorem xA {P:Program} {w:World} {K:PySem.W.Frag} {elts:List Expr} {k:Nat} {pos:Pos} (e it a:Addr) (yX:e≠it) (NR:a≠e) (NS:a≠it):
  Turn P w K (.Tuple elts k pos) (CD K a) [e,it] e (fun i h=>(∃old,IsEnum h e it i old)/\h.IsTupleIter it a i) where
 mem:=by simp
 obj:=fun i h st b hb=>by
  obtain ⟨⟨old,he⟩,o,ho,hc,hd⟩:=st
  rcases WG.mp hb with z | z
  ·rw[z];exact ⟨_,he,fun v z=>by cases z⟩
  ·rw[O8.mp z];exact ⟨o,ho,fun v z=>by rw[hd]at z;cases z⟩
 keep:=fun i h h' st kp=>by
  obtain ⟨⟨old,he⟩,o,ho,r⟩:=st
  exact ⟨⟨old,kp e (by simp) _ he⟩,o,kp it (by simp) o ho,r⟩
 item:=by
  intro X hP hw hK hc i pins s σ H E I hf st hg
  subst hP hw hK
  obtain ⟨wI,wH⟩:=st
  obtain ⟨xs,x,hq,hx⟩:=hg
  obtain ⟨aJ,rv,p,hz⟩:=I.tuple hq
  obtain ⟨u0,hu,ru⟩:=rv.get hx
  have D:=mT (prog:=X.prog) (w:=X.w) (A:=X.A.in1) (I.ok.hd hc) it a NS aJ.toArray
  have W:=WalksT.enumerateD D e yX (by simp;exact ⟨yX,Ne.symm NR⟩) (by simp)
  have Ra:i<aJ.toArray.size:=by rw[WH];exact (Je.mp hu).1
  refine W.item i s _ _ Ra ⟨wI,wH,p⟩ fun T vals h' tk NP hT CA vb hk=>⟨_,rfl,?_⟩
  refine W.go elts k pos i T { s with heap:=h',toks:=tk } _ _ vb fun h2 vc xv=>?_
  obtain ⟨tt,x2,FT,rfl⟩:=NP
  have ex:x2=u0:=by
   rw[List.getElem?_toArray]at FT
   exact Xa (FT.symm.trans hu)
  subst ex
  have HJ:T∉[e,it]:=W.apart i T h' vb
  have vd:h2.IsTuple T #[.int i tt,x2]:=by
   obtain ⟨o,ho,r⟩:=CA
   exact ⟨o,xv T o HJ ho,r⟩
  refine ⟨.ref T,upd H T (.tup [.int i,x]),?_,rfl,⟨T,x,fun ys hy=>by rw[I.qJ hy hq];exact hx,rfl,I.b5.fresh hT,rfl⟩,⟨vc.1,vc.2.1⟩,fun b hb=>?_⟩
  ·refine I.oM (t':=tk) (h':=h2) (fun b o hb y=>xv b o hb (hk b o hb y)) hf hT ?_
   exact ⟨by show 2<=sizeLine;decide,[.int i tt,x2], .cons ⟨tt,rfl⟩ (.cons ru .nil),vd⟩
  ·rw[ay (fun z:b=T=>HJ (z▸hb))];exact (hf b hb).1
 done:=by
  intro X hP hw hK hc i pins s σ H E I hf st hg
  subst hP hw hK
  obtain ⟨wI,wH⟩:=st
  obtain ⟨xs,hq,hx⟩:=hg
  obtain ⟨aJ,rv,p,hz⟩:=I.tuple hq
  have hl:=rv.length
  have D:=mT (prog:=X.prog) (w:=X.w) (A:=X.A.in1) (I.ok.hd hc) it a NS aJ.toArray
  have W:=WalksT.enumerateD D e yX (by simp;exact ⟨yX,Ne.symm NR⟩) (by simp)
  refine W.done s _ _ ?_ fun h' tk hk=>⟨rfl,I.sW (t':=tk) hk hf⟩
  have e1:aJ.toArray.size=i:=by rw[WH];omega
  rw[e1]
  exact ⟨wI,wH,p⟩
 self:=fun _ _ s _ _ st h=>by
  obtain ⟨⟨old,he⟩,_⟩:=st
  exact wpAny_pyIter_enum he h
theorem xB {P:Program} {w:World} {K:PySem.W.Frag} {elts:List Expr} {k:Nat} {pos:Pos} (e it a:Addr) (yX:e≠it) (NR:a≠e) (NS:a≠it):
  Turn P w K (.Tuple elts k pos) (CF K a) [e,it] e (fun i h=>(∃old,IsEnum h e it i old)/\h.IsListIter it a i) where
 mem:=by simp
 obj:=fun i h st b hb=>by
  obtain ⟨⟨old,he⟩,o,ho,hc,hd⟩:=st
  rcases WG.mp hb with z | z
  ·rw[z];exact ⟨_,he,fun v z=>by cases z⟩
  ·rw[O8.mp z];exact ⟨o,ho,fun v z=>by rw[hd]at z;cases z⟩
 keep:=fun i h h' st kp=>by
  obtain ⟨⟨old,he⟩,o,ho,r⟩:=st
  exact ⟨⟨old,kp e (by simp) _ he⟩,o,kp it (by simp) o ho,r⟩
 item:=by
  intro X hP hw hK hc i pins s σ H E I hf st hg
  subst hP hw hK
  obtain ⟨wI,wH⟩:=st
  obtain ⟨xs,x,hq,hx⟩:=hg
  obtain ⟨aJ,rv,p,hz⟩:=I.list hq
  obtain ⟨u0,hu,ru⟩:=rv.get hx
  have D:=Draws.list (prog:=X.prog) (w:=X.w) (A:=X.A.in1) (I.ok.hd hc) it a NS aJ.toArray
  have W:=WalksT.enumerateD D e yX (by simp;exact ⟨yX,Ne.symm NR⟩) (by simp)
  have Ra:i<aJ.toArray.size:=by rw[WH];exact (Je.mp hu).1
  refine W.item i s _ _ Ra ⟨wI,wH,p.isList⟩ fun T vals h' tk NP hT CA vb hk=>⟨_,rfl,?_⟩
  refine W.go elts k pos i T { s with heap:=h',toks:=tk } _ _ vb fun h2 vc xv=>?_
  obtain ⟨tt,x2,FT,rfl⟩:=NP
  have ex:x2=u0:=by
   rw[List.getElem?_toArray]at FT
   exact Xa (FT.symm.trans hu)
  subst ex
  have HJ:T∉[e,it]:=W.apart i T h' vb
  have vd:h2.IsTuple T #[.int i tt,x2]:=by
   obtain ⟨o,ho,r⟩:=CA
   exact ⟨o,xv T o HJ ho,r⟩
  refine ⟨.ref T,upd H T (.tup [.int i,x]),?_,rfl,⟨T,x,fun ys hy=>by rw[I.uR hy hq];exact hx,rfl,I.b5.fresh hT,rfl⟩,⟨vc.1,vc.2.1⟩,fun b hb=>?_⟩
  ·refine I.oM (t':=tk) (h':=h2) (fun b o hb y=>xv b o hb (hk b o hb y)) hf hT ?_
   exact ⟨by show 2<=sizeLine;decide,[.int i tt,x2], .cons ⟨tt,rfl⟩ (.cons ru .nil),vd⟩
  ·rw[ay (fun z:b=T=>HJ (z▸hb))];exact (hf b hb).1
 done:=by
  intro X hP hw hK hc i pins s σ H E I hf st hg
  subst hP hw hK
  obtain ⟨wI,wH⟩:=st
  obtain ⟨xs,hq,hx⟩:=hg
  obtain ⟨aJ,rv,p,hz⟩:=I.list hq
  have hl:=rv.length
  have D:=Draws.list (prog:=X.prog) (w:=X.w) (A:=X.A.in1) (I.ok.hd hc) it a NS aJ.toArray
  have W:=WalksT.enumerateD D e yX (by simp;exact ⟨yX,Ne.symm NR⟩) (by simp)
  refine W.done s _ _ ?_ fun h' tk hk=>⟨rfl,I.sW (t':=tk) hk hf⟩
  have e1:aJ.toArray.size=i:=by rw[WH];omega
  rw[e1]
  exact ⟨wI,wH,p.isList⟩
 self:=fun _ _ s _ _ st h=>by
  obtain ⟨⟨old,he⟩,_⟩:=st
  exact wpAny_pyIter_enum he h
def Jo (K:PySem.W.Frag) (ta:TA):TI:=fun σ H R=>ta σ H fun vs H1=> ∃a,vs=[.ref a]/\(∃xs,cT K H1 a xs)/\R (CD K a) H1
def Jp (K:PySem.W.Frag) (ta:TA):TI:=fun σ H R=>ta σ H fun vs H1=> ∃a,vs=[.ref a]/\(∃xs,bA K H1 a xs)/\R (CF K a) H1
theorem vg {X:Cx} (K:PySem.W.Frag) (hK:X.K=K) {elts:List Expr} {k:Nat} {pos':Pos} {a:Expr} {ta:TA} {p pos:Pos} (hg:Gl X "enumerate") (hm:X.mg "enumerate"=none) (ha:PA X [a] ta) (hs:starEach [a] X.env=[(false,eval a X.env)]:=by rfl):PI X (.Tuple elts k pos') (.Call (.Name "enumerate" p) [a] [] pos) (Jo K ta):=by
 subst hK
 intro pins s σ H R I h
 refine Call_ (gL I hg hm boot_enumerate (X3 (b_ (ha pos pins s σ H _ I h) fun us s1 ⟨vs,H1,I1,r1,q1⟩=>?_) hs rfl))
 obtain ⟨b,rfl,⟨xs,hq⟩,q⟩:=q1
 obtain ⟨u,rfl,ru⟩:=vals1 r1
 cases ru
 obtain ⟨aJ,rv,pl,hz⟩:=I1.tuple hq
 obtain ⟨ob,eb,_⟩:=id pl
 have dz:b<s1.heap.objs.size:=Xf eb
 refine xx pl fun h' he hit hk=>wpAny_pyIter_enum he ?_
 refine ⟨s1.heap.objs.size+1,[s1.heap.objs.size+1,s1.heap.objs.size],_,_,H1,rfl,I1.kept (t':=s1.toks) hk,xA _ _ b (Zv _) (Xm (YG dz)) (Xm dz),⟨⟨_,he⟩,hit⟩,fun c hb=>?_,q⟩
 have j7:s1.heap.objs.size<=c:=by
  rcases WG.mp hb with z | z
  ·rw[z];exact Yp _
  ·rw[O8.mp z];exact SA _
 exact I1.og j7 (I1.b5.fresh j7)
theorem vh {X:Cx} (K:PySem.W.Frag) (hK:X.K=K) {elts:List Expr} {k:Nat} {pos':Pos} {a:Expr} {ta:TA} {p pos:Pos} (hg:Gl X "enumerate") (hm:X.mg "enumerate"=none) (ha:PA X [a] ta) (hs:starEach [a] X.env=[(false,eval a X.env)]:=by rfl):PI X (.Tuple elts k pos') (.Call (.Name "enumerate" p) [a] [] pos) (Jp K ta):=by
 subst hK
 intro pins s σ H R I h
 refine Call_ (gL I hg hm boot_enumerate (X3 (b_ (ha pos pins s σ H _ I h) fun us s1 ⟨vs,H1,I1,r1,q1⟩=>?_) hs rfl))
 obtain ⟨b,rfl,⟨xs,hq⟩,q⟩:=q1
 obtain ⟨u,rfl,ru⟩:=vals1 r1
 cases ru
 obtain ⟨aJ,rv,pl,hz⟩:=I1.list hq
 obtain ⟨ob,eb,_⟩:=id pl.isList
 have dz:b<s1.heap.objs.size:=Xf eb
 refine call_enumerate_list pl.isList fun h' he hit hsz hk=>wpAny_pyIter_enum he ?_
 refine ⟨s1.heap.objs.size+1,[s1.heap.objs.size+1,s1.heap.objs.size],_,_,H1,rfl,I1.kept (t':=s1.toks) hk,xB _ _ b (Zv _) (Xm (YG dz)) (Xm dz),⟨⟨_,he⟩,hit⟩,fun c hb=>?_,q⟩
 have j7:s1.heap.objs.size<=c:=by
  rcases WG.mp hb with z | z
  ·rw[z];exact Yp _
  ·rw[O8.mp z];exact SA _
 exact I1.og j7 (I1.b5.fresh j7)
theorem q0 {K:PySem.W.Frag} {a:Addr} {xs:List V} {g:TG} {tb:TS} {D:Ends} {σ:St} {H:Hp} (Pv:Nat->St->Hp->Prop) (h0:Pv 0 σ H) (hl: ∀i σ H,i<=xs.length->Pv i σ H->cT K H a xs)
  (hs: ∀i x σ H T,xs[i]? =some x->Pv i σ H->H T=none->g (.ref T) σ (upd H T (.tup [.int i,x])) fun σ2 H2=>tb { D with nx:=Pv (i+1),ct:=Pv (i+1),bk:=D.nx } σ2 H2) (hd: ∀σ H,Pv xs.length σ H->D.nx σ H):
  ∃W:Nat->Nat->St->Hp->Prop,(∃m,W 0 m σ H)/\ ∀i m σ H,W i m σ H->
   ((CD K a).stop i H/\D.nx σ H)\/((CD K a).go i H/\ ∃N:St->Hp->Prop,(∀σ' H',N σ' H'-> ∃m',m'<m/\W (i+1) m' σ' H')/\ ∀x H',(CD K a).B2 i H x H'->g x σ H' fun σ2 H2=>tb { D with nx:=N,ct:=N,bk:=D.nx } σ2 H2):=by
 refine ⟨fun i m σ H=>m=xs.length - i/\i<=xs.length/\Pv i σ H,⟨xs.length,by simp,Xb _,h0⟩,?_⟩
 rintro i m σ H ⟨rfl,hi,p⟩
 have hq:=hl i σ H hi p
 by_cases dz:i<xs.length
 ·refine .inr ⟨⟨xs,xs[i],hq,by simp[dz]⟩,Pv (i+1),fun σ' H' p'=>⟨xs.length - (i+1),by omega,rfl,dz,p'⟩,fun x H' y=>?_⟩
  obtain ⟨T,z,hz,rfl,hn,rfl⟩:=y
  exact hs i z σ _ T (hz xs hq) p hn
 ·have e:i=xs.length:=by omega
  subst e
  exact .inl ⟨⟨xs,hq,rfl⟩,hd σ H p⟩
theorem q5 {K:PySem.W.Frag} {a:Addr} {xs:List V} {g:TG} {tb:TS} {D:Ends} {σ:St} {H:Hp} (Pv:Nat->St->Hp->Prop) (h0:Pv 0 σ H) (hl: ∀i σ H,i<=xs.length->Pv i σ H->bA K H a xs)
  (hs: ∀i x σ H T,xs[i]? =some x->Pv i σ H->H T=none->g (.ref T) σ (upd H T (.tup [.int i,x])) fun σ2 H2=>tb { D with nx:=Pv (i+1),ct:=Pv (i+1),bk:=D.nx } σ2 H2) (hd: ∀σ H,Pv xs.length σ H->D.nx σ H):
  ∃W:Nat->Nat->St->Hp->Prop,(∃m,W 0 m σ H)/\ ∀i m σ H,W i m σ H->
   ((CF K a).stop i H/\D.nx σ H)\/((CF K a).go i H/\ ∃N:St->Hp->Prop,(∀σ' H',N σ' H'-> ∃m',m'<m/\W (i+1) m' σ' H')/\ ∀x H',(CF K a).B2 i H x H'->g x σ H' fun σ2 H2=>tb { D with nx:=N,ct:=N,bk:=D.nx } σ2 H2):=by
 refine ⟨fun i m σ H=>m=xs.length - i/\i<=xs.length/\Pv i σ H,⟨xs.length,by simp,Xb _,h0⟩,?_⟩
 rintro i m σ H ⟨rfl,hi,p⟩
 have hq:=hl i σ H hi p
 by_cases dz:i<xs.length
 ·refine .inr ⟨⟨xs,xs[i],hq,by simp[dz]⟩,Pv (i+1),fun σ' H' p'=>⟨xs.length - (i+1),by omega,rfl,dz,p'⟩,fun x H' y=>?_⟩
  obtain ⟨T,z,hz,rfl,hn,rfl⟩:=y
  exact hs i z σ _ T (hz xs hq) p hn
 ·have e:i=xs.length:=by omega
  subst e
  exact .inl ⟨⟨xs,hq,rfl⟩,hd σ H p⟩
section
variable {X:Cx}
def CG (K:PySem.W.Frag):List V->Hp->VK->Prop:=fun xs H Q=>(∃l:List Nat,xs=[.str (S l)]/\l.length<=sizeLine/\ ∀p,H p=none->Q (.ref p) (upd H p (.lst (cg l))))\/yW K xs H Q
theorem sX (K:PySem.W.Frag) (h:X.K=K) (hc:X.calm=true):dB X (.type "list") (CG K):=by
 intro pins s σ H xs us Q I r q
 rcases q with q | q
 ·exact oB hc pins s σ H xs us Q I r q
 ·exact gg K h pins s σ H xs us Q I r q
end
section
variable {X:Cx}
def Jq (K:PySem.W.Frag):List V->Hp->VK->Prop:=fun xs H Q=> ∃p ys,xs=[.ref p]/\((bA K H p ys/\ ∀l,H l=none->Q (.ref l) (upd H l (.tup ys)))\/(cT K H p ys/\Q (.ref p) H))
theorem dX (K:PySem.W.Frag) (h:X.K=K):dB X (.type "tuple") (Jq K):=by subst h;exact qm
end
theorem oN {K:PySem.W.Frag} {a:Addr} {xs:List V} {σc:St} {g:TG} {tc:TT} {te:TE} {Q:VK} {H1:Hp} (Pv:Nat->List V->Hp->Prop) (hn:xs.length<sizeLine) (hl: ∀i acc H,Pv i acc H->cT K H a xs) (h0:Pv 0 [] H1)
  (hs: ∀(i:Nat) (x:V) (acc:List V) (H:Hp) (Nx:List V->Hp->Prop),i<xs.length->xs[i]? =some x->acc.length<=i->Pv i acc H->(∀eK H',eK.length<=i+1->Pv (i+1) eK H'->Nx eK H')->
   g x σc H fun σ2 H2=>Wk σc σ2/\tc σ2 H2 fun b H3=>if b=true then te σ2 H3 fun v H4=>Nx (acc++[v]) H4 else Nx acc H3)
  (hd: ∀acc H D,acc.length<=xs.length->Pv xs.length acc H->H D=none->Q (.ref D) (upd H D (.lst acc))):qS (Qw K a) σc g tc te Q H1:=
 nK (xs:=fun i x=>xs[i]? =some x) Pv hn (fun i acc H h p=>⟨xs,xs[i],hl i acc H p,by simp[h]⟩) (fun acc H p=>⟨xs,hl _ acc H p,SA _⟩) (fun i acc H x H' h p y=>⟨y.1,y.2 xs (hl i acc H p)⟩) h0 hs hd
theorem FU (l a b:Nat):K3 (.str (S [l])) [.str (S [a]), .str (S [b])]=(decide (l=a)||decide (l=b)):=by
 have key: ∀c:Nat,Fx (.str (S [c])) (.str (S [l]))=decide (l=c):=fun c=>by
  show decide (S [c]=S [l])=_
  refine decide_eq_decide.mpr ⟨fun z=>?_,fun z=>by rw[z]⟩
  have:=congrArg (fun x:Str=>x.cps.toList) z
  simpa [S,eq_comm]using this
 unfold K3
 rw[Yq,Yq,List.any_nil,key,key,Zt]
def dY (H H':Hp):Prop:= ∀c xs,H c=some (.tup xs)->H' c=some (.tup xs)
theorem dY.trans {H H1 H2:Hp} (a:dY H H1) (b:dY H1 H2):dY H H2:=fun c xs h=>b c xs (a c xs h)
theorem dY.of {H H':Hp} (s:aq H H'):dY H H':=fun c xs h=>s c _ h
theorem dY.FV {H:Hp} {p:Addr} {ys:List V} {o:HO} (h:H p=some (.lst ys)):dY H (upd H p o):=fun c xs e=>by
 rw[ay (fun z=>by rw[z,h]at e;cases e)];exact e
section
variable {prog:Program} {w:World} {A:Around} {E:Value->Shared->Prop} {s:Shared}
end
section
variable {X:Cx}
end
section
variable {prog:Program} {w:World} {A:Around} {E:Value->Shared->Prop} {s:Shared}
noncomputable def bI:List Int->List Int->Bool
 | [],[]=>false
 | [],_::_=>true
 | _::_,[]=>false
 | a::r,b::t=>if a=b then bI r t else decide (a<b)
end
section
variable {X:Cx}
end
end L2
namespace HT
open PySem PySem.Spec PyProof.Rows
section
variable {prog:Program} {w:World} {A:Around} {E:Value->Shared->Prop} {s:Shared}
end
end HT
namespace L2
open PySem PySem.Spec PyProof.Rows
section
variable {X:Cx} {e st:Expr} {te:TE} {ts:TO} {pos p2:Pos}
end
section
variable {κ:Type} [DecidableEq κ]
noncomputable def cU (aL:List (κ×V)) (k:κ):Option V:=(aL.find? fun kv=>decide (kv.1=k)).map (·.2)
noncomputable def putK (aL:List (κ×V)) (k:κ) (v:V):List (κ×V):=
 if (aL.any fun kv=>decide (kv.1=k))=true then aL.map (fun kv=>if kv.1=k then (kv.1,v) else kv) else aL++[(k,v)]
theorem cG {p:κ×V} {r:List (κ×V)} {k:κ} (e:p.1=k):cU (p::r) k=some p.2:=by simp[cU,Yv,e]
theorem cn {p:κ×V} {r:List (κ×V)} {k:κ} (e: ¬p.1=k):cU (p::r) k=cU r k:=by simp[cU,Yv,e]
theorem iN (k:κ): ∀aL:List (κ×V),(aL.any fun kv=>decide (kv.1=k))=(cU aL k).isSome
 | []=>rfl
 | p::r=>by
  rw[Yq]
  by_cases e:p.1=k
  ·simp only[cG e,decide_eq_true e,Bool.true_or,Option.isSome_some]
  ·rw[cn e,decide_eq_false e,Zu];exact iN k r
theorem vm (k j:κ) (y:V): ∀aL:List (κ×V),cU (aL.map fun kv=>if kv.1=k then (kv.1,y) else kv) j=(cU aL j).map fun x=>if j=k then y else x
 | []=>rfl
 | p::r=>by
  have ih:=vm k j y r
  rw[Xl]
  by_cases h:p.1=k
  ·rw[if_pos h]
   by_cases e:p.1=j
   ·rw[cG (p:=(p.1,y)) e,cG e,ZG,if_pos (e.symm.trans h)]
   ·rw[cn (p:=(p.1,y)) e,cn e,ih]
  ·rw[if_neg h]
   by_cases e:p.1=j
   ·rw[cG (p:=p) e,cG e,ZG,if_neg (fun z=>h (e.trans z))]
   ·rw[cn (p:=p) e,cn e,ih]
theorem q8 (k j:κ) (y:V): ∀aL:List (κ×V),cU aL k=none->cU (aL++[(k,y)]) j=if j=k then some y else cU aL j
 | [],_=>by
  by_cases e:k=j
  ·rw[if_pos e.symm];exact cG (p:=(k,y)) e
  ·rw[if_neg (fun z=>e z.symm)];exact cn (p:=(k,y)) e
 | p::r,hn=>by
  rw[YM]
  have hk: ¬p.1=k:=fun z=>by rw[cG z]at hn;cases hn
  rw[cn hk]at hn
  have ih:=q8 k j y r hn
  by_cases e:p.1=j
  ·rw[cG e,cG e,if_neg (fun z=>hk (e.trans z))]
  ·rw[cn e,cn e,ih]
theorem vn (aL:List (κ×V)) (k j:κ) (y:V):cU (putK aL k y) j=if j=k then some y else cU aL j:=by
 unfold putK
 by_cases a:(aL.any fun kv=>decide (kv.1=k))=true
 ·rw[if_pos a,vm]
  rw[iN]at a
  by_cases e:j=k
  ·obtain ⟨x,hx⟩:=Option.isSome_iff_exists.mp a
   rw[if_pos e,e,hx,ZG,if_pos rfl]
  ·rw[if_neg e]
   cases cU aL j with
   | none=>rfl
   | some x=>rw[ZG,if_neg e]
 ·rw[if_neg a]
  refine q8 k j y aL ?_
  rw[iN]at a
  cases q:cU aL k with
  | none=>rfl
  | some x=>rw[q]at a;exact (a rfl).elim
theorem eV (aL:List (κ×V)) (k:κ) (v:V):(putK aL k v).length<=aL.length+1:=by
 unfold putK
 split
 ·rw[K4];omega
 ·rw[SD,XB,List.length_nil];omega
theorem vp {aL:List (κ×V)} {k:κ} (v:V) (h:cU aL k=none):putK aL k v=aL++[(k,v)]:=by
 unfold putK
 rw[iN,h]
 exact if_neg (by decide)
theorem lL.lT {o:Option V} {u:Option Value} (r:lL o u):o.isSome=u.isSome:=by
 cases o with
 | none=>cases u with
  | none=>rfl
  | some _=>exact (show False from r).elim
 | some _=>cases u with
  | none=>exact (show False from r).elim
  | some _=>rfl
theorem KV.val {aL:List (κ×V)} {vs:List (κ×Value)} (r:KV aL vs) (k:κ):lL (cU aL k) (valueAt vs k):=by
 unfold KV at r
 induction r with
 | nil=>exact True.intro
 | @cons p q ps qs h t ih=>
  obtain ⟨h1,h2⟩:=h
  by_cases e:p.1=k
  ·have e':q.1=k:=h1.symm.trans e
   have b:valueAt (q::qs) k=some q.2:=by simp[valueAt,Yv,e']
   rw[cG e,b];exact h2
  ·have e': ¬q.1=k:=fun z=>e (h1.trans z)
   have b:valueAt (q::qs) k=valueAt qs k:=by simp[valueAt,Yv,e']
   rw[cn e,b];exact ih
theorem KV.any {aL:List (κ×V)} {vs:List (κ×Value)} (r:KV aL vs) (k:κ):(aL.any fun kv=>decide (kv.1=k))=vs.any fun kv=>decide (kv.1=k):=by
 unfold KV at r
 induction r with
 | nil=>rfl
 | cons h t ih=>rw[Yq,Yq,ih,h.1]
theorem KV.Jr {aL:List (κ×V)} {vs:List (κ×Value)} (r:KV aL vs) (k:κ) {y:V} {u:Value} (ry:RelV y u):
  KV (aL.map fun kv=>if kv.1=k then (kv.1,y) else kv) (vs.map fun kv=>if kv.1=k then (kv.1,u) else kv):=by
 unfold KV at r ⊢
 induction r with
 | nil=>exact .nil
 | @cons p q ps qs h t ih=>
  rw[Xl,Xl]
  refine .cons ?_ ih
  obtain ⟨h1,h2⟩:=h
  by_cases e:p.1=k
  ·rw[if_pos e,if_pos (h1.symm.trans e)];exact ⟨h1,ry⟩
  ·rw[if_neg e,if_neg (fun z=>e (h1.trans z))];exact ⟨h1,h2⟩
theorem KV.put {aL:List (κ×V)} {vs:List (κ×Value)} (r:KV aL vs) (k:κ) {y:V} {u:Value} (ry:RelV y u):KV (putK aL k y) (stored vs k u):=by
 unfold putK stored
 rw[r.any k]
 by_cases e:(vs.any fun kv=>decide (kv.1=k))=true
 ·rw[if_pos e,if_pos e];exact r.Jr k ry
 ·rw[if_neg e,if_neg e];exact Paired.snoc r ⟨rfl,ry⟩
theorem KV.length {aL:List (κ×V)} {vs:List (κ×Value)} (r:KV aL vs):aL.length=vs.length:=Paired.length r
end
theorem y6 {P:Program} {w:World} {k:Key} {u:Value} (r:RelV (kV k) u):(cA P w).is k u=true:=by
 cases k with
 | inl i=>obtain ⟨t,e⟩:=(show ∃t,u=Value.int i t from r);subst e;exact uM P w i t
 | inr x=>obtain ⟨t,e⟩:=(show ∃t,u=Value.str x t from r);subst e;exact uN P w x t
theorem q9 {P:Program} {w:World}: ∀{ks:List Key} {us:List Value},Vals (ks.map kV) us->ItemsAre (cA P w) ks us
 | [],_,r=>by rw[List.map_nil]at r;cases r;exact .nil
 | k::ks,_,r=>by
  rw[Xl]at r
  cases r with
  | cons h t=>exact .cons (y6 h) (q9 t)
abbrev KT (H:Hp):List (List Key×V)->List (List Key×Addr×Value)->Prop:=Paired fun p q=>p.1=q.1/\H q.2.1=some (.tup (p.1.map kV))/\RelV p.2 q.2.2
theorem KT.val {H:Hp} {aL:List (List Key×V)} {xs:List (List Key×Addr×Value)} (r:KT H aL xs) (k:List Key):lL (cU aL k) ((atKey xs k).map (·.2)):=by
 induction r with
 | nil=>exact True.intro
 | @cons p q ps qs h t ih=>
  obtain ⟨h1,_,h2⟩:=h
  by_cases e:p.1=k
  ·have e':q.1=k:=h1.symm.trans e
   have b:atKey (q::qs) k=some q.2:=by simp[atKey,Yv,e']
   rw[cG e,b];exact h2
  ·have e': ¬q.1=k:=fun z=>e (h1.trans z)
   have b:atKey (q::qs) k=atKey qs k:=by simp[atKey,Yv,e']
   rw[cn e,b];exact ih
theorem KT.Jr {H:Hp} {aL:List (List Key×V)} {xs:List (List Key×Addr×Value)} (r:KT H aL xs) (k:List Key) {y:V} {u:Value} (ry:RelV y u):
  KT H (aL.map fun kv=>if kv.1=k then (kv.1,y) else kv) (xs.map (putAt k u)):=by
 induction r with
 | nil=>exact .nil
 | @cons p q ps qs h t ih=>
  rw[Xl,Xl]
  refine .cons ?_ ih
  obtain ⟨h1,h2,h3⟩:=h
  unfold putAt
  by_cases e:p.1=k
  ·rw[if_pos e,if_pos (h1.symm.trans e)];exact ⟨h1,h2,ry⟩
  ·rw[if_neg e,if_neg (fun z=>e (h1.trans z))];exact ⟨h1,h2,h3⟩
theorem KT.put {H:Hp} {aL:List (List Key×V)} {xs:List (List Key×Addr×Value)} (r:KT H aL xs) (k:List Key) {b:Addr} {y:V} {u:Value} (hb:H b=some (.tup (k.map kV))) (ry:RelV y u):
  KT H (putK aL k y) (storedH xs k b u):=by
 have e:(aL.any fun kv=>decide (kv.1=k))=(atKey xs k).isSome:=by
  rw[iN,(r.val k).lT,Option.isSome_map]
 unfold putK storedH
 rw[e]
 by_cases q:(atKey xs k).isSome=true
 ·rw[if_pos q,if_pos q];exact r.Jr k ry
 ·rw[if_neg q,if_neg q];exact Paired.snoc r ⟨rfl,hb,ry⟩
theorem KT.keeps {H H':Hp} {aL:List (List Key×V)} {xs:List (List Key×Addr×Value)} (r:KT H aL xs) (ht: ∀b ys,H b=some (.tup ys)->H' b=some (.tup ys)):KT H' aL xs:=
 Paired.Ip r fun _ _ z=>⟨z.1,ht _ _ z.2.1,z.2.2⟩
section
variable {P:Program} {w:World} {H:Hp} {h:Heap} {a:Addr}
theorem HK {u:HO} (ok:jX P w H h) (e:Rd H a u):cQ P w H h a u:=e.ok ok
theorem y7 {aL:List (Key×V)} (ok:jX P w H h) (e:Rd H a (.dK aL)):aL.length<=sizeLine/\(a==sysModules)=false/\ ∃vs,KV aL vs/\h.DictOf (cA P w) a vs:=
 show cQ P w H h a (.dK aL) from HK ok e
theorem NT {aL:List (Key×V)} (ok:jX P w H h) (e:H a=some (.dK aL)):aL.length<=sizeLine/\(a==sysModules)=false/\ ∃vs,KV aL vs/\h.DictOf (cA P w) a vs:=y7 ok (.inl e)
theorem sY {ks:List Key} (ok:jX P w H h) (e:H a=some (.tup (ks.map kV))):(tupleKind (cA P w)).is h ks a:=by
 obtain ⟨_,aJ,r,o,h1,h2,n,h3⟩:=(show cQ P w H h a (.tup (ks.map kV)) from ok a _ e)
 exact ⟨o,aJ.toArray,n,h1,h2,h3,by simpa using q9 r⟩
theorem y8 {aL:List (List Key×V)} (ok:jX P w H h) (e:Rd H a (.dT aL)):aL.length<=sizeLine/\(a==sysModules)=false/\
  ∃xs,KT H aL xs/\h.DictOfH (tupleKind (cA P w)) a xs:=by
 obtain ⟨z,y,xs,r,o,es,ep,h1,h2,h3,h4,h5⟩:=(show cQ P w H h a (.dT aL) from HK ok e)
 refine ⟨z,y,xs,r,o,es,ep,h1,h2,h3,h4,fun x hx=>?_,h5⟩
 have all: ∀{l:List (List Key×V)} {m:List (List Key×Addr×Value)},KT H l m-> ∀x∈m,(tupleKind (cA P w)).is h x.1 x.2.1:=by
  intro l m q
  induction q with
  | nil=>intro x hx;exact nomatch hx
  | @cons p q ps qs hq t ih=>
   intro x hx
   rcases WG.mp hx with e | hx
   ·subst e
    exact sY ok (by rw[<-hq.1];exact hq.2.1)
   ·exact ih x hx
 exact all r x hx
theorem NU {aL:List (List Key×V)} (ok:jX P w H h) (e:H a=some (.dT aL)):aL.length<=sizeLine/\(a==sysModules)=false/\
  ∃xs,KT H aL xs/\h.DictOfH (tupleKind (cA P w)) a xs:=y8 ok (.inl e)
end
def kI (H:Hp) (a:Addr) (y:V) (r:Option V):Prop:=
 (∃aL k,Rd H a (.dK aL)/\y=kV k/\r=cU aL k)\/ ∃aL k b,Rd H a (.dT aL)/\y= .ref b/\H b=some (.tup (k.map kV))/\r=cU aL k
def qq (H:Hp) (a:Addr) (y v:V) (H':Hp):Prop:=
 (∃aL k,H a=some (.dK aL)/\y=kV k/\aL.length<sizeLine/\H'=upd H a (.dK (putK aL k v)))\/
 ∃aL k b,H a=some (.dT aL)/\y= .ref b/\H b=some (.tup (k.map kV))/\aL.length<sizeLine/\H'=upd H a (.dT (putK aL k v))
theorem kI.k {H:Hp} {a:Addr} {aL:List (Key×V)} {k:Key} (e:H a=some (.dK aL)):kI H a (kV k) (cU aL k):= .inl ⟨aL,k, .inl e,rfl,rfl⟩
theorem kI.t {H:Hp} {a b:Addr} {aL:List (List Key×V)} {k:List Key} (e:H a=some (.dT aL)) (eb:H b=some (.tup (k.map kV))):kI H a (.ref b) (cU aL k):= .inr ⟨aL,k,b, .inl e,rfl,eb,rfl⟩
theorem qq.k {H:Hp} {a:Addr} {aL:List (Key×V)} {k:Key} {v:V} (e:H a=some (.dK aL)) (hl:aL.length<sizeLine):qq H a (kV k) v (upd H a (.dK (putK aL k v))):= .inl ⟨aL,k,e,rfl,hl,rfl⟩
theorem qq.t {H:Hp} {a b:Addr} {aL:List (List Key×V)} {k:List Key} {v:V} (e:H a=some (.dT aL)) (eb:H b=some (.tup (k.map kV))) (hl:aL.length<sizeLine):
  qq H a (.ref b) v (upd H a (.dT (putK aL k v))):= .inr ⟨aL,k,b,e,rfl,eb,hl,rfl⟩
section
variable {X:Cx} {pins:List (Addr×Obj)} {σ:St} {H:Hp} {s:Shared} {a:Addr} {y v:V} {u r:Value} {o:Option V} {A:Around} {E:Value->Shared->Prop}
theorem Inv.big (I:Inv X pins σ H s):sysModules<s.heap.objs.size:=by
 have h:mainGlobals<s.heap.objs.size:=(I.mod.glob.keeps I.bk).lt
 exact YK (by decide) h
theorem AO {Q:Value->Shared->Prop} (hu:A.units+1<cLine) (I:Inv X pins σ H s) (g:kI H a y (some v)) (ry:RelV y u) (h: ∀w' s',Inv X pins σ H s'->RelV v w'->Q w' s'):
  wpAny (model X.prog X.w) A (getItem (.ref a) u) Q E s:=by
 rcases g with ⟨aL,k,e,ey,l⟩ | ⟨aL,k,b,e,ey,eb,l⟩
 ·subst ey
  obtain ⟨z,hd,vs,rel,dd⟩:=y7 I.b5 e
  obtain ⟨w',hw,uY⟩:=lL.some_of (v:=v) (o:=valueAt vs k) (by rw[l];exact rel.val k)
  exact wpAny_getItem_of (y6 ry) dd.mapOf hw (h w' _ (I.tok _) uY)
 ·subst ey
  cases (show u=Value.ref b from ry)
  obtain ⟨z,hd,xs,rel,dd⟩:=y8 I.b5 e
  obtain ⟨w',hw,uY⟩:=lL.some_of (v:=v) (o:=(atKey xs k).map (·.2)) (by rw[l];exact rel.val k)
  obtain ⟨p,hp,jF⟩:=Option.map_eq_some_iff.mp hw
  refine wpAny_getItem_heap (tupleKind_room_in1 hu) (sY I.b5 eb) dd hp ?_
  rw[jF]
  exact h w' _ (I.tok _) uY
theorem FW {Q:Value->Shared->Prop} (hu:A.units+1<cLine) (I:Inv X pins σ H s) (g:kI H a y o) (ry:RelV y u) (h: ∀s',Inv X pins σ H s'->Q (.bool (!o.isSome)) s'):
  wpAny (model X.prog X.w) A (compareOp .NotIn u (.ref a)) Q E s:=by
 rcases g with ⟨aL,k,e,ey,l⟩ | ⟨aL,k,b,e,ey,eb,l⟩
 ·subst ey
  obtain ⟨z,hd,vs,rel,dd⟩:=y7 I.b5 e
  refine wpAny_notIn_of (y6 ry) hd dd.mapOf ?_
  rw[<-(rel.val k).lT, <-l]
  exact h _ (I.tok _)
 ·subst ey
  cases (show u=Value.ref b from ry)
  obtain ⟨z,hd,xs,rel,dd⟩:=y8 I.b5 e
  refine wpAny_notIn_heap (tupleKind_room_in1 hu) (sY I.b5 eb) hd dd ?_
  have q:=(rel.val k).lT
  rw[Option.isSome_map]at q
  rw[<-q, <-l]
  exact h _ (I.tok _)
theorem y9 {h':Heap} {t':Nat} {ob:HO} (I:Inv X pins σ H s) (mu:MI (H a)) (hs:Heap.SameBut a s.heap h') (he: ∃q,h'.get? a=some q) (new:cQ X.prog X.w (upd H a ob) h' a ob):
  Inv X pins σ (upd H a ob) { s with heap:=h',toks:=t' }:=
 I.write (x:=a) (e:=a) mu (.inl rfl) (fun b q hb z=>(hs.2 b hb).trans z) he new
theorem Js {P:Program} {w:World} {H':Hp} {h':Heap} {aL:List (Key×V)} {vs:List (Key×Value)} (z:aL.length<=sizeLine) (hd:(a==sysModules)=false) (rel:KV aL vs) (dd:h'.DictOf (cA P w) a vs):
  cQ P w H' h' a (.dK aL):=⟨z,hd,vs,rel,dd⟩
theorem AQ {H':Hp} {Q:Unit->Shared->Prop} (hu:A.units+1<cLine) (I:Inv X pins σ H s) (g:qq H a y v H') (ry:RelV y u) (rv:RelV v r) (h: ∀s',Inv X pins σ H' s'->Q () s'):
  wpAny (model X.prog X.w) A (setItem (.ref a) u r) Q E s:=by
 rcases g with ⟨aL,k,e,ey,l,eH⟩ | ⟨aL,k,b,e,ey,eb,l,eH⟩
 ·subst ey eH
  obtain ⟨z,hd,vs,rel,dd⟩:=NT I.b5 e
  have hz:vs.length<=sizeLine:=by rw[<-rel.length];exact z
  have hl:(putK aL k v).length<=sizeLine:=by have:=eV aL k v;omega
  refine wpAny_setItem_pairs (hsz:=hz) (y6 ry) dd fun h' O_ hs=>h _ ?_
  have he: ∃q,h'.get? a=some q:=let ⟨q,_,_,hq,_⟩:=O_;⟨q,hq⟩
  exact y9 I (by rw[e];exact True.intro) hs he (Js hl hd (rel.put k rv) O_)
 ·subst ey eH
  cases (show u=Value.ref b from ry)
  obtain ⟨z,hd,xs,rel,dd⟩:=NU I.b5 e
  have hz:xs.length<=sizeLine:=by rw[<-Paired.length rel];exact z
  have hl:(putK aL k v).length<=sizeLine:=by have:=eV aL k v;omega
  refine wpAny_setItem_heap (hsz:=hz) (tupleKind_room_in1 hu) (sY I.b5 eb) dd fun h' O_ hs=>h _ ?_
  obtain ⟨q,es,ep,hq,h2,h3,h4,_,h5⟩:=O_
  refine y9 I (by rw[e];exact True.intro) hs ⟨q,hq⟩ ⟨hl,hd,_,(rel.put k eb rv).keeps fun c ys ec=>?_,q,es,ep,hq,h2,h3,h4,h5⟩
  rw[ay (MH ec e (fun z=>nomatch z))]
  exact ec
end
section
variable {X:Cx} {pins:List (Addr×Obj)} {σ:St} {H:Hp} {s:Shared} {a:Addr} {aL:List (Key×V)} {k:Key} {u:Value} {A:Around} {E:Value->Shared->Prop}
end
def NV (i:Expr):Prop:= ∀ov iv,subscripted i false ov iv=operate [ov,iv] (getItem ov iv)
theorem FX {prog:Program} {w:World} {A:Around} {E:Value->Shared->Prop} {s:Shared} {env:Env} {value slice:Expr} {pos:Pos} {T id:String} {Q:Value->Shared->Prop}
  (hl:typeLookup (.type T) "__getitem__"=pure (some (.builtin id))) (hs:NV slice)
  (h:wpAny (model prog w) A (eval value env) (fun o s₁=>wpAny (model prog w) A (eval slice env) (fun i s₂=>s₂.TypeIs o T/\wpAny (model prog w) A (getItem o i) Q E s₂) E s₁) E s):
  wpAny (model prog w) A (eval (.Subscript value slice pos) env) Q E s:=by
 refine Subscript_ (wpAny_mono h (fun o s₁ h₁=>wpAny_mono h₁ (fun i s₂ h₂=>?_) fun _ _ x=>x) fun _ _ x=>x)
 obtain ⟨hT,h₂⟩:=h₂
 unfold subscriptTail
 refine wpAny_bind ?_
 rw[getitemInPython_of_ne hT.not_modules]
 refine wpAny_bind (wpAny_specialOf hT hl ?_)
 have fin:wpAny (model prog w) A (subscripted slice false o i) (fun r s₃=>wpAny (model prog w) A (letTemporaryGo value o r >>= fun _=>pure r) Q E s₃) E s₂:=by
  rw[hs o i]
  exact wpAny_operating (wpAny_mono h₂ (fun r s₃ h₃=>wpAny_bind (wpAny_letTemporaryGo (wpAny_pure h₃))) fun _ _ x=>x)
 first
  | exact wpAny_pure (wpAny_bind fin)
  | exact wpAny_bind (wpAny_pure (wpAny_bind fin))
  | exact wpAny_bind fin
theorem vq {X:Cx} {pins:List (Addr×Obj)} {σ:St} {H:Hp} {s:Shared} {a:Addr} {y:V} {o:Option V} (I:Inv X pins σ H s) (g:kI H a y o):s.TypeIs (.ref a) "dict":=by
 rcases g with ⟨aL,k,e,_,_⟩ | ⟨aL,k,b,e,_,_,_⟩
 ·obtain ⟨_,_,vs,_,dd⟩:=y7 I.b5 e
  exact dd.typeIs
 ·obtain ⟨_,_,xs,_,dd⟩:=y8 I.b5 e
  exact dd.typeIs
def NW (td ty:TE):TE:=fun σ H Q=>td σ H fun x H1=>ty σ H1 fun y H2=> ∃a v,x= .ref a/\kI H2 a y (some v)/\Q v H2
def FY (ty td:TE):TE:=fun σ H Q=>ty σ H fun y H1=>td σ H1 fun x H2=> ∃a o,x= .ref a/\kI H2 a y o/\Q (.bl (!o.isSome)) H2
def NX (td ty tv:TE):TS:=fun D σ H=>tv σ H fun v H1=>td σ H1 fun x H2=>ty σ H2 fun y H3=> ∃a H4,x= .ref a/\qq H3 a y v H4/\D.nx σ H4
section
variable {X:Cx} {o i e value:Expr} {pos pos' M9:Pos} {td ty tv:TE}
theorem nL (hu:X.A.units+1<cLine) (ho:PE X o td) (hi:PE X i ty) (hs:NV i):PE X (.Subscript o i pos) (NW td ty):=by
 intro pins s σ H Q I h
 refine FX PySem.F.slot_dict_getitem.lookup hs (b_ (ho pins s σ H _ I h) fun u s1 ⟨x,H1,I1,rx,q1⟩=>b_ (hi pins s1 σ H1 _ I1 q1) fun iv s2 ⟨y,H2,I2,ry,a,v,ex,g,q2⟩=>?_)
 subst ex
 obtain rfl:u=Value.ref a:=rx
 exact ⟨vq I2 g,AO hu I2 g ry fun w' s3 I3 uY=>⟨v,H2,I3,uY,q2⟩⟩
theorem AR (hu:X.A.units+1<cLine) (hi:PE X i ty) (ho:PE X o td):PC X .NotIn i o (FY ty td):=by
 intro pins s σ H Q I h
 refine b_ (hi pins s σ H _ I h) fun iv s1 ⟨y,H1,I1,ry,q1⟩=>b_ (ho pins s1 σ H1 _ I1 q1) fun u s2 ⟨x,H2,I2,rx,a,ov,ex,g,q2⟩=>?_
 subst ex
 obtain rfl:u=Value.ref a:=rx
 exact FW hu I2 g ry fun s3 I3=>⟨.bl (!ov.isSome),H2,I3,rfl,q2⟩
theorem nM (hu:X.A.units+1<cLine) (ho:PE X o td) (hi:PE X i ty) (hv:PE X value tv) (hs:swapsWith value (some (.Subscript o i pos')) pos.line X.env=pure false):
  PS X (.Assign [.Subscript o i pos'] value pos) (NX td ty tv):=by
 intro pins s σ H D I h
 refine wpAny_Assign_Subscript (b_ (hv pins s σ H _ I h) fun r s1 ⟨v,H1,I1,rv,q1⟩=>b_ (ho pins s1 σ H1 _ I1 q1) fun u s2 ⟨x,H2,I2,rx,q2⟩=>b_ (hi pins s2 σ H2 _ I2 q2) fun iv s3 ⟨y,H3,I3,ry,a,H4,ex,g,q3⟩=>?_) hs
 subst ex
 obtain rfl:u=Value.ref a:=rx
 exact AQ hu I3 g ry rv fun s4 I4=>⟨σ,H4,I4,q3⟩
end
theorem CH {P:Program} {w:World} {H:Hp} (h:Heap) (hb:sysModules<h.objs.size):cQ P w H (h.push { cls:= .type "dict",data:= .dict #[] }) h.objs.size (.dK []):=
 ⟨Xb _,beq_eq_false_iff_ne.mpr (Ne.symm (Xm hb)),[], .nil,Heap.DictOf.new h⟩
theorem CI {P:Program} {w:World} {H:Hp} (h:Heap) (hb:sysModules<h.objs.size):cQ P w H (h.push { cls:= .type "dict",data:= .dict #[] }) h.objs.size (.dT []):=
 ⟨Xb _,beq_eq_false_iff_ne.mpr (Ne.symm (Xm hb)),[], .nil,_, #[],0,Xe _ rfl,⟨rfl,rfl,rfl⟩,rfl,rfl,Yy⟩
def Jt:TE:=fun _ H Q=> ∀p,H p=none->Q (.ref p) (upd H p (.dK []))
def Ju:TE:=fun _ H Q=> ∀p,H p=none->Q (.ref p) (upd H p (.dT []))
section
variable {X:Cx} {pos:Pos}
theorem vv:PE X (.Dict [] [] pos) Jt:=fun pins s σ H Q I h=>
 wpAny_Dict_empty ⟨.ref s.heap.objs.size,_,I.laid (a:=s.heap.objs.size) (o:= .dK []) (t':=s.toks) (fun _ _ q=>SF _ q) (SA _) (CH s.heap I.big),rfl,h _ (I.b5.fresh (SA _))⟩
theorem CJ:PE X (.Dict [] [] pos) Ju:=fun pins s σ H Q I h=>
 wpAny_Dict_empty ⟨.ref s.heap.objs.size,_,I.laid (a:=s.heap.objs.size) (o:= .dT []) (t':=s.toks) (fun _ _ q=>SF _ q) (SA _) (CI s.heap I.big),rfl,h _ (I.b5.fresh (SA _))⟩
end
section
variable {X:Cx} {pins:List (Addr×Obj)} {σ:St} {H:Hp} {s:Shared} {a:Addr} {y d:V} {u r:Value} {o:Option V} {A:Around} {E:Value->Shared->Prop}
end
section
variable {X:Cx} {o e f:Expr} {apos ir:Pos} {td ty tx:TE}
end
section
variable {X:Cx} {pins:List (Addr×Obj)} {σ:St} {H:Hp} {s:Shared} {a:Addr} {aL:List (Key×V)} {A:Around} {E:Value->Shared->Prop}
end
section
variable {X:Cx} {pins:List (Addr×Obj)} {σ:St} {H:Hp} {s:Shared} {a:Addr} {y:V} {u:Value} {A:Around} {E:Value->Shared->Prop}
end
section
variable {prog:Program} {w:World} {A:Around} {E:Value->Shared->Prop} {s:Shared}
end
section
variable {X:Cx}
end
end L2
set_option maxHeartbeats 1000000
namespace L2
open PySem PySem.Spec PyProof.Rows
section
variable {prog:Program} {w:World} {KK:Type} [DecidableEq KK] {knd:KeyKind prog w KK}
end
section
variable {X:Cx}
end
end L2
set_option maxHeartbeats 1000000
namespace L2.F2
open PySem PySem.Spec PyProof.Rows
end L2.F2
namespace L2
open PySem PySem.Spec PyProof.Rows
section
variable {prog:Program} {w:World} {A:Around} {E:Value->Shared->Prop} {s:Shared}
end
section
variable {X:Cx}
end
end L2
set_option maxHeartbeats 1000000
namespace L2
open PySem PySem.Spec PyProof.Rows
section
variable {prog:Program} {w:World} {A:Around} {E:Value->Shared->Prop} {s:Shared}
end
section
variable {X:Cx}
end
end L2
set_option maxHeartbeats 2000000
namespace L2
open PySem PySem.Spec PyProof.Rows
noncomputable def E4 (a b c d:Int):Bool:=if a=c then decide (b<d) else decide (a<c)
section
variable {prog:Program} {w:World} {A:Around} {E:Value->Shared->Prop} {s:Shared}
theorem FZ {p q:Addr} {ox oy:Obj} {mx my:Nat} {a b c d:Int} {t1 t2 t3 t4:Tok} {P:PySem.Fin->Shared->Prop} (Pa:s.heap.get? p=some ox) (Rb:ox.data= .seq #[.int a t1, .int b t2] mx)
  (NY:s.heap.get? q=some oy) (wJ:oy.cls= .type "tuple") (Rc:oy.data= .seq #[.int c t3, .int d t4] my) (h:P (.done (.ret (.bool (E4 a b c d)))) s):
  wpAny (model prog w) A (Builtin.«tuple.__lt__» ⟨[.ref p, .ref q],[]⟩) P E s:=by
 have hT:s.TypeIs (.ref q) "tuple":=⟨oy,NY,wJ⟩
 show wpAny _ _ (isInstance (.ref q) (.type "tuple") >>= fun b=>_) _ _ s
 refine wpAny_bind (wpAny_isInstance (b:=true) hT isSubtype_tuple_tuple ?_)
 simp only[ZS,YC,if_false]
 refine wpAny_bind (wpAny_tupleItemsOf Pa Rb ?_)
 refine wpAny_bind (wpAny_tupleItemsOf NY Rc ?_)
 refine wpAny_bind ?_
 show wpAny _ _ (forIn [(Value.int a t1,Value.int c t3),(Value.int b t2,Value.int d t4)] _ _) _ _ _
 rw[Zf]
 refine wpAny_bind (wpAny_bind (wpAny_eqBool_int ?_))
 unfold E4 at h
 by_cases e:a=c
 ·rw[if_pos e]at h
  rw[show (a==c)=true by simp[e]]
  simp only[ZS,YC,if_false]
  refine wpAny_pure ?_
  dsimp only
  rw[Zf]
  refine wpAny_bind (wpAny_bind (wpAny_eqBool_int ?_))
  by_cases e2:b=d
  ·rw[show (b==d)=true by simp[e2]]
   simp only[ZS,YC,if_false]
   refine wpAny_pure ?_
   dsimp only
   rw[List.forIn_nil]
   refine wpAny_pure ?_
   dsimp only
   refine wpAny_pure ?_
   rw[decide_eq_false (by omega)]at h
   exact h
  ·rw[show (b==d)=false by simp[e2]]
   simp only[Bool.not_false,if_true]
   refine wpAny_bind (wpAny_rule ?_)
   refine wpAny_bind (lt_int ?_)
   refine wpAny_bind (wpAny_pure ?_)
   refine wpAny_pure ?_
   dsimp only
   refine wpAny_pure ?_
   dsimp only
   exact wpAny_pure h
 ·rw[if_neg e]at h
  rw[show (a==c)=false by simp[e]]
  simp only[Bool.not_false,if_true]
  refine wpAny_bind (wpAny_rule ?_)
  refine wpAny_bind (lt_int ?_)
  refine wpAny_bind (wpAny_pure ?_)
  refine wpAny_pure ?_
  dsimp only
  refine wpAny_pure ?_
  dsimp only
  exact wpAny_pure h
end
section
variable {X:Cx}
def Rf (K:PySem.W.Frag):R2:=fun x y H Q=> ∃p q a b c d,x= .ref p/\y= .ref q/\cT K H p [.int a, .int b]/\cT K H q [.int c, .int d]/\Q (.bl (E4 a b c d)) H
theorem vw {a b:Int} {us:List Value} (r:Vals [.int a, .int b] us): ∃t u,us=[.int a t, .int b u]:=by
 cases r with
 | cons r1 r=>
  cases r with
  | cons r2 r=>
   cases r
   obtain ⟨t,rfl⟩:=r1
   obtain ⟨u,rfl⟩:=r2
   exact ⟨t,u,rfl⟩
theorem Jv {k:Nat} (K:PySem.W.Frag) (h:X.K=K) (hr:eU k X.A):iG X (compareOp .Lt) (Rf K):=by
 subst h
 intro pins s σ H x y v u Q I rx ry h
 obtain ⟨p,q,a,b,c,d,rfl,rfl,hp,hq,r⟩:=h
 cases rx
 cases ry
 obtain ⟨xs,UL,px,_⟩:=I.tuple hp
 obtain ⟨ys,UM,py,_⟩:=I.tuple hq
 obtain ⟨ox,Pa,Q8,mx,Rb⟩:=px
 obtain ⟨oy,NY,wJ,my,Rc⟩:=py
 obtain ⟨t1,t2,rfl⟩:=vw UL
 obtain ⟨t3,t4,rfl⟩:=vw UM
 have hu:=hr.units
 show wpAny _ _ (richCompare .Lt (.ref p) (.ref q)) _ _ s
 have hT:s.TypeIs (.ref p) "tuple":=⟨ox,Pa,Q8⟩
 refine wpAny_richCompare_same_room hT ⟨oy,NY,wJ⟩ PySem.F.slot_tuple_lt (wpAny_call_entry PySem.F.slot_tuple_lt hT PySem.F.entry_tuple_lt (FZ Pa Rb NY wJ Rc ⟨_,rfl,(fun z=>nomatch z),?_⟩) (PySem.F.args_tuple_lt_2 _ _)) (by omega)
 exact ⟨.bl _,H,I,rfl,r⟩
end
section
variable {prog:Program} {w:World} {A:Around} {E:Value->Shared->Prop} {s:Shared}
end
section
variable {prog:Program} {w:World} {A:Around} {E:Value->Shared->Prop} {s:Shared}
end
section
variable {X:Cx}
end
section
variable {prog:Program} {w:World} {A:Around} {E:Value->Shared->Prop} {s:Shared}
end
section
variable {X:Cx}
end
section
variable {X:Cx}
end
section
variable {X:Cx} {st:Stmt} {rest:List Stmt} {t u:TS}
def Rg (t u:TS):TS:=fun D σ H=> ∃P:St->Hp->Prop,t { D with nx:=P } σ H/\ ∀σ' H',P σ' H'->u D σ' H'
theorem jl (h1:PS X st t) (h2:wR X rest u):wR X (st::rest) (Rg t u):=by
 intro pins s σ H D I h
 obtain ⟨P,h,g⟩:=h
 refine wpAny_execs_cons (b_ (h1 pins s σ H _ I h) fun f s1 q=>?_)
 cases f with
 | ret v=>exact q
 | brk=>exact q
 | cont=>exact q
 | next=>
  obtain ⟨τ,G,J,p⟩:=q
  exact h2 pins s1 τ G D J (g τ G p)
end
section
variable {X:Cx}
end
section
variable {X:Cx}
end
section
variable {prog:Program} {w:World} {A:Around} {E:Value->Shared->Prop} {s:Shared}
section
variable {z TI TO i1 i2:Addr} {f1 f2:List Addr} {n1 n2 i:Nat} {P1 P2:Nat->Value->Prop} {S1 S2:Nat->Heap->Prop} {a b:Value}
end
end
section
variable {X:Cx} {elts:List Expr} {k:Nat} {pos':Pos} {a b:Expr} {ta:TA} {p pos:Pos}
end
section
variable {X:Cx}
end
end L2
namespace L2
open PySem PySem.Spec PyProof.Rows PySem.MeetsSeq PySem.SeqAt
section
variable {X:Cx}
end
end L2
set_option maxHeartbeats 4000000
namespace XL
open PySem PySem.Spec PySem.Calls PyProof.Rows PySem.W Builtin Builtin.ObjectAttr
section
variable {prog:Program} {w:World} {A:Around} {E:Value->Shared->Prop} {h:Heap} {g:Array GenState} {d:Drawn} {t:Nat} {os:OsState} {K:Frag} {C:Addr}
variable {x:Addr} {mA:Str->Option Value} {name:Str} {v:Value}
end
end XL
set_option maxHeartbeats 4000000
namespace XL
open PySem PySem.Spec PySem.Calls PyProof.Rows PySem.W Builtin Builtin.ObjectAttr
section
variable {prog:Program} {w:World} {A:Around} {E:Value->Shared->Prop} {h:Heap} {g:Array GenState} {d:Drawn} {t:Nat} {os:OsState} {K:Frag} {C x:Addr}
end
end XL
set_option maxHeartbeats 4000000
namespace XL
open PySem PySem.Spec PySem.Calls PyProof.Rows PySem.W
section
variable {M:Model} {A:Around} {E:Value->Shared->Prop} {s:Shared} {base:Heap} {env:Env} {outer:List Env} {L e C:Addr} {dO:Option Addr}
end
end XL
set_option maxHeartbeats 4000000
namespace L2
open PySem PySem.Spec PyProof.Rows XL
section
variable {P:Program} {w:World} {H H' H1 H2:Hp} {h h' h0 h1 h2:Heap} {a e:Addr} {o:HO} {fs ex S:List Addr}
end
section
variable {P:Program} {w:World} {K:PySem.W.Frag} {mg:Str->Option Value} {base:Heap} {N:List Str} {qual:Str} {scope:Scope} {f:Addr} {cd:Value} {A:Around} {outer:List Env} {s:Shared} {H:Hp} {E:XK}
end
end L2
set_option maxHeartbeats 4000000
namespace L2
open PySem PySem.Spec PyProof.Rows XL
section
variable {X:Cx} {pins:List (Addr×Obj)} {σ:St} {H:Hp} {s:Shared} {a:Addr} {o:HO}
end
section
variable {X:Cx} {CX:Ay} {k:Nat} {f C:Addr} {fd:FuncData} {ps:List Str} {sp:Sp} {dvs:List V} {ds:List Value} {E:St->XK} {x:Str} {p pos:Pos} {e:Expr} {es:List Expr} {ta te:TE} {t:TA}
end
section
variable {P:Program} {w:World} {K:PySem.W.Frag} {mg:Str->Option Value} {base:Heap}
end
end L2
set_option maxHeartbeats 4000000
namespace L2
open PySem PySem.Spec PyProof.Rows XL
section
variable {X:Cx} {k:Nat} {f C M:Addr} {fd:FuncData} {ps:List Str} {sp:Sp} {x:Str} {p pos apos:Pos} {e:Expr} {es:List Expr} {ta te tv:TE} {t:TA} {pins:List (Addr×Obj)} {σ:St} {H:Hp} {s:Shared}
end
end L2
set_option maxHeartbeats 4000000
namespace L2
open PySem PySem.Spec PyProof.Rows XL
section
variable {X:Cx} {pins pn:List (Addr×Obj)} {σ:St} {H:Hp} {s:Shared} {W:Value->Shared->Prop} {ev:Value}
end
section
variable {X:Cx} {M:Addr} {n:Nat} {mx nm:Str} {body SO:List Stmt} {b₀:Stmt} {tb:(St->XK)->TS} {th:TS} {pos qr mp:Pos} {pins:List (Addr×Obj)} {σ:St} {H:Hp} {s:Shared} {D:Ends}
end
end L2
set_option maxHeartbeats 4000000
namespace L2
open PySem PySem.Spec PyProof.Rows XL
noncomputable def SQ (s:Stmt) (j:Nat):Stmt:=match s with
 | .ClassDef _ _ _ b _ _ _ _ _ _ _=>b.getD j (.Pass ⟨0,0,0,0⟩)
 | _=> .Pass ⟨0,0,0,0⟩
end L2
set_option maxHeartbeats 4000000
namespace L2
open PySem PySem.Spec PyProof.Rows XL
def NZ (_ j:Int):Prop:=0<j/\j<18446744073709551616
theorem dZ {X:Cx}:iG X (binaryOp .FloorDiv) (rI NZ fun i j=> .int (i / j)):=O3 fun i j _ _ _ _ _ hc q=>by
 have h1:(0:Int)<j:=hc.1
 have h2:j<18446744073709551616:=hc.2
 have h3:j.natAbs<2 ^ 64:=by omega
 exact floordiv_int (by omega) (by rw[Int.fdiv_eq_ediv_of_nonneg i (by omega)];exact q) (.inl (PyProof.noPylong_of_log2 (YK ((Nat.log2_lt (by omega)).mpr h3) (by decide))))
end L2
namespace PySem
end PySem
namespace L2
open PySem PySem.Spec PyProof.Rows
section
variable {P:Program} {w:World} {K:PySem.W.Frag} {mg:Str->Option Value} {base:Heap}
end
section
variable {X:Cx}
end
section
variable {X:Cx}
end
end L2
set_option maxHeartbeats 1000000
namespace L2.F3
open PySem PySem.Spec PyProof.Rows
end L2.F3
namespace L2
open PySem PySem.Spec PyProof.Rows
section
variable {prog:Program} {w:World} {A:Around} {E:Value->Shared->Prop} {s:Shared}
end
section
variable {X:Cx}
end
section
variable {P:Program} {w:World} {K:PySem.W.Frag} {mg:Str->Option Value} {base:Heap}
end
section
variable {X:Cx}
noncomputable def dg (n:Nat):List Nat:=((toString (n:Int):String):Str).cps.toList
theorem Rh (n:Nat):((toString (n:Int):String):Str)=S (dg n):=NG _
theorem AS {n:Nat} (h:n<2 ^ 60):((n:Int)).natAbs.log2<1920:=by
 rw[Int.natAbs_natCast]
 by_cases z:n=0
 ·subst z;decide
 ·exact (Nat.log2_lt z).mpr (Xq h (Nat.pow_le_pow_right (by decide) (by decide)))
theorem AU:dB X (.type "str") (fun xs H Q=> ∃n:Nat,xs=[.int n]/\n<2 ^ 60/\Q (.str (S (dg n))) H):=by
 intro pins s σ H xs us Q I r h
 obtain ⟨n,rfl,hz,q⟩:=h
 refine sE pins s σ H _ us Q I r ⟨n,rfl,AS hz,?_⟩
 rw[Rh]
 exact q
end
section
variable {X:Cx} {elts:List Expr} {k:Nat} {pos':Pos} {a b:Expr} {ta:TA} {p pos:Pos}
end
end L2
set_option maxHeartbeats 1000000
namespace L2
open PySem PySem.Spec PyProof.Rows
theorem vx:typeLookup (.type "dict") "__len__"=pure (some (.builtin "dict.__len__")):=PySem.F.slot_dict_len.lookup
section
variable {prog:Program} {w:World} {A:Around} {E:Value->Shared->Prop} {s:Shared} {KK:Type} [DecidableEq KK] {knd:PySem.KeyKind prog w KK}
theorem sZ {Q:List Value->Shared->Prop} (hh:A.handled=none) (d:Addr) (aL:List (KK×Value)) (ep:Nat) (hd:(d==sysModules)=false) (hm:s.heap.DictAt knd d aL ep) (hn:aL.length<=sizeLine)
  (hQ: ∀s' acc,(∀b o,s.heap.get? b=some o->s'.heap.get? b=some o)->s'.gens=s.gens->s'.drawn=s.drawn->s'.os=s.os->ItemsOf (fun i v=> ∃k x,aL[i]? =some (k,x)/\knd.is k v=true) acc aL.length->Q acc.toList s'):
  wpAny (model prog w) A (collect (.ref d)) Q E s:=by
 have hT:s.TypeIs (.ref d) "dict":=hm.dictOf.typeIs
 obtain ⟨od,N0,UN⟩:=id hT
 have N1:=Xf N0
 unfold collect
 refine wpAny_bind (wpAny_runValue (codeAny_builtin PySem.F.entry_proto_collect ?_))
 rw[Around.under_plainId PySem.F.plain_proto_collect _]
 show wpAny _ A.in1 (newList [] >>= fun l=>again (.builtin "list.__iadd__" ⟨[l, .ref d],[]⟩)) _ _ s
 refine wpAny_bind (wpAny_newObj_type ?_)
 refine wpAny_pure ⟨plainId_quiet PySem.F.plain_list_iadd _,codeAny_builtin PySem.F.entry_list_iadd ?_⟩
 rw[Around.under_plainId PySem.F.plain_list_iadd _]
 show wpAny _ A.in1 (Builtin.List.listExtendWith (.ref s.heap.objs.size) (.ref d) (.ref s.heap.objs.size)) _ _ _
 generalize hH:s.heap.push { cls:= .type "list",data:= .seq ([]:List Value).toArray }=H
 have Ri:H.objs.size=s.heap.objs.size+1:=by rw[<-hH,Zd]
 have K6:H.DictAt knd d aL ep:=hm.at' fun o e=>by rw[<-hH];exact SF _ e
 have UO:Shared.TypeIs { s with heap:=H } (.ref d) "dict":=K6.dictOf.typeIs
 have Rj:s.heap.objs.size≠d:=ZD N1
 unfold Builtin.List.listExtendWith
 refine wpAny_bind (wpAny_typeOf UO ?_)
 have h1:Builtin.List.listSameRef (.ref s.heap.objs.size) (.ref d)=false:=by simp[Builtin.List.listSameRef,Rj]
 rw[if_neg (by rw[h1];decide)]
 refine wpAny_bind (wpAny_pyIter_dict (s:={ s with heap:=H }) hd K6 ?_)
 show wpAny _ A.in1 _ _ _ { s with heap:=H.push { cls:= .type "dict_keyiterator",data:= .fields #[.ref d, .int 0 0, .int aL.length 0, .int ep 0] } }
 generalize HC:H.push { cls:= .type "dict_keyiterator",data:= .fields #[.ref d, .int 0 0, .int aL.length 0, .int ep 0] }=H2
 have E5:H2.DictAt knd d aL ep:=K6.at' fun o e=>by rw[<-HC];exact SF _ e
 have Rk:Shared.TypeIs { s with heap:=H2 } (.ref d) "dict":=E5.dictOf.typeIs
 refine wpAny_bind (wpAny_holding ?_)
 unfold Builtin.List.listLengthHint
 refine wpAny_bind (wpAny_specialOf Rk vx ?_)
 wp_delta
 refine wpAny_bind (wpAny_isInstance (T:="dict") (b:=true) Rk (by rw[isSubtype_type];kernel_rfl) ?_)
 show wpAny _ A.in1 (typeOf (Value.ref d) >>= _) _ _ _
 refine wpAny_bind (wpAny_typeOf Rk ?_)
 refine wpAny_pure ?_
 rw[if_pos (by decide+kernel)]
 refine wpAny_bind (wpAny_rule ?_)
 refine wpAny_bind ?_
 unfold Builtin.List.listTouch
 have hS:H2.get? s.heap.objs.size=some { cls:= .type "list",data:= .seq ([]:List Value).toArray }:=by
  rw[<-HC];exact SF _ (by rw[<-hH];exact Xe _ rfl)
 refine wpAny_bind (wpAny_updateSeq hS rfl ?_ (Xb _) (Yi (Xb _)))
 have SR:=Ya (Obj.mapSeq (fun l:Array Value=>l.push .none)) hS rfl
 refine wpAny_updateSeq SR rfl ?_ (by show 1<=sizeLine;decide) (Xb _)
 have UP:=Ya (Obj.mapSeq (fun l:Array Value=>l.pop)) SR rfl
 have Rl: ∀b o,b≠s.heap.objs.size->H2.get? b=some o->((H2.update s.heap.objs.size (Obj.mapSeq (fun l:Array Value=>l.push .none))).update s.heap.objs.size (Obj.mapSeq (fun l:Array Value=>l.pop))).get? b=some o:=fun b o hb e=>
  (XJ _ _ (Ne.symm hb)).trans ((XJ _ _ (Ne.symm hb)).trans e)
 have hit:H2.get? H.objs.size=some { cls:= .type "dict_keyiterator",data:= .fields #[.ref d, .int 0 0, .int aL.length 0, .int ep 0] }:=by rw[<-HC];exact Xe _ rfl
 have SU:H.objs.size≠s.heap.objs.size:=by rw[Ri];exact Zv _
 have UQ:d≠H.objs.size:=by rw[Ri];exact Xm (YG N1)
 have UR:s.heap.objs.size∉[H.objs.size,d]:=fun US=>by
  rcases WG.mp US with z | z
  ·exact SU z.symm
  ·exact Rj (O8.mp z)
 refine wpAny_pure ⟨plainId_quiet PySem.F.plain_extend_loop _,codeAny_extend_loopS (Walks.dictKeys (knd:=knd) (A:=A.in1) hh H.objs.size d UQ aL ep).toS hn _ UR _ aL.length 0 _ _ _ rfl (Xb _)
  ⟨⟨_,Rl _ _ SU hit,rfl,rfl⟩,E5.at' fun o e=>Rl d o (Ne.symm Rj) e⟩ UP (ItemsOf.nil _) fun s' eK c' Pb UT xm=>?_⟩
 show wpAny _ A (load s.heap.objs.size >>= _) _ _ s'
 refine wpAny_bind (wpAny_load UT ?_)
 refine wpAny_pure (hQ s' eK (fun b ob e=>Pb.heap b ob (fun hb=>?_) (Rl b ob (Xm (Xf e)) (by rw[<-HC];exact SF _ (by rw[<-hH];exact SF _ e)))) Pb.gens Pb.drawn Pb.os xm)
 have dz:=Xf e
 rcases WG.mp hb with h | h
 ·exact absurd dz (h▸XN _)
 ·rw[O8.mp h,Ri]at dz;exact absurd dz (Nat.not_lt.mpr (Yp _))
end
section
variable {X:Cx}
theorem y_ {aL:List (Key×V)} {vs:List (Key×Value)} (h:KV aL vs):vs.map (·.1)=aL.map (·.1):=by
 induction h with
 | nil=>rfl
 | cons r _ ih=>rw[Xl,Xl,ih,r.1]
end
section
variable {X:Cx}
end
end L2
set_option maxHeartbeats 4000000
namespace XL
open PySem PySem.Spec PySem.Calls PyProof.Rows PySem.W
section
variable {M:Model} {A:Around} {E:Value->Shared->Prop} {s:Shared} {base:Heap} {env UU:Env} {outer:List Env} {L e C:Addr} {dO:Option Addr}
end
end XL
set_option maxHeartbeats 4000000
namespace L2
open PySem PySem.Spec PyProof.Rows XL
section
variable {P:Program} {w:World} {K:PySem.W.Frag} {mg:Str->Option Value} {base:Heap} {N:List Str} {qual:Str} {scope:Scope} {f:Addr} {cd:Value} {A:Around} {outer:List Env} {s:Shared} {H:Hp} {E:XK}
end
section
variable {X:Cx} {scope:Scope} {C:Addr} {Nc:List Str} {s0:Shared} {H0:Hp} {fp:List Addr} {pn pins:List (Addr×Obj)} {xe:Value->Shared->Prop} {σ:St} {H:Hp} {s:Shared}
end
end L2
set_option maxHeartbeats 1000000
namespace L2
open PySem PySem.Spec PyProof.Rows
section
variable {X:Cx}
end
section
variable {X:Cx}
end
end L2
namespace PySem
open Sem (wp)
section
variable {prog:Program} {w:World} {K:Type} [DecidableEq K] (knd:KeyKind prog w K)
variable {knd}
variable {A:Around} {E:Value->Shared->Prop} {s:Shared}
end
end PySem
namespace PySem
open Sem (wp)
namespace F
end F
section
variable {prog:Program} {w:World} {A:Around} {E:Value->Shared->Prop} {s:Shared}
end
section
variable {prog:Program} {w:World} {K:Type} [DecidableEq K] {knd:HeapKind prog w K} {A:Around} {E:Value->Shared->Prop} {s:Shared}
end
end PySem
namespace L2
open PySem PySem.Spec PyProof.Rows
section
variable {X:Cx} {o i:Expr} {pos:Pos} {td ty:TE}
end
end L2
namespace L2.F2
open PySem PySem.Spec PyProof.Rows
end L2.F2
namespace L2
open PySem PySem.Spec PyProof.Rows
section
variable {prog:Program} {w:World} {A:Around} {E:Value->Shared->Prop} {s:Shared}
end
section
variable {X:Cx} {tg:Expr}
end
end L2
set_option maxHeartbeats 1000000
namespace L2
open PySem PySem.Spec PyProof.Rows
section
variable {X:Cx}
theorem CK {i:Nat} (h:(i:Int)<2 ^ 63):Builtin.List.listFitsIndex (i:Int)=true:=by
 unfold Builtin.List.listFitsIndex
 rw[XZ]
 exact ⟨decide_eq_true (by omega),decide_eq_true (by omega)⟩
def F_:V->List V->Hp->VK->Prop:=fun x vs H Q=> ∃(l:Addr) (xs:List V) (i:Nat) (y:V),x= .ref l/\vs=[.int i,y]/\H l=some (.lst xs)/\i<=xs.length/\xs.length<sizeLine/\Q .fE (upd H l (.lst (xs.take i++y::xs.drop i)))
theorem AV:Nr X "list.insert" F_:=by
 intro pins s σ H x vs v us Q I rx rv h
 obtain ⟨l,xs,i,y,rfl,rfl,hH,hi,hz,q⟩:=h
 cases rx
 obtain ⟨a,b,rfl,⟨t,rfl⟩,rb⟩:=vals2 rv
 obtain ⟨z,aJ,n,r,hl,e⟩:=I.xh hH
 have hn:=fF
 have hf: ¬(!Builtin.List.listFitsIndex (i:Int))=true:=by rw[CK (by omega)];decide
 have hsz:aJ.toArray.size<=sizeLine:=by rw[WH];omega
 generalize hI:(i:Int)=I' at hf
 have hm:=PySem.AutoSeq1.list_insert_list_int_val_1 l aJ.toArray n I' t b hf hsz
 refine call_meets F.slot_list_insert ⟨_,e,rfl⟩ F.entry_list_insert (F.args_list_insert_3 _ _ _) hm ⟨e,?_⟩
 clear hm
 refine ⟨.fE,_,I.Ce (its':=aJ.take i++b::aJ.drop i) hH e ?_ ?_ ?_,rfl,q⟩
 ·have e1:(if I'<0 then (I'+(aJ.toArray.size:Int)).toNat else min I'.toNat aJ.toArray.size)=i:=by rw[<-hI,if_neg (by omega),UA,WH];omega
  show ((aJ.toArray.extract 0 (if I'<0 then (I'+(aJ.toArray.size:Int)).toNat else min I'.toNat aJ.toArray.size)).push b++aJ.toArray.extract (if I'<0 then (I'+(aJ.toArray.size:Int)).toNat else min I'.toNat aJ.toArray.size))=_
  rw[e1]
  apply Zz.mp
  simp
  exact Xo (by rw[Xn];exact SA _)
 ·have h1:Vals (xs.take i) (aJ.take i):=r.take i
  exact h1.append (.cons rb (r.drop i))
 ·rw[SD,XB,Xh,Xn];omega
end
end L2
namespace L2
open PySem PySem.Spec PyProof.Rows PySem.W
section
section
variable {lt:Nat->Nat->Bool} {n:Nat}
end
end
section
variable {prog:Program} {w:World} {A:Around} {E:Value->Shared->Prop} {s:Shared}
end
section
variable {X:Cx}
end
section
variable {X:Cx} {tg:Expr}
end
section
variable {X:Cx} {tg:Expr}
end
end L2
namespace L2
open PySem PySem.Spec PyProof.Rows PySem.MeetsSeq PySem.SeqAt
section
variable {X:Cx}
end
section
variable {prog:Program} {w:World} {A:Around} {E:Value->Shared->Prop} {s:Shared}
variable {z TI TO i1 i2:Addr} {f1 f2:List Addr} {n1 n2 i:Nat} {P1 P2:Nat->Value->Prop} {S1 S2:Nat->Heap->Prop} {a b:Value}
end
section
variable {X:Cx} {nx:Str} {pos':Pos} {a b:Expr} {ta:TA} {p pos:Pos}
end
end L2
namespace L2
open PySem PySem.Spec PyProof.Rows HT
section
variable {prog:Program} {w:World} {A:Around} {E:Value->Shared->Prop} {s:Shared}
end
section
variable {X:Cx}
end
section
variable {X:Cx} {o i e value tg:Expr} {pos pos' M9:Pos} {td ty tv:TE} (K:PySem.W.Frag) (P:Program) (w:World)
end
section
variable {X:Cx}
end
section
variable {X:Cx}
end
section
variable {X:Cx} {tg:Expr}
end
end L2
set_option maxHeartbeats 1000000
namespace L2
open PySem PySem.Spec PyProof.Rows
section
variable {prog:Program} {w:World} {A:Around} {E:Value->Shared->Prop} {s:Shared}
end
section
variable {X:Cx} {a b:Expr} {ta:TA} {p p2 pos UW:Pos}
end
end L2
set_option maxHeartbeats 1000000
namespace L2
open PySem PySem.Spec PyProof.Rows
section
variable {prog:Program} {w:World} {A:Around} {E:Value->Shared->Prop} {s:Shared} {κ:KeyKind} {a₀:Array Keyed}
end
section
variable {prog:Program} {w:World} {A:Around} {E:Value->Shared->Prop} {s:Shared} {κ:KeyKind} {a₀:Array Keyed}
end
end L2
set_option maxHeartbeats 1000000
namespace L2
open PySem PySem.Spec PyProof.Rows
section
variable {prog:Program} {w:World} {A:Around} {E:Value->Shared->Prop} {s:Shared} {κ:KeyKind} {a₀:Array Keyed}
end
section
variable {prog:Program} {w:World} {A:Around} {E:Value->Shared->Prop} {s:Shared} {κ:KeyKind} {a₀:Array Keyed}
end
end L2
set_option maxHeartbeats 1000000
namespace L2
open PySem PySem.Spec PyProof.Rows
section
variable {prog:Program} {w:World} {A:Around} {E:Value->Shared->Prop} {s:Shared}
end
section
variable {X:Cx}
end
end L2
set_option maxHeartbeats 1000000
namespace L2
open PySem PySem.Spec PyProof.Rows
section
variable {X:Cx}
end
end L2
set_option maxHeartbeats 1000000
namespace L2
open PySem PySem.Spec PyProof.Rows
section
variable {prog:Program} {w:World} {A:Around} {E:Value->Shared->Prop} {s:Shared} {kd:SortKind} {lt:Keyed->Keyed->Bool} {a₀:Array Keyed}
end
end L2
set_option maxHeartbeats 1000000
namespace L2
open PySem PySem.Spec PyProof.Rows
section
variable {lt:Keyed->Keyed->Bool}
variable {a b out:Array Keyed} {ia ib k:Nat} {p q:Keyed}
end
section
variable {prog:Program} {w:World} {A:Around} {E:Value->Shared->Prop} {s:Shared} {kd:SortKind} {lt:Keyed->Keyed->Bool} {a₀:Array Keyed}
end
end L2
set_option maxHeartbeats 1000000
namespace L2
open PySem PySem.Spec PyProof.Rows
section
variable {lt:Keyed->Keyed->Bool}
variable {a b out:Array Keyed} {na nb k:Nat} {p q:Keyed}
end
section
variable {prog:Program} {w:World} {A:Around} {E:Value->Shared->Prop} {s:Shared} {kd:SortKind} {lt:Keyed->Keyed->Bool} {a₀:Array Keyed}
end
end L2
set_option maxHeartbeats 1000000
namespace L2
open PySem PySem.Spec PyProof.Rows
section
variable {lt:Keyed->Keyed->Bool}
end
section
variable {prog:Program} {w:World} {A:Around} {E:Value->Shared->Prop} {s:Shared} {kd:SortKind} {lt:Keyed->Keyed->Bool} {a₀:Array Keyed}
end
section
variable {prog:Program} {w:World} {A:Around} {E:Value->Shared->Prop} {s:Shared} {kd:SortKind} {lt:Keyed->Keyed->Bool} {a₀:Array Keyed}
end
end L2
set_option maxHeartbeats 1000000
namespace L2
open PySem PySem.Spec PyProof.Rows
section
variable {prog:Program} {w:World} {A:Around} {E:Value->Shared->Prop} {s:Shared} {kd:SortKind} {lt:Keyed->Keyed->Bool} {a₀:Array Keyed}
end
end L2
set_option maxHeartbeats 1000000
namespace L2
open PySem PySem.Spec PyProof.Rows
theorem s_: ∀a b c:List Int,bI b a=false->bI c b=false->bI c a=false
 | [],[],[],_,_=>rfl
 | [],[],_::_,_,h=>h
 | [],_::_,[],_,_=>rfl
 | [],_::_,_::_,_,_=>rfl
 | _::_,[],_,h,_=>by cases h
 | _::_,_::_,[],_,h=>by cases h
 | x::a,y::b,z::c,h,g=>by
  have h':(if y=x then bI b a else decide (y<x))=false:=h
  have g':(if z=y then bI c b else decide (z<y))=false:=g
  show (if z=x then bI c a else decide (z<x))=false
  by_cases e1:y=x
  ·rw[if_pos e1]at h'
   by_cases e2:z=y
   ·rw[if_pos e2]at g'
    rw[if_pos (e2.trans e1)]
    exact s_ a b c h' g'
   ·rw[if_neg e2]at g'
    rw[if_neg fun w=>e2 (w.trans e1.symm), <-e1]
    exact g'
  ·rw[if_neg e1]at h'
   have q1:=of_decide_eq_false h'
   by_cases e2:z=y
   ·rw[if_neg fun w=>e1 (e2.symm.trans w),e2];exact h'
   ·rw[if_neg e2]at g'
    have q2:=of_decide_eq_false g'
    rw[if_neg (by omega)]
    exact decide_eq_false (by omega)
section
variable {prog:Program} {w:World} {A:Around} {E:Value->Shared->Prop} {s:Shared}
end
section
variable {X:Cx}
end
section
variable {X:Cx} {e st:Expr} {te:TE} {ts:TO} {pos p2:Pos}
theorem AW (l:List Nat) (t tk:Tok):sliceMade (S l) t none none (some (-1,tk))= .str (S l.reverse):=by
 unfold sliceMade
 rw[if_neg (by simp)]
 have e:slicePicked (S l) none none (some (-1,tk))=(List.range (S l).cps.size).reverse:=by
  rw[<-PySem.W.krv_range, <-PySem.W.krv_sliceRange]
  rfl
 rw[e,List.filterMap_reverse,PySem.W.krv_all,eJ]
 rfl
def N2 (te:TE) (ts:TO):TE:=fun σ H Q=>te σ H fun x H1=>ts σ H1 fun o H2=>o=some (-1)/\ ∃l,x= .str (S l)/\l.length<=sizeLine/\Q (.str (S l.reverse)) H2
theorem Ga (he:PE X e te) (hs:PO X (some st) ts):PE X (.Subscript e (.Slice none none (some st) p2) pos) (N2 te ts):=by
 intro pins s σ H Q I h
 refine Subscript_ (b_ (he pins s σ H _ I h) fun v s1 ⟨x,H1,I1,r1,q1⟩=>?_)
 refine wpAny_Slice ?_
 rw[evalPart_none]
 refine wpAny_pure (wpAny_pure (b_ (hs pins s1 σ H1 _ I1 q1) fun vk s3 ⟨o,H3,I3,pk,eo,l,ex,hz,q3⟩=>?_))
 subst eo ex
 obtain ⟨t,rfl⟩:=r1
 cases pk with
 | int i tk=>
 have I4:Inv X pins σ H3 { s3 with heap:=s3.heap.push { cls:= .type "slice",data:= .fields #[.none, .none, .int (-1) tk] } }:=I3.kept (t':=s3.toks) fun b ob q=>SF _ q
 show wpAny (model X.prog X.w) X.A (subscriptTail e (.Slice none none (some st) p2) (.str (S l) t) (.ref s3.heap.objs.size)) (EP X pins σ Q) X.xe { s3 with heap:=s3.heap.push { cls:= .type "slice",data:= .fields #[.none, .none, .int (-1) tk] } }
 refine tail_any (ops:=[.str (S l) t, .ref s3.heap.objs.size]) (typeIs_str _ _ _) F.slot_str_getitem.lookup (wpAny_getItem_str_slice (l:=none) (u:=none) (st:=some (-1,tk)) ⟨_,Xe _ rfl,rfl,rfl⟩ rfl ?_) (by with_unfolding_all rfl)
 rw[AW]
 refine ⟨by rw[cR,XA];exact hz,?_⟩
 exact ⟨.str (S l.reverse),H3,I4.tok _,⟨_,rfl⟩,q3⟩
end
end L2
namespace PySem
open PySem.Spec PyProof.Rows
section
variable {M:Model} {A:Around} {E:Value->Shared->Prop} {s₀ s:Shared} {m cm:Str->Option Value} {env:Env}
end
end PySem
namespace L2
open PySem PySem.Spec PyProof.Rows
section
variable {P:Program} {w:World} {K:PySem.W.Frag} {mg:Str->Option Value} {base:Heap}
end
section
variable {X:Cx} {n:Nat} {p:Value->Shared->Prop}
end
section
variable {X:Cx}
end
section
variable {X:Cx}
end
section
variable {X:Cx}
end
section
variable {X:Cx}
end
section
variable {X:Cx}
end
end L2
set_option maxHeartbeats 1000000
namespace L2
open PySem PySem.Spec PyProof.Rows
section
variable {prog:Program} {w:World} {A:Around} {E:Value->Shared->Prop} {s:Shared}
end
section
variable {X:Cx}
end
section
variable {X:Cx}
end
section
variable {X:Cx}
end
section
variable {X:Cx}
end
end L2
set_option maxHeartbeats 4000000
namespace L2
open PySem PySem.Spec PyProof.Rows
section
variable {X:Cx} {K:PySem.W.Frag} {CX:Ay} {k1 k2:Nat} {f1 f2:Addr} {SV SX:FuncData} {SY S0:List Str} {Pc Pd:Sp} {E:XK} {x f:Str} {p pos pos':Pos} {e o value:Expr} {es:List Expr} {ta tv:TE} {t:TA}
theorem bN (K:PySem.W.Frag) (hK:X.K=K) (he:PE X e ta) (hb:attributeBase e f X.env (eval e X.env)=eval e X.env):PE X (.Attribute e f pos) (M8 K ta f):=by subst hK;exact IK he hb
def CL (f1 f2:Addr) (Pc Pd:Sp) (E:XK) (ta:TE) (t:TA):TE:=fun σ H Q=>ta σ H fun v H1=>(v= .ref f1/\t σ H1 fun vs H2=>Pc vs H2 Q E)\/(v= .ref f2/\t σ H1 fun vs H2=>Pd vs H2 Q E)
theorem kJ (hf:PE X (.Name x p) ta) (F1:bC X.prog X.w X.K X.mg X.base CX k1 f1 SV SY Pc) (HL:eU k1 X.A) (K7:PySem.W.keepIn X.K (.ref f1)=true) (vy:Binds X.K SV SY []) (F2:bC X.prog X.w X.K X.mg X.base CX k2 f2 SX S0 Pd) (N3:eU k2 X.A) (xv:PySem.W.keepIn X.K (.ref f2)=true) (j7:Binds X.K SX S0 []) (hx:Passes CX X E)
  (ha:PA X (e::es) t) (he:starEach (e::es) X.env=(false,eval e X.env)::starEach es X.env:=by rfl) (jI:(backTo pos (starEach es X.env)).any (·.1)=false:=by rfl):
  PE X (.Call (.Name x p) (e::es) [] pos) (CL f1 f2 Pc Pd E ta t):=by
 intro pins s σ H Q I h
 refine wpAny_Call_Name_kw (b_ (hf pins s σ H _ I h) fun u s1 ⟨v,H1,I1,r,q⟩=>?_)
 rcases q with ⟨rfl,q⟩ | ⟨rfl,q⟩
 ·obtain rfl:u=Value.ref f1:=r
  refine Zk (h₀:=X.base) I1.ok.mod.KZ K7 (b_ (ha pos pins s1 σ H1 _ I1 q) fun us s2 ⟨vs,H2,I2,r2,q2⟩=>⟨I2.Am,?_⟩) he jI
  exact xb (dvs:=[]) (ds:=[]) F1 HL vy .nil hx I2 r2 (by rw[Xy];exact q2)
 ·obtain rfl:u=Value.ref f2:=r
  refine Zk (h₀:=X.base) I1.ok.mod.KZ xv (b_ (ha pos pins s1 σ H1 _ I1 q) fun us s2 ⟨vs,H2,I2,r2,q2⟩=>⟨I2.Am,?_⟩) he jI
  exact xb (dvs:=[]) (ds:=[]) F2 N3 j7 .nil hx I2 r2 (by rw[Xy];exact q2)
end
end L2
set_option maxHeartbeats 4000000
namespace L2
open PySem PySem.Spec PyProof.Rows
section
variable {prog:Program} {w:World} {A:Around} {E:Value->Shared->Prop} {R:Result->Shared->Prop} {I S:Addr} {fp wr:List Addr} {n:Nat} {P:Nat->Value->Prop} {St:Nat->Heap->Prop} {kw:List (Str×Value)} {bt:Nat->Nat->Bool}
theorem za:(toString "max"++toString ".loop":String)="max.loop":=by decide
theorem N4 (W:Walks prog w A.in1 I fp wr n P St) (cm:CmpOf prog w A.in1 .Gt P bt) (sf:S∉fp): ∀(m j:Nat) (s:Shared) (b:Value) (c:Nat),n=j+1+m->St (j+1) s.heap->P (argBest bt j) b->s.heap.get? S=some { cls:= .type "list",dict:=none,data:= .seq #[b,b] c,slots:= #[] }->
  (∀v h' tk,P (argBest bt (n - 1)) v->(∀a o,a∉wr->a≠S->s.heap.get? a=some o->h'.get? a=some o)->R (.ok (.ret v)) { s with heap:=h',toks:=tk })->
  codeAny (model prog w) A (.builtin "max.loop" ⟨[.ref I, .none, .ref S],kw⟩) R s:=by
 have sw:S∉wr:=fun z=>sf (W.sub _ z)
 intro m
 induction m with
 | zero=>
  intro j s b c en mO hb hS hR
  have e1:n=j+1:=en
  subst e1
  refine codeAny_builtin ZA ?_
  rw[Around.under_plainId Yc _]
  refine wpAny_bind (m:=seqItems? (.ref S)) (wpAny_seqItems hS rfl ?_)
  refine wpAny_bind (m:=tryCatch (pyNext (.ref I)) _) (wpAny_tryCatch (W.done s _ _ mO fun h1 tk k1=>?_))
  refine wpAny_bind (m:=updateSeq S fun _=> #[]) (wpAny_updateSeq (k1 S _ sw hS) rfl (wpAny_bind (wpAny_letGo (wpAny_pure ?_))))
  exact hR b _ tk hb fun a o aw aS ea=>(XJ _ _ (Ne.symm aS)).trans (k1 a o aw ea)
 | succ m ih=>
  intro j s b c en mO hb hS hR
  refine codeAny_builtin ZA ?_
  rw[Around.under_plainId Yc _]
  refine wpAny_bind (m:=seqItems? (.ref S)) (wpAny_seqItems hS rfl ?_)
  refine wpAny_bind (m:=tryCatch (pyNext (.ref I)) _) (wpAny_tryCatch (W.item (j+1) s _ _ (by omega) mO fun v h1 tk pv wI k1=>?_))
  have K8:=k1 S _ sw hS
  refine wpAny_bind (m:=tryCatch (holding [v,v] (richCompare .Gt v b >>= _)) _) (wpAny_tryCatch (wpAny_holding (wpAny_bind (cm (j+1) (argBest bt j) v b _ _ _ pv hb (wpAny_bind (wpAny_holding (wpAny_truthy_bool (wpAny_bind (wpAny_letGo (wpAny_pure ?_))))))))))
  cases q:bt (j+1) (argBest bt j)
  ·rw[if_neg (by decide)]
   refine wpAny_bind (wpAny_letGo ?_)
   rw[za]
   refine wpAny_pure ⟨plainId_quiet Yc _,ih (j+1) _ b c (by omega) wI (by rw[argBest,q];exact hb) K8 fun v' h2 N5 p2 k2=>?_⟩
   exact hR v' h2 N5 p2 fun a o aw aS ea=>k2 a o aw aS (k1 a o aw ea)
  ·rw[if_pos rfl]
   refine wpAny_bind (wpAny_updateSeq K8 rfl (wpAny_bind (wpAny_letGo ?_)))
   rw[za]
   refine wpAny_pure ⟨plainId_quiet Yc _,ih (j+1) _ v _ (by omega) (W.frame _ _ _ wI fun a af o ea=>?_) (by rw[argBest,q];exact pv) (Ya _ K8 rfl) fun v' h2 N5 p2 k2=>?_⟩
   ·exact (XJ _ _ (fun z:S=a=>sf (z▸af))).trans ea
   ·exact hR v' h2 N5 p2 fun a o aw aS ea=>k2 a o aw aS ((XJ _ _ (Ne.symm aS)).trans (k1 a o aw ea))
theorem N6 (a d:Value):argsOk "max" ⟨[a],[(Str.ofString "default",d)]⟩:=by unfold argsOk;kernel_rfl
theorem Gb {s:Shared} {x d:Value} {Q:Value->Shared->Prop}
  (h:wpAny (model prog w) A.in1 (pyIter x) (fun it s₂=> ∃I fp wr n P St bt,it= .ref I/\Walks prog w A.in1 I fp wr n P St/\St 0 s₂.heap/\(∀b∈fp,b<s₂.heap.objs.size)/\CmpOf prog w A.in1 .Gt P bt/\
   ∀v h' tk,(n=0->v=d)->(0<n->P (argBest bt (n - 1)) v)->(∀b o,b∉wr->s₂.heap.get? b=some o->h'.get? b=some o)->Q v { s₂ with heap:=h',toks:=tk }) E s):
  wpAny (model prog w) A (call (.builtin "max") [x] [(Str.ofString "default",d)]) Q E s:=by
 refine kmk_tree PySem.F.kind_max PySem.F.plain_max PySem.F.entry_max (N6 x d) ?_
 refine wpAny_bind (m:=Builtin.Builtins.bindParams "max" ["key","default"] 0 ⟨[],[(Str.ofString "default",d)]⟩) (wpAny_of_eq (a:=[none,some d]) rfl ?_)
 refine wpAny_bind (wpAny_pure (wpAny_bind (wpAny_mono h (fun it s2 h2=>?_) fun _ _ e=>e)))
 obtain ⟨I,fp,wr,n,P,St,bt,rfl,W,mO,UX,cm,hQ⟩:=h2
 refine wpAny_bind (wpAny_newObj_type ?_)
 have sf:s2.heap.objs.size∉fp:=fun z=>XN _ (UX _ z)
 have sw:s2.heap.objs.size∉wr:=fun z=>sf (W.sub _ z)
 have hS:(s2.heap.push { cls:= .type "list",data:= .seq #[] }).get? s2.heap.objs.size=some { cls:= .type "list",dict:=none,data:= .seq #[] 0,slots:= #[] }:=Xe _ rfl
 have N7:=W.frame _ _ (s2.heap.push { cls:= .type "list",data:= .seq #[] }) mO fun b _ o e=>SF _ e
 have lo: ∀{b o},s2.heap.get? b=some o->b≠s2.heap.objs.size:=fun e=>Xm (Xf e)
 rw[za]
 refine wpAny_pure ⟨plainId_quiet Yc _,codeAny_builtin ZA ?_⟩
 rw[Around.under_plainId Yc _]
 refine wpAny_bind (m:=seqItems? (.ref s2.heap.objs.size)) (wpAny_seqItems hS rfl ?_)
 cases n with
 | zero=>
  refine wpAny_bind (m:=tryCatch (pyNext (.ref I)) _) (wpAny_tryCatch (W.done _ _ _ N7 fun h1 tk k1=>?_))
  refine wpAny_bind (wpAny_rule ?_)
  refine wpAny_pure (hQ d h1 tk (fun _=>rfl) (fun z=>absurd z (XN _)) fun b o bw e=>k1 b o bw (SF _ e))
 | succ m=>
  refine wpAny_bind (m:=tryCatch (pyNext (.ref I)) _) (wpAny_tryCatch (W.item 0 _ _ _ (Nat.succ_pos _) N7 fun v h1 tk pv wI k1=>?_))
  have K8:=k1 _ _ sw hS
  refine wpAny_bind (m:=updateSeq s2.heap.objs.size fun _=> #[v,v]) (wpAny_updateSeq K8 rfl ?_)
  rw[za]
  refine wpAny_pure ⟨plainId_quiet Yc _,N4 W cm sf m 0 _ v _ (by omega) (W.frame _ _ _ wI fun a af o ea=>?_) pv (Ya _ K8 rfl) fun v' h2 N5 p2 k2=>?_⟩
  ·exact (XJ _ _ (fun z:s2.heap.objs.size=a=>sf (z▸af))).trans ea
  ·exact hQ v' h2 N5 (fun z=>by omega) (fun _=>p2) fun b o bw e=>k2 b o bw (lo e) ((XJ _ _ (Ne.symm (lo e))).trans (k1 b o bw (SF _ e)))
end
noncomputable def Jw (d:Int):List Int->Int
 | []=>d
 | a::r=>r.foldl (fun x y=>if y>x then y else x) a
noncomputable def eW (l:List Int) (i j:Nat):Bool:=decide (l.getD i 0>l.getD j 0)
theorem kK (l:List Int): ∀n:Nat,n<l.length->l.getD (argBest (eW l) n) 0=((l.drop 1).take n).foldl (fun x y=>if y>x then y else x) (l.getD 0 0)
 | 0,_=>by simp[argBest]
 | n+1,h=>by
  have ih:=kK l n (by omega)
  have e:(l.drop 1).take (n+1)=(l.drop 1).take n++[l.getD (n+1) 0]:=by
   rw[ZX,Yl,show 1+n=n+1 by omega,UC,Jd h]
   rfl
  rw[e,Zo, <-ih]
  show l.getD (if eW l (n+1) (argBest (eW l) n)=true then n+1 else argBest (eW l) n) 0=if l.getD (n+1) 0>l.getD (argBest (eW l) n) 0 then l.getD (n+1) 0 else l.getD (argBest (eW l) n) 0
  by_cases z:l.getD (n+1) 0>l.getD (argBest (eW l) n) 0
  ·rw[if_pos (show eW l (n+1) (argBest (eW l) n)=true from decide_eq_true z),if_pos z]
  ·rw[if_neg (show ¬eW l (n+1) (argBest (eW l) n)=true from fun w=>z (of_decide_eq_true w)),if_neg z]
section
variable {X:Cx}
theorem CM {prog:Program} {w:World} {A:Around} {l:List Int} {aJ:List Value} (r:Vals (l.map V.int) aJ):CmpOf prog w A .Gt (fun i v=>aJ.toArray[i]? =some v) (eW l):=by
 intro i j vi vj s Q E hi hj hQ
 have get: ∀{i:Nat} {v:Value},aJ.toArray[i]? =some v-> ∃t,v= .int (l.getD i 0) t:=by
  intro i v h
  have h':aJ[i]? =some v:=by simpa using h
  have hl:i<l.length:=by have:=(Je.mp h').1;rw[<-r.length,K4]at this;exact this
  obtain ⟨u,hu,ru⟩:=r.get (i:=i) (x:=V.int (l.getD i 0)) (by rw[Xd,UC,Jd hl];rfl)
  rw[h']at hu;cases hu
  exact ru
 obtain ⟨t,rfl⟩:=get hi
 obtain ⟨u,rfl⟩:=get hj
 exact gt_int hQ
def N8 (K:PySem.W.Frag) (d:Int) (t:TA):TE:=fun σ H Q=>t σ H fun vs H1=> ∃(p:Addr) (l:List Int),vs=[.ref p]/\bA K H1 p (l.map V.int)/\Q (.int (Jw d l)) H1
theorem Gd {e:Expr} {t:TA} {d:Int} {j:Nat} {kp cp p pos:Pos} (K:PySem.W.Frag) (hK:X.K=K) (hc:X.calm=true) (hg:Gl X "max") (hm:X.mg "max"=none) (ha:PA X [e] t)
  (he:backTo pos (starEach [e] X.env)=[(false,eval e X.env)]:=by rfl):PE X (.Call (.Name "max" p) [e] [⟨some "default", .Constant (.int d) j cp,kp⟩] pos) (N8 K d t):=by
 subst hK
 intro pins s σ H Q I h
 refine wpAny_Call_Name_kw (gL I hg hm boot_max ?_)
 refine callWith_kw (b_ (ha pos pins s σ H _ I h) fun us s1 ⟨vs,H1,I1,r1,q1⟩=>?_) he (by rw[he];rfl)
 obtain ⟨a,l,rfl,hq,q⟩:=q1
 obtain ⟨u,rfl,ru⟩:=vals1 r1
 cases ru
 refine kws_cons (wpAny_Constant_int (kws_nil ?_))
 obtain ⟨aJ,rv,pl,hz⟩:=I1.list hq
 have hlen:aJ.length=l.length:=by rw[<-rv.length,K4]
 have hp:a<s1.heap.objs.size:=by
  obtain ⟨o,n,e,_⟩:=pl
  exact Xf e
 refine Gb (wpAny_pyIter_list pl.isList ?_)
 refine ⟨_,_,_,_,_,_,eW l,rfl,Walks.list (A:=X.A.in1) (I1.ok.hd hc) s1.heap.objs.size a (Xm hp) aJ.toArray,⟨⟨_,Xe _ rfl,rfl,rfl⟩,?_⟩,fun b hb=>?_,CM rv,fun v h' tk h0 h1 hk=>?_⟩
 ·obtain ⟨o,ho,hr⟩:=pl.isList
  exact ⟨o,SF _ ho,hr⟩
 ·show b<(s1.heap.push _).objs.size
  rw[Zd]
  exact (WG.mp hb).elim (fun z=>z▸Yr _) fun z=>(O8.mp z)▸YG hp
 ·have ru:RelV (.int (Jw d l)) v:=by
   cases l with
   | nil=>
    have:=h0 (by rw[WH,hlen];rfl)
    subst this
    exact ⟨_,rfl⟩
   | cons b l=>
    have hn:aJ.toArray.size - 1=l.length:=by rw[WH,hlen];rfl
    have hP:=h1 (by rw[WH,hlen];exact Nat.succ_pos _)
    rw[hn]at hP
    have O9:aJ[argBest (eW (b::l)) l.length]? =some v:=by simpa using hP
    have hl:argBest (eW (b::l)) l.length<(b::l).length:=Nat.lt_succ_of_le (argBest_lt _ _)
    have e:=kK (b::l) l.length (Yr _)
    rw[show ((b::l).drop 1).take l.length=l from Xo (SA _),UC,Jd hl]at e
    have e':(b::l)[argBest (eW (b::l)) l.length]=Jw d (b::l):=e
    obtain ⟨u,hu,ru⟩:=rv.get (i:=argBest (eW (b::l)) l.length) (x:=V.int (Jw d (b::l))) (by rw[Xd,Jd hl,e'];rfl)
    rw[O9]at hu;cases hu
    exact ru
  refine ⟨.int (Jw d l),H1,?_,ru,q⟩
  have I2:Inv X pins σ H1 { s1 with heap:=s1.heap.push { cls:= .type "list_iterator",data:= .fields #[.ref a, .int 0 0] },toks:=s1.toks+1 }:=I1.kept (t':=s1.toks+1) fun b o e=>SF _ e
  have f:=I1.og (H':=H1) (b:=s1.heap.objs.size) (SA _) I1.fresh
  exact I2.turned (h':=h') (t':=tk) (it:=s1.heap.objs.size) (fun b o hb e=>hk b o (by simpa using hb) e) f.1 f.2.1 f.2.2.2.1 f.2.2.2.2.1 f.2.2.2.2.2
end
end L2
set_option maxHeartbeats 1000000
namespace L2
open PySem PySem.Spec PyProof.Rows
section
variable {X:Cx}
theorem Jx:K1 X .Mult (fun x y H Q=> ∃i j,x= .int i/\y= .int j/\Fo i j/\Q (.int (i*j)) H):=by
 intro pins s σ H x y v u Q I r1 r2 h
 obtain ⟨i,j,rfl,rfl,c,q⟩:=h
 obtain ⟨t,rfl⟩:=r1
 obtain ⟨t',rfl⟩:=r2
 exact imul_int ⟨.int _,H,I.tok _,⟨_,rfl⟩,q⟩ c.ok
theorem Ge:K1 X .FloorDiv (fun x y H Q=> ∃i j,x= .int i/\y= .int j/\QD i j/\Q (.int (i / j)) H):=by
 intro pins s σ H x y v u Q I r1 r2 h
 obtain ⟨i,j,rfl,rfl,hc,q⟩:=h
 obtain ⟨t,rfl⟩:=r1
 obtain ⟨t',rfl⟩:=r2
 have h1:(0:Int)<j:=hc.1
 have h2:j<1073741824:=hc.2
 exact ifloordiv_int (by omega) (by rw[Int.fdiv_eq_ediv_of_nonneg i (by omega)];exact ⟨.int _,H,I.tok _,⟨_,rfl⟩,q⟩) (.inl (PyProof.noPylong_small (by omega)))
end
theorem vz: ∀{ls:List Int} {aJ:List Value},Vals (ls.map V.int) aJ->IntsAre aJ ls
 | [],_, .nil=> .nil
 | _::_,_, .cons ⟨t,e⟩ h=>e▸ .cons _ t (vz h)
theorem vA: ∀{ls:List Int} {aJ:List Value},IntsAre aJ ls->Vals (ls.map V.int) aJ
 | _,_, .nil=> .nil
 | _,_, .cons n t h=> .cons ⟨t,rfl⟩ (vA h)
section
variable {prog:Program} {w:World} {A:Around} {E:Value->Shared->Prop} {s:Shared}
theorem tf {Q:Value->Shared->Prop} (hh:A.handled=none) (d:Addr) (aL:List (Key×Value)) (ep:Nat) (ls:List Int) (hk:aL.map (·.1)=ls.map fun l=>Sum.inl l) (hd:(d==sysModules)=false) (hm:s.heap.DictAt (cA prog w) d aL ep) (UJ:aL.length<64)
  (h: ∀(h1 h':Heap) (tk:Nat) (a:Addr) (out:Array Value) (BL:List Int) (e:Nat),(∀b o,s.heap.get? b=some o->h1.get? b=some o)->(∀b o,h1.get? b=some o->h'.get? b=some o)->a=h1.objs.size->h'.get? a=some (seqObj "list" out e)->IntsAre out.toList BL->BL.Perm ls->(BL.Pairwise fun a b=> ¬b<a)->Q (.ref a) { s with heap:=h',toks:=tk }):
  wpAny (model prog w) A (call (.builtin "sorted") [.ref d]) Q E s:=by
 refine Calls.call_function_entry kind_sorted plain_sorted entry_sorted (args_sorted1 _) ?_
 unfold Builtin.«sorted»
 refine wpAny_bind (m:=checkCount "sorted" 1 1 _) (wpAny_pure ?_)
 have mR:(10000:Nat)<sizeLine:=by decide
 refine wpAny_bind (sZ (A:=A.in1) (show A.in1.handled=none from hh) d aL ep hd hm (by omega) (fun s' acc UY hg K9 ho xm=>?_))
 obtain ⟨h1,h2⟩:=xm
 have hlen:aL.length=ls.length:=by have:=congrArg List.length hk;simpa using this
 have rv:Vals (ls.map V.int) acc.toList:=by
  have key: ∀(ls:List Int) (vs:List Value),vs.length=ls.length->(∀(j:Nat) (v:Value),vs[j]? =some v-> ∃l t,ls[j]? =some l/\v=Value.int l t)->Vals (ls.map V.int) vs:=by
   intro ls
   induction ls with
   | nil=>intro vs hl _;have:vs=[]:=Zc hl;subst this;exact .nil
   | cons l ls ih=>
    intro vs hl hv
    cases vs with
    | nil=>simp at hl
    | cons v vs=>
     obtain ⟨l',t,e1,e2⟩:=hv 0 v rfl
     have Ct:l=l':=by simpa using e1
     subst Ct
     refine .cons ⟨t,e2⟩ (ih vs (by simpa using hl) fun j v' e=>?_)
     obtain ⟨l',t',g1,g2⟩:=hv (j+1) v' (by simpa using e)
     exact ⟨l',t',by simpa using g1,g2⟩
  refine key ls acc.toList (by simpa [<-hlen]using h1) fun j v e=>?_
  obtain ⟨k,x,e1,e2⟩:=h2 j v (by simpa using e)
  have e3:(aL.map (·.1))[j]? =some k:=by rw[Xd,e1];rfl
  rw[hk,Xd]at e3
  cases e4:ls[j]? with
  | none=>rw[e4]at e3;cases e3
  | some l=>
   rw[e4]at e3
   have e5:k=Sum.inl l:=(Xa e3).symm
   subst e5
   obtain ⟨t,e6⟩:=Value.isInt_shape (k:=l) (v:=v) e2
   exact ⟨l,t,rfl,e6⟩
 have hS:=vz rv
 have hn:acc.toList.length=ls.length:=by rw[<-rv.length,K4]
 refine wpAny_bind (wpAny_newList ?_)
 have MO:(s'.heap.push (seqObj "list" acc.toList.toArray 0)).get? s'.heap.objs.size=some (seqObj "list" acc.toList.toArray 0):=Xe _ rfl
 show wpAny _ _ _ _ _ { s' with heap:=s'.heap.push (seqObj "list" acc.toList.toArray 0) }
 refine wpAny_bind (wpAny_holding (wpAny_call_entry slot_list_sort ⟨_,MO,rfl⟩ entry_list_sort (list_sort_tree MO hS (by omega) fun out BL k1 k2 k3=>⟨_,rfl,?_⟩) (args_list_sort _)))
 obtain ⟨e,he⟩:=sortedHeap_at (out:=out) MO
 refine wpAny_pure ⟨_,rfl,?_⟩
 have es: ∀hh:Heap,({ s' with heap:=hh }:Shared)={ s with heap:=hh,toks:=s'.toks }:=fun hh=>by
  cases s;cases s'
  simp only at hg K9 ho
  subst hg K9 ho
  rfl
 show Q (.ref s'.heap.objs.size) { s' with heap:=sortedHeap (s'.heap.push (seqObj "list" acc.toList.toArray 0)) s'.heap.objs.size acc.toList (out) }
 rw[es]
 refine h s'.heap _ _ _ _ BL e UY (fun b o hb=>?_) rfl he k1 k2 (k3.imp fun h=>Int.not_lt.mpr h)
 have dz:=Xf hb
 rw[sortedHeap_old (Xm dz) (by rw[size_push'];exact YG dz)]
 exact SF _ hb
end
section
variable {X:Cx}
def Gf:List V->Hp->VK->Prop:=fun xs H Q=> ∃(d:Addr) (aL:List (Key×V)) (ls:List Int),xs=[.ref d]/\H d=some (.dK aL)/\aL.map (·.1)=(ls.map fun l=>Sum.inl l)/\ls.length<64/\ ∀(q:Addr) (ms:List Int),H q=none->ms.Perm ls->(ms.Pairwise fun a b=> ¬b<a)->Q (.ref q) (upd H q (.lst (ms.map V.int)))
theorem qt (hc:X.calm=true):dB X (.builtin "sorted") Gf:=by
 intro pins s σ H xs us Q I r h
 obtain ⟨d,aL,ls,rfl,hd,hk,hn,q⟩:=h
 obtain ⟨u,rfl,ru⟩:=vals1 r
 cases ru
 obtain ⟨hz,Rm,vs,kv,o,es,ep,e1,e2,e3,e4,e5,e6⟩:=I.b5 d _ hd
 have hlen:vs.length=ls.length:=by
  have a1:=congrArg List.length (y_ kv)
  have a2:=congrArg List.length hk
  simp only[K4]at a1 a2
  omega
 refine tf (s:=s) (I.ok.hd hc) d vs ep ls ((y_ kv).trans hk) Rm ⟨o,es,e1,e2,e3,e4,e5,e6⟩ (by omega) fun h1 h' tk a out BL e k1 k2 ea he g1 g2 g3=>?_
 have ve:=g2
 have hv:=vA g1
 have pw:=g3
 have I1:Inv X pins σ H { s with heap:=h1,toks:=tk }:=I.kept k1
 have hsz:(10000:Nat)<sizeLine:=by decide
 have I2:Inv X pins σ (upd H a (.lst (BL.map V.int))) { s with heap:=h',toks:=tk }:=
  I1.laid (t':=tk) (a:=a) (o:= .lst (BL.map V.int)) k2 (by rw[ea];exact SA _) ⟨by rw[K4,ve.length_eq];omega,out.toList,e,hv,by simpa [seqObj]using he⟩
 exact ⟨.ref a,_,I2,rfl,q _ _ (I1.b5.fresh (by rw[ea];exact SA _)) ve pw⟩
end
end L2
set_option maxHeartbeats 4000000
namespace My
open PySem PySem.Spec PyProof.Rows L2 XL
noncomputable def aP:List Nat:=[97,98,99,100,101,102,103,104,105,106,107,108,109,110,111,112,113,114,115,116,117,118,119,120,121,122]
noncomputable def j8:List Nat:=[65,66,67,68,69,70,71,72,73,74,75,76,77,78,79,80,81,82,83,84,85,86,87,88,89,90]
def Lt (c:Nat):Prop:=c∈aP\/c∈j8
noncomputable instance (c:Nat):Decidable (Lt c):=by unfold Lt;infer_instance
noncomputable def aC (c:Nat):Nat:=if aA c=true then PyProof.Rows.up1 c else PyProof.Rows.lo1 c
theorem tm: ∀c∈aP++j8,c<128/\aC c∈aP++j8/\aC (aC c)=c/\aC c≠c:=by decide+kernel
theorem Lt.mem {c:Nat} (h:Lt c):c∈aP++j8:=WJ.mpr h
theorem Lt.lt {c:Nat} (h:Lt c):c<128:=(tm c h.mem).1
theorem Lt.aC {c:Nat} (h:Lt c):Lt (aC c):=WJ.mp (tm c h.mem).2.1
theorem aH {c:Nat} (h:Lt c):aC (aC c)=c:=(tm c h.mem).2.2.1
theorem iO {c:Nat} (h:Lt c):aC c≠c:=(tm c h.mem).2.2.2
theorem d_ {a b:Nat} (ha:Lt a) (hb:Lt b) (e:My.aC a=My.aC b):a=b:=by rw[<-aH ha,e,aH hb]
theorem vB: ∀c∈aP,m6 j8 ((aP.idxOf c:Nat):Int)=some (aC c):=by decide+kernel
theorem AX: ∀c∈j8,m6 aP ((j8.idxOf c:Nat):Int)=some (aC c):=by decide+kernel
noncomputable def gv (l:List Nat):List Nat:=(l.map aC).reverse
def aW (b:Addr) (H H':Hp):Prop:= ∀c o,H c=some o->c≠b->H' c=some o
theorem aW.refl (b:Addr) (H:Hp):aW b H H:=fun _ _ h _=>h
theorem aW.trans {b:Addr} {H H1 H2:Hp} (x:aW b H H1) (y:aW b H1 H2):aW b H H2:=fun c o h n=>y c o (x c o h n) n
theorem aW.of {b:Addr} {H H':Hp} (x:aq H H'):aW b H H':=fun c o h _=>x c o h
theorem aW.upd (b:Addr) (H:Hp) (o:HO):aW b H (upd H b o):=fun c o h n=>by rw[ay n];exact h
theorem aq.upd {H:Hp} {p:Addr} {o:HO} (h:H p=none):aq H (L2.upd H p o):=fun c u e=>by rw[ay (az e h)];exact e
def cf (H:Hp) (b:Addr):Prop:= ∃x y:Int,H b=some (.lst [.int x, .int y])
theorem cf.same {H H':Hp} {b:Addr} (h:cf H b) (s:aq H H'):cf H' b:=let ⟨x,y,e⟩:=h;⟨x,y,s _ _ e⟩
structure Yd (y:List Nat):Prop where
 nd:y.Nodup
 lt: ∀c∈y,Lt c
 cl: ∀c∈y,aC c∈y
def mU (_:PySem.W.Frag):Sp:=fun vs H Q _=> ∃c,vs=[.str (S [c])]/\c<128/\Q (.str (S [aC c])) H
theorem tu {K:PySem.W.Frag} {vs:List V} {H:Hp} {Q:VK} {E:XK} (h:mU K vs H Q E):vs.length=1:=by obtain ⟨c,rfl,_⟩:=h;rfl
def q_ (_:PySem.W.Frag):Sp:=fun vs H Q _=> ∃c,vs=[.str (S [c])]/\Lt c/\Q (.str (S [aC c])) H
theorem xC {K:PySem.W.Frag} {vs:List V} {H:Hp} {Q:VK} {E:XK} (h:q_ K vs H Q E):vs.length=1:=by obtain ⟨c,rfl,_⟩:=h;rfl
def ra (_:PySem.W.Frag):Sp:=fun vs H Q _=> ∃l:List Nat,vs=[.str (S l)]/\(∀c∈l,c<128)/\l.length<=1000/\ ∀H',aq H H'->Q (.str (S (gv l))) H'
theorem xD {K:PySem.W.Frag} {vs:List V} {H:Hp} {Q:VK} {E:XK} (h:ra K vs H Q E):vs.length=1:=by obtain ⟨c,rfl,_⟩:=h;rfl
def zc (K:PySem.W.Frag):Sp:=fun vs H Q _=> ∃(a:Addr) (ns:List Int) (k:Nat),vs=[.ref a, .int k]/\bA K H a (ns.map V.int)/\k<=1000/\ ∀b H',H b=none->cf H' b->aq H H'->Q (.ref b) H'
theorem CN {K:PySem.W.Frag} {vs:List V} {H:Hp} {Q:VK} {E:XK} (h:zc K vs H Q E):vs.length=2:=by obtain ⟨a,ns,k,rfl,_⟩:=h;rfl
def vC (_:PySem.W.Frag):Sp:=fun vs H Q _=> ∃(b:Addr) (m:Int),vs=[.ref b, .int m]/\cf H b/\1<=m/\m<1000000/\ ∀(r:Nat) H',(r:Int)<m->cf H' b->aW b H H'->Q (.int r) H'
theorem AY {K:PySem.W.Frag} {vs:List V} {H:Hp} {Q:VK} {E:XK} (h:vC K vs H Q E):vs.length=2:=by obtain ⟨b,m,rfl,_⟩:=h;rfl
def vD (_:PySem.W.Frag):Sp:=fun vs H Q _=> ∃(b:Addr) (lU top:Nat),vs=[.ref b, .int lU, .int top]/\cf H b/\1<=lU/\lU<=top/\top<=8/\ ∀(y:List Nat) H',Yd y->2*lU<=y.length->y.length<=2*top->cf H' b->aW b H H'->Q (.str (S y)) H'
theorem AZ {K:PySem.W.Frag} {vs:List V} {H:Hp} {Q:VK} {E:XK} (h:vD K vs H Q E):vs.length=3:=by obtain ⟨b,m,t,rfl,_⟩:=h;rfl
def lO (K:PySem.W.Frag):Sp:=fun vs H Q _=> ∃(a:Addr) (ns:List Int),vs=[.ref a]/\bA K H a (ns.map V.int)/\ns.length<=63/\ ∀H',Q (.bl true) H'
theorem Gg {K:PySem.W.Frag} {vs:List V} {H:Hp} {Q:VK} {E:XK} (h:lO K vs H Q E):vs.length=1:=by obtain ⟨b,m,rfl,_⟩:=h;rfl
theorem mV: ∀l:List Nat,(l.map fun c=>[c]).flatten=l
 | []=>rfl
 | c::l=>by rw[Xl,Ye,mV l];rfl
theorem vE: ∀l:List Nat,((l.map fun c=>[c]).map List.length).sum=l.length
 | []=>rfl
 | c::l=>by
  rw[Xl,Xl,Yx,vE l]
  show 1+l.length=l.length+1
  omega
theorem dh (l:List Nat):cg l=(l.map fun c=>[c]).map fun l=>V.str (S l):=by unfold cg;rw[X5];rfl
theorem ze (l:List Nat):(cg l).reverse=cg l.reverse:=by unfold cg;rw[YL]
theorem cW (l:List Nat) (c:Nat):cg l++[V.str (S [c])]=cg (l++[c]):=by unfold cg;rw[WI];rfl
theorem take_snoc {α:Type} {l:List α} {i:Nat} {x:α} (h:l[i]? =some x):l.take i++[x]=l.take (i+1):=by rw[ZX,h];rfl
theorem zf {ns:List Int} {i:Nat} (h:i<ns.length): ∃z,(ns.map V.int)[i]? =some (V.int z):=⟨ns[i],by rw[Xd,Jd h];rfl⟩
theorem fW {σ:L2.St} {H:Hp} {A B:Hp->Prop} (h:A H):Nz σ H fun b H3=>if b=true then A H3 else B H3:=by
 show (if true=true then A H else B H)
 rw[if_pos rfl]
 exact h
theorem xE (b:Bool) (z:Int): ∃y,m6 [V.int 0,V.int z] (if b=true then 1 else 0)=some (V.int y):=by
 cases b
 ·exact ⟨0,rfl⟩
 ·exact ⟨z,rfl⟩
theorem gU {α:Type}: ∀{l:List α} {i:Nat} {x:α},l[i]? =some x->(x::l.eraseIdx i).Perm l
 | [],i,x,h=>by simp at h
 | a::l,0,x,h=>by
  have:a=x:=by simpa using h
  subst this
  exact List.Perm.refl _
 | a::l,i+1,x,h=>by
  have ih:=gU (l:=l) (i:=i) (x:=x) (by simpa using h)
  rw[YV]
  exact (List.Perm.swap a x _).trans (List.Perm.cons a ih)
theorem lV (l:List Nat) (i:Nat):(cg l).eraseIdx i=cg (l.eraseIdx i):=by
 unfold cg
 induction l generalizing i with
 | nil=>rfl
 | cons a l ih=>
  cases i with
  | zero=>rfl
  | succ i=>rw[Xl,YV,ih,YV,Xl]
theorem xF {l:List Nat} {i:Nat} (h:i<l.length):(cg l)[i]? =some (V.str (S [l[i]])):=by unfold cg;rw[Xd,Jd h];rfl
theorem Gh (a b:List Nat):cg a++cg b=cg (a++b):=by unfold cg;rw[WI]
theorem A0: ∀c∈aP,aC c∉aP:=by decide+kernel
theorem A1:aP.Nodup:=by decide+kernel
theorem Yd.perm {a b:List Nat} (h:Yd a) (p:a.Perm b):Yd b:=
 ⟨p.nodup_iff.mp h.nd,fun c hc=>h.lt c (p.mem_iff.mpr hc),fun c hc=>p.mem_iff.mp (h.cl c (p.mem_iff.mpr hc))⟩
structure Jy (i:Nat) (L E:List Nat):Prop where
 yd:Yd E
 nd:L.Nodup
 sm: ∀c∈L,c∈aP
 ap: ∀c∈L,c∉E
 ll:L.length=26 - i
 el:E.length=2*i
theorem Jy.start:Jy 0 aP []:=⟨⟨Yy,fun _ h=>absurd h Xg,fun _ h=>absurd h Xg⟩,A1,fun _ h=>h,fun _ _ h=>absurd h Xg,rfl,rfl⟩
theorem Jy.turn {i r:Nat} {L E:List Nat} (w:Jy i L E) (hi:i<26) (hr:r<L.length):Jy (i+1) (L.eraseIdx r) (E++[L[r],aC L[r]]):=by
 have hp:=gU (l:=L) (Jd hr)
 have hm:L[r]∈L:=Xp hr
 have hs:=w.sm _ hm
 have hl:Lt L[r]:= .inl hs
 have Pe:=hp.nodup_iff.mpr w.nd
 have sub: ∀c∈L.eraseIdx r,c∈L:=fun c hc=>hp.mem_iff.mp (UB _ hc)
 have S3:=w.ap _ hm
 have UZ:aC L[r]∉E:=fun z=>S3 (by have:=w.yd.cl _ z;rwa [aH hl]at this)
 refine ⟨⟨?_,fun c hc=>?_,fun c hc=>?_⟩,(Xw.mp Pe).2,fun c hc=>w.sm c (sub c hc),fun c hc hE=>?_,?_,?_⟩
 ·rw[X4]
  refine ⟨w.yd.nd,?_,fun a ha b hb z=>?_⟩
  ·rw[Xw]
   refine ⟨fun z=>(iO hl) (O8.mp z).symm,Xw.mpr ⟨Xg,Yy⟩⟩
  ·subst z
   rcases WG.mp hb with z | z
   ·exact S3 (z▸ha)
   ·exact UZ (O8.mp z▸ha)
 ·rcases WJ.mp hc with z | z
  ·exact w.yd.lt c z
  ·rcases WG.mp z with z | z
   ·rw[z];exact hl
   ·rw[O8.mp z];exact hl.aC
 ·rcases WJ.mp hc with z | z
  ·exact X0 _ (w.yd.cl c z)
  ·refine Xj _ ?_
   rcases WG.mp z with z | z
   ·rw[z];exact UB _ (O8.mpr rfl)
   ·rw[O8.mp z,aH hl];exact Uz
 ·rcases WJ.mp hE with z | z
  ·exact w.ap c (sub c hc) z
  ·rcases WG.mp z with z | z
   ·exact (Xw.mp Pe).1 (z▸hc)
   ·have e:c=aC L[r]:=O8.mp z
    exact A0 _ hs (e▸w.sm c (sub c hc))
 ·have:=hp.length_eq
  rw[XB,w.ll]at this
  omega
 ·rw[SD,w.el]
  show 2*i+2=_
  omega
theorem aW.eh {b p:Addr} {H H':Hp} {o:HO} (h:aW b H H') (n:H p=none):aW b H (L2.upd H' p o):=fun c u e z=>by rw[ay (az e n)];exact h c u e z
theorem cf.eh {b p:Addr} {H:Hp} {o:HO} (h:cf H b) (n:p≠b):cf (L2.upd H p o) b:=let ⟨x,y,e⟩:=h;⟨x,y,by rw[ay (Ne.symm n)];exact e⟩
theorem aW.none {b p:Addr} {H H':Hp} (h:aW b H H') (n:H' p=none) (z:p≠b):H p=none:=by
 cases q:H p with
 | none=>rfl
 | some o=>rw[h p o q z]at n;cases n
theorem cf.ne {b p:Addr} {H:Hp} (h:cf H b) (n:H p=none):p≠b:=fun z=>by obtain ⟨x,y,e⟩:=h;rw[<-z,n]at e;cases e
theorem xG {c:Bool} {A B:Prop} (h:c=false) (hB:B):if c=true then A else B:=by rw[h];exact AG hB
theorem Rn {c:Bool} {A B:Prop} (h:c=true) (hA:A):if c=true then A else B:=by rw[h];exact Jf hA
theorem cj (l:List Nat):(gv l).length=l.length:=by unfold gv;rw[XA,K4]
theorem Gi {l:List Nat} (h: ∀c∈l,Lt c):gv (gv l)=l:=by
 unfold gv
 rw[YL,List.reverse_reverse,X5]
 have: ∀c∈l,(aC ∘ aC) c=c:=fun c hc=>aH (h c hc)
 calc l.map (aC ∘ aC)=l.map id:=Zg this
  _=l:=Zm l
theorem CO {l:List Nat} (h: ∀c∈l,Lt c): ∀c∈l,c<128:=fun c hc=>(h c hc).lt
theorem iP (a:List Nat):a.take (cg a).length=a:=by rw[aN];exact Xo (SA _)
theorem aW.same {b:Addr} {H H2 H3:Hp} (n:H b=Option.none) (s:aq H H2) (t:aW b H2 H3):aq H H3:=fun c o e=>t c o (s c o e) (az e n)
theorem aW.after {p:Addr} {H H1 H2:Hp} (s:aW p H H1) (t:aq H1 H2):aW p H H2:=fun c o e z=>t c o (s c o e z)
noncomputable def dI (ws:List (List Nat)):List V:=ws.map fun l=>V.str (S l)
theorem bD (ws:List (List Nat)):(dI ws).length=ws.length:=by unfold dI;rw[K4]
theorem kL (ws:List (List Nat)) (l:List Nat):dI ws++[V.str (S l)]=dI (ws++[l]):=by unfold dI;rw[WI];rfl
theorem gW {ws:List (List Nat)} {i:Nat} (h:i<ws.length):(dI ws)[i]? =some (V.str (S ws[i])):=by unfold dI;rw[Xd,Jd h];rfl
noncomputable def cH (st:List Nat) (c:Nat):List Nat:=if st.getLast? =some (aC c) then st.dropLast else st++[c]
noncomputable def red (l:List Nat):List Nat:=l.foldl cH []
def jM:List Nat->Prop
 | []=>True
 | [_]=>True
 | a::b::r=>a≠aC b/\jM (b::r)
theorem jM.tail: ∀{a:Nat} {r:List Nat},jM (a::r)->jM r
 | _,[],_=>trivial
 | _,_::_,h=>h.2
theorem jM.snoc: ∀{l:List Nat} {c:Nat},jM l->l.getLast?≠ some (aC c)->jM (l++[c])
 | [],_,_,_=>trivial
 | [a],c,_,h=>⟨fun z=>h (by rw[z];rfl),trivial⟩
 | a::b::r,c,h,k=>⟨h.1,jM.snoc (l:=b::r) h.2 (by simpa using k)⟩
theorem jM.init: ∀{l:List Nat} {c:Nat},jM (l++[c])->jM l/\l.getLast?≠ some (aC c)
 | [],_,_=>⟨trivial,by simp⟩
 | [a],c,h=>⟨trivial,fun z=>h.1 (by simpa using z)⟩
 | a::b::r,c,h=>by
  have ih:=jM.init (l:=b::r) (c:=c) h.2
  exact ⟨⟨h.1,ih.1⟩,by simpa using ih.2⟩
theorem snoc_cases (l:List Nat):l=[]\/ ∃m a,l=m++[a]:=by
 by_cases h:l=[]
 ·exact .inl h
 ·exact .inr ⟨l.dropLast,l.getLast h,(List.dropLast_concat_getLast h).symm⟩
theorem jM.left: ∀{m l:List Nat},jM (m++l)->jM m
 | [],_,_=>trivial
 | [_],_,_=>trivial
 | a::b::r,l,h=>⟨h.1,jM.left (m:=b::r) (l:=l) h.2⟩
theorem lW {l:List Nat} {c:Nat} (h:l.getLast? =some c): ∃m,l=m++[c]:=by
 rcases snoc_cases l with rfl | ⟨m,a,rfl⟩
 ·simp at h
 ·refine ⟨m,?_⟩
  have:a=c:=by simpa using h
  rw[this]
theorem A2 {st:List Nat} {c:Nat} (h:jM st):jM (cH st c):=by
 unfold cH
 by_cases e:st.getLast? =some (aC c)
 ·rw[if_pos e]
  obtain ⟨m,rfl⟩:=lW e
  rw[Yo]
  exact h.init.1
 ·rw[if_neg e]
  exact h.snoc e
theorem A3 {st:List Nat} {c d:Nat} (h:d∈cH st c):d∈st\/d=c:=by
 unfold cH at h
 by_cases e:st.getLast? =some (aC c)
 ·rw[if_pos e]at h
  exact .inl (List.dropLast_subset _ h)
 ·rw[if_neg e]at h
  rcases WJ.mp h with z | z
  ·exact .inl z
  ·exact .inr (O8.mp z)
theorem xH {st:List Nat} {x y:Nat} (h:jM st) (hy:Lt y) (e:x=aC y):cH (cH st x) y=st:=by
 subst e
 unfold cH
 by_cases z:st.getLast? =some (aC (aC y))
 ·rw[if_pos z]
  obtain ⟨m,rfl⟩:=lW z
  rw[Yo,aH hy]
  have:=h.init.2
  rw[aH hy]at this
  rw[if_neg this]
 ·rw[if_neg z,if_pos (by simp),Yo]
theorem oO: ∀(l st:List Nat),jM st->jM (l.foldl cH st)
 | [],_,h=>h
 | _::l,_,h=>oO l _ (A2 h)
theorem Gj (l:List Nat):jM (red l):=oO l [] trivial
theorem kM {a b:List Nat} {x y:Nat} (hy:Lt y) (e:x=aC y):red (a++x::y::b)=red (a++b):=by
 unfold red
 rw[Zo,Yu,Yu,xH (oO a [] trivial) hy e, <-Zo]
theorem fold_same: ∀(l st:List Nat),jM (st++l)->l.foldl cH st=st++l
 | [],st,_=>by simp
 | c::l,st,h=>by
  have h':jM ((st++[c])++l):=by rw[Xx];exact h
  have h2:=(jM.left h').init.2
  rw[Yu]
  have:cH st c=st++[c]:=by unfold cH;rw[if_neg h2]
  rw[this,fold_same l (st++[c]) h',Xx]
  rfl
theorem eX {l:List Nat} (h:jM l):red l=l:=by
 exact fold_same l [] h
theorem fold_lt: ∀(l st:List Nat),(∀c∈l,Lt c)->(∀c∈st,Lt c)-> ∀c∈l.foldl cH st,Lt c
 | [],_,_,h=>h
 | a::l,st,h1,h2=>fold_lt l _ (fun c hc=>h1 c (UB _ hc)) fun c hc=>(A3 hc).elim (h2 c) fun z=>z▸h1 a Uz
theorem CP {l:List Nat} (h: ∀c∈l,Lt c): ∀c∈red l,Lt c:=fold_lt l [] h fun _ h=>absurd h Xg
theorem A4 (st:List Nat) (c:Nat):(cH st c).length<=st.length+1:=by
 unfold cH
 by_cases e:st.getLast? =some (aC c)
 ·rw[if_pos e,List.length_dropLast];omega
 ·rw[if_neg e,SD];exact SA _
theorem vF: ∀(l st:List Nat),(l.foldl cH st).length<=st.length+l.length
 | [],_=>SA _
 | c::l,st=>by
  have:=vF l (cH st c)
  have h2:=A4 st c
  rw[Yu,XB]
  omega
theorem kN (l:List Nat):(red l).length<=l.length:=by
 have:=vF l []
 rw[List.length_nil,ZC]at this
 exact this
theorem CQ {l:List Nat} {i c:Nat} (h:l[i]? =some c):red (l.take (i+1))=cH (red (l.take i)) c:=by
 unfold red
 rw[<-take_snoc h,Zo]
 rfl
theorem xI: ∀{l:List Nat},(∀k a b,l[k]? =some a->l[k+1]? =some b->a≠aC b)->jM l
 | [],_=>trivial
 | [_],_=>trivial
 | a::b::r,h=>⟨h 0 a b rfl rfl,xI (l:=b::r) fun k x y h1 h2=>h (k+1) x y (by simpa using h1) (by simpa using h2)⟩
noncomputable def BM (l:List Nat) (s e:Nat):List Nat:=(l.drop s).take (e - s)
noncomputable def strip:Nat->List Nat->List Nat
 | 0,l=>l
 | n+1,l=>match l with
  | []=>[]
  | [a]=>[a]
  | a::b::r=>if a=aC ((b::r).getLast (by simp)) then strip n (b::r).dropLast else a::b::r
theorem eY: ∀(n:Nat) {l:List Nat},l.length<2->strip n l=l
 | 0,_,_=>rfl
 | _+1,[],_=>rfl
 | _+1,[_],_=>rfl
 | _+1,_::_::_,h=>by simp at h;omega
theorem kO (l:List Nat) (y:Nat):(l++[y]).getLast (by simp)=y:=by simp
theorem strip_go (n:Nat) {a y:Nat} {m:List Nat} (h:a=aC y):strip (n+1) (a::(m++[y]))=strip n m:=by
 cases m with
 | nil=>
  show (if a=aC (([y]:List Nat).getLast (by simp)) then strip n ([y]:List Nat).dropLast else _)=strip n []
  rw[if_pos (by simpa using h)]
  rfl
 | cons b r=>
  show (if a=aC ((b::(r++[y])).getLast (by simp)) then strip n (b::(r++[y])).dropLast else _)=strip n (b::r)
  have e1:(b::(r++[y])).getLast (by simp)=y:=kO (b::r) y
  have e2:(b::(r++[y])).dropLast=b::r:=by
   have:b::(r++[y])=(b::r)++[y]:=rfl
   rw[this,Yo]
  rw[if_pos (by rw[e1];exact h),e2]
theorem strip_stop (n:Nat) {a y:Nat} {m:List Nat} (h:a≠aC y):strip n (a::(m++[y]))=a::(m++[y]):=by
 cases n with
 | zero=>rfl
 | succ n=>
  cases m with
  | nil=>
   show (if a=aC (([y]:List Nat).getLast (by simp)) then _ else _)=_
   rw[if_neg (by simpa using h)]
   rfl
  | cons b r=>
   show (if a=aC ((b::(r++[y])).getLast (by simp)) then _ else _)=_
   have e1:(b::(r++[y])).getLast (by simp)=y:=kO (b::r) y
   rw[if_neg (by rw[e1];exact h)]
   rfl
theorem zg {l:List Nat} (h:2<=l.length): ∃a m y,l=a::(m++[y]):=by
 cases l with
 | nil=>simp at h
 | cons a r=>
  rcases snoc_cases r with rfl | ⟨m,y,rfl⟩
  ·simp at h
  ·exact ⟨a,m,y,rfl⟩
theorem oP: ∀(n:Nat) (l:List Nat) (k:Nat),l.length<=n->strip (n+k) l=strip n l
 | 0,l,k,h=>by rw[eY _ (by omega),eY _ (by omega)]
 | n+1,l,k,h=>by
  by_cases h2:l.length<2
  ·rw[eY _ h2,eY _ h2]
  ·obtain ⟨a,m,y,rfl⟩:=zg (l:=l) (by omega)
   have hm:m.length<=n:=by simp at h;omega
   by_cases e:a=aC y
   ·have:n+1+k=(n+k)+1:=by omega
    rw[this,strip_go _ e,strip_go _ e,oP n m k hm]
   ·rw[strip_stop _ e,strip_stop _ e]
noncomputable def core (l:List Nat):List Nat:=strip l.length l
theorem nN {a y:Nat} {m:List Nat} (h:a=aC y):core (a::(m++[y]))=core m:=by
 unfold core
 have:(a::(m++[y])).length=(m.length+1)+1:=by simp
 rw[this,strip_go _ h,oP _ _ _ (SA _)]
theorem fD {a y:Nat} {m:List Nat} (h:a≠aC y):core (a::(m++[y]))=a::(m++[y]):=strip_stop _ h
theorem fI {l:List Nat} (h:l.length<2):core l=l:=eY _ h
theorem vG {P:List Nat->List Nat->Prop} (h1: ∀l,l.length<2->P l l) (h2: ∀a m y,a≠aC y->P (a::(m++[y])) (a::(m++[y]))) (h3: ∀a m y r,a=aC y->P m r->P (a::(m++[y])) r): ∀(n:Nat) (l:List Nat),l.length<=n->P l (core l)
 | 0,l,h=>by rw[fI (by omega)];exact h1 l (by omega)
 | n+1,l,h=>by
  by_cases hl:l.length<2
  ·rw[fI hl];exact h1 l hl
  ·obtain ⟨a,m,y,rfl⟩:=zg (l:=l) (by omega)
   by_cases e:a=aC y
   ·rw[nN e]
    exact h3 a m y _ e (vG h1 h2 h3 n m (by simp at h;omega))
   ·rw[fD e];exact h2 a m y e
theorem vH (l:List Nat):(core l).length<=l.length:=
 vG (P:=fun l r=>r.length<=l.length) (fun _ _=>SA _) (fun _ _ _ _=>SA _) (fun a m y r _ k=>by simp;omega) l.length l (SA _)
theorem Jz {l:List Nat} {s e:Nat} (h1:s+2<=e) (h2:e<=l.length):BM l s e=l[s]::(BM l (s+1) (e - 1)++[l[e - 1]]):=by
 unfold BM
 rw[X1 (by omega)]
 have e1:e - s=(e - 1 - (s+1))+1+1:=by omega
 rw[e1,List.take_succ_cons,ZX,Yl]
 have e2:s+1+(e - 1 - (s+1))=e - 1:=by omega
 rw[e2,Jd (by omega)]
 rfl
theorem Gk {l:List Nat} {s e:Nat} (h2:e<=l.length):(BM l s e).length=e - s:=by unfold BM;rw[Xh,Xn];omega
theorem Gm (l:List Nat):BM l 0 l.length=l:=by unfold BM;simp
def kP (_:PySem.W.Frag):Sp:=fun vs H Q _=> ∃l:List Nat,vs=[.str (S l)]/\(∀c∈l,Lt c)/\l.length<=1000/\ ∀H',aq H H'->Q (.str (S (red l))) H'
theorem qu {K:PySem.W.Frag} {vs:List V} {H:Hp} {Q:VK} {E:XK} (h:kP K vs H Q E):vs.length=1:=by obtain ⟨c,rfl,_⟩:=h;rfl
def mW (_:PySem.W.Frag):Sp:=fun vs H Q _=> ∃l:List Nat,vs=[.str (S l)]/\(∀c∈l,Lt c)/\l.length<=1000/\ ∀H',aq H H'->Q (.str (S (core (red l)))) H'
theorem tw {K:PySem.W.Frag} {vs:List V} {H:Hp} {Q:VK} {E:XK} (h:mW K vs H Q E):vs.length=1:=by obtain ⟨c,rfl,_⟩:=h;rfl
theorem eM {α:Type} (l:List α) (k:Nat):cut l none (some (k:Int))=l.take k:=by
 unfold cut
 rw[HT.ky,HT.fV,List.drop_zero,Nat.sub_zero]
 by_cases h:k<=l.length
 ·rw[X6 h]
 ·rw[X7 (by omega),Xo (SA _),Xo (by omega)]
theorem iQ {α:Type} (l:List α) (k:Nat):cut l (some (k:Int)) none=l.drop k:=by
 unfold cut
 rw[HT.ky,HT.fV]
 by_cases h:k<=l.length
 ·rw[X6 h,Xo (by rw[Xn];exact SA _)]
 ·rw[X7 (by omega),X8 (SA _),X8 (by omega)]
  simp
noncomputable def dk (c:List Nat) (k:Nat):List Nat:=c.drop k++c.take k
noncomputable def iw (c:List Nat) (n:Nat):List (List Nat):=(List.range n).map fun k=>dk c (k+1)
noncomputable def b9 (c:List Nat):List Nat:=bZ c (iw c (c.length - 1))
@[irreducible] noncomputable def bP (w:List Nat):List Nat:=b9 (core (red w))
theorem oQ (w:List Nat):bP w=b9 (core (red w)):=by unfold bP;rfl
theorem rh (c:List Nat) (n:Nat):iw c (n+1)=iw c n++[dk c (n+1)]:=by unfold iw;rw[Yf,WI];rfl
theorem gX: ∀(r:List (List Nat)) (a b:List Nat),bZ a (r++[b])=cO (bZ a r) b
 | [],_,_=>rfl
 | _::r,_,_=>gX r _ _
theorem b4 (c:List Nat) (k:Nat):(dk c k).length=c.length:=by unfold dk;rw[SD,Xn,Xh];omega
theorem gY: ∀(r:List (List Nat)) (a:List Nat),bZ a r=a\/bZ a r∈r
 | [],a=> .inl rfl
 | b::r,a=>by
  rcases gY r (cO a b) with h | h
  ·have hl:cO a b=a\/cO a b=b:=by unfold cO;split<;>simp
   rcases hl with e | e
   ·left;show bZ (cO a b) r=a;rw[h,e]
   ·right;show bZ (cO a b) r∈b::r;rw[h,e];exact Uz
  ·right;exact UB _ h
theorem rj (c:List Nat): ∃k,b9 c=dk c k:=by
 rcases gY (iw c (c.length - 1)) c with h | h
 ·exact ⟨0,by show bZ _ _=_;rw[h];unfold dk;simp⟩
 ·unfold iw at h
  obtain ⟨k,_,e⟩:=Xr.mp h
  exact ⟨k+1,e.symm⟩
theorem rk (w:List Nat):(bP w).length<=w.length:=by
 obtain ⟨k,e⟩:=rj (core (red w))
 unfold bP
 rw[e,b4]
 exact Xt (vH _) (kN w)
def zh (_:PySem.W.Frag):Sp:=fun vs H Q _=> ∃l:List Nat,vs=[.str (S l)]/\(∀c∈l,Lt c)/\l.length<=1000/\ ∀H',aq H H'->Q (.str (S (bP l))) H'
theorem CT {K:PySem.W.Frag} {vs:List V} {H:Hp} {Q:VK} {E:XK} (h:zh K vs H Q E):vs.length=1:=by obtain ⟨c,rfl,_⟩:=h;rfl
theorem JA (n d:Nat):HT.hZ n d (some (-1))=n - 1:=by
 have e:HT.hZ n d (some (-1))=(if (-1:Int)<0 then ((-1:Int)+(n:Int)).toNat else min (-1:Int).toNat n):=rfl
 rw[e,if_pos (by decide)]
 omega
theorem JB {α:Type} (l:List α):cut l (some (-2)) none=l.drop (l.length - 2):=by
 have e: ∀d,HT.hZ l.length d (some (-2))=(if (-2:Int)<0 then ((-2:Int)+(l.length:Int)).toNat else min (-2:Int).toNat l.length):=fun _=>rfl
 have e2: ∀d,HT.hZ l.length d (some (-2))=l.length - 2:=fun d=>by rw[e,if_pos (by decide)];omega
 unfold cut
 rw[HT.ky,e2]
 exact Xo (by rw[Xn];exact SA _)
def AllLt (l:List Nat):Prop:= ∀c∈l,Lt c
theorem AllLt.app {a b:List Nat} (h:AllLt a) (g:AllLt b):AllLt (a++b):=fun c hc=>(WJ.mp hc).elim (h c) (g c)
theorem AllLt.left {a b:List Nat} (h:AllLt (a++b)):AllLt a:=fun c hc=>h c (X0 _ hc)
theorem AllLt.right {a b:List Nat} (h:AllLt (a++b)):AllLt b:=fun c hc=>h c (Xj _ hc)
theorem oR: ∀(t st x y:List Nat),AllLt t->red (x++(st++t)++y)=red (x++t.foldl cH st++y)
 | [],st,x,y,_=>by rw[Xy];rfl
 | c::t,st,x,y,h=>by
  have hc:Lt c:=h c Uz
  have ht:AllLt t:=fun d hd=>h d (UB _ hd)
  rw[Yu, <-oR t (cH st c) x y ht]
  unfold cH
  by_cases e:st.getLast? =some (aC c)
  ·rw[if_pos e]
   obtain ⟨m,rfl⟩:=lW e
   rw[Yo]
   have:=kM (a:=x++m) (b:=t++y) hc rfl
   simpa [Xx]using this
  ·rw[if_neg e]
   simp[Xx]
theorem zi {t:List Nat} (x y:List Nat) (h:AllLt t):red (x++t++y)=red (x++red t++y):=by
 have:red (x++([]++t)++y)=red (x++red t++y):=oR t [] x y h
 simpa using this
theorem CU {t:List Nat} (y:List Nat) (h:AllLt t):red (t++y)=red (red t++y):=by simpa using zi [] y h
theorem A5 {t:List Nat} (x:List Nat) (h:AllLt t):red (x++t)=red (x++red t):=by simpa using zi x [] h
theorem oS (a b:List Nat): ¬a<cO a b:=by
 unfold cO
 split
 ·rename_i h;exact fun g=>Y2 a (List.lt_trans g h)
 ·exact Y2 a
theorem nc (a b:List Nat): ¬b<cO a b:=by
 unfold cO
 split
 ·exact Y2 b
 ·rename_i h;exact h
theorem HM {a b c:List Nat} (h: ¬b<a) (g: ¬c<b): ¬c<a:=List.le_trans (show a<=b from h) (show b<=c from g)
theorem Gn {a b:List Nat} (h: ¬b<a) (g: ¬a<b):a=b:=List.le_antisymm (show a<=b from h) (show b<=a from g)
theorem gZ: ∀(r:List (List Nat)) (a:List Nat), ∀x∈a::r, ¬x<bZ a r
 | [],a,x,hx=>by rw[O8.mp hx];exact Y2 a
 | b::r,a,x,hx=>by
  show ¬x<bZ (cO a b) r
  have h0:=gZ r (cO a b) (cO a b) Uz
  rcases WG.mp hx with e | hx
  ·rw[e];exact HM h0 (oS a b)
  ·rcases WG.mp hx with e | hx
   ·rw[e];exact HM h0 (nc a b)
   ·exact gZ r (cO a b) x (UB _ hx)
theorem kQ (c:List Nat):dk c 0=c:=by unfold dk;simp
theorem Gp (c:List Nat):dk c c.length=c:=by unfold dk;simp
theorem vI (c:List Nat) (k:Nat) (hk:k<=c.length): ¬dk c k<b9 c:=by
 have h:=gZ (iw c (c.length - 1)) c
 by_cases z:k=0
 ·rw[z,kQ];exact h c Uz
 ·by_cases z2:k=c.length
  ·rw[z2,Gp];exact h c Uz
  ·refine h _ (UB _ ?_)
   unfold iw
   exact Xr.mpr ⟨k - 1,XX.mpr (by omega),by rw[show k - 1+1=k by omega]⟩
theorem oT (c:List Nat): ∃k,k<=c.length/\b9 c=dk c k:=by
 rcases gY (iw c (c.length - 1)) c with h | h
 ·exact ⟨0,Xb _,by show bZ _ _=_;rw[h,kQ]⟩
 ·unfold iw at h
  obtain ⟨k,hk,e⟩:=Xr.mp h
  have:=XX.mp hk
  exact ⟨k+1,by omega,e.symm⟩
theorem CV {c m:List Nat} (h1: ∃k,k<=c.length/\m=dk c k) (h2: ∀k,k<=c.length-> ¬dk c k<m):b9 c=m:=by
 obtain ⟨k,hk,e⟩:=h1
 obtain ⟨j,hj,e2⟩:=oT c
 refine Gn ?_ ?_
 ·rw[e];exact vI c k hk
 ·rw[e2];exact h2 j hj
theorem zj (a b:List Nat):dk (a++b) a.length=b++a:=by unfold dk;rw[List.drop_left,List.take_left]
theorem zk {c:List Nat} {k j:Nat} (hk:k<=c.length) (hj:j<=c.length): ∃i,i<=c.length/\dk (dk c k) j=dk c i:=by
 by_cases z:j<=c.length - k
 ·refine ⟨k+j,by omega,?_⟩
  unfold dk
  rw[List.drop_append_of_le_length (by rw[Xn];omega),List.take_append_of_le_length (by rw[Xn];omega),List.drop_drop,Xx, <-List.take_add]
 ·refine ⟨j - (c.length - k),by omega,?_⟩
  unfold dk
  have e1:(c.drop k).length=c.length - k:=Xn
  rw[List.drop_append,List.take_append,e1,X8 (by rw[e1];omega),Xo (l:=c.drop k) (by rw[e1];omega),ZJ,List.drop_take,List.take_take]
  have e2:min (j - (c.length - k)) k=j - (c.length - k):=by omega
  rw[e2]
  have e3:c.drop (j - (c.length - k))=(c.drop (j - (c.length - k))).take (k - (j - (c.length - k)))++c.drop k:=by
   have:=XT (k - (j - (c.length - k))) (c.drop (j - (c.length - k)))
   rw[List.drop_drop]at this
   have e:j - (c.length - k)+(k - (j - (c.length - k)))=k:=by omega
   rw[e]at this
   exact this.symm
  rw[e3,Xx]
  congr 2
  exact e3.symm
theorem xJ {c:List Nat} {k:Nat} (hk:k<=c.length):b9 (dk c k)=b9 c:=by
 refine (CV (c:=c) ?_ fun j hj=>?_).symm
 ·obtain ⟨j,hj,e⟩:=oT (dk c k)
  rw[b4]at hj
  rw[e]
  exact zk hk hj
 ·have hb:c=dk (dk c k) (c.length - k):=by
   have e:dk c k=c.drop k++c.take k:=rfl
   have:=zj (c.drop k) (c.take k)
   rw[Xn, <-e]at this
   rw[this,XT]
  obtain ⟨i,hi,e⟩:=zk (c:=dk c k) (k:=c.length - k) (j:=j) (by rw[b4];omega) (by rw[b4];exact hj)
  rw[<-hb]at e
  rw[e]
  exact vI _ i hi
theorem oU (a b:List Nat):b9 (a++b)=b9 (b++a):=by
 rw[<-zj a b]
 exact (xJ (by rw[SD];omega)).symm
theorem xK {a b:Nat} (ha:Lt a) (hb:Lt b) (h:a≠aC b):b≠aC a:=fun z=>h (by rw[z,aH ha])
theorem lX {l:List Nat} (h: ∀a m y,l=a::(m++[y])->a≠aC y):core l=l:=by
 by_cases z:l.length<2
 ·exact fI z
 ·obtain ⟨a,m,y,rfl⟩:=zg (l:=l) (by omega)
  exact fD (h a m y rfl)
theorem CY {c d:Nat} {r:List Nat} (h:jM (d::r)) (hc:c≠aC d):jM (c::d::r):=⟨hc,h⟩
theorem JC {c:Nat} {t:List Nat} (hc:Lt c) (ht:AllLt t):b9 (core (red (c::t)))=b9 (core (red (t++[c]))):=by
 have e1:red (c::t)=red (c::red t):=A5 [c] ht
 have e2:red (t++[c])=red (red t++[c]):=CU [c] ht
 rw[e1,e2]
 have hr:jM (red t):=Gj t
 have JD:AllLt (red t):=CP ht
 generalize red t=r at hr JD
 cases r with
 | nil=>rfl
 | cons d s=>
  have hd:Lt d:=JD d Uz
  have HN:AllLt s:=fun x hx=>JD x (UB _ hx)
  obtain ⟨m,e,E6⟩: ∃m e,d::s=m++[e]:=by
   rcases snoc_cases (d::s) with z | ⟨m,e,z⟩
   ·cases z
   ·exact ⟨m,e,z⟩
  have K_:Lt e:=JD e (by rw[E6];simp)
  have last:(d::s).getLast? =some e:=by rw[E6];simp
  by_cases jY:c=aC d
  ·have f1:red (c::d::s)=s:=by
    have:=kM (a:=[]) (b:=s) hd jY
    rw[ZJ,ZJ]at this
    rw[this,eX hr.tail]
   rw[f1]
   by_cases HP:e=aC c
   ·have f2:red (d::s++[c])=m:=by
     rw[E6,Xx]
     have:=kM (a:=m) (b:=[]) hc HP
     rw[Xy]at this
     show red (m++e::c::[])=m
     rw[this,eX]
     rw[E6]at hr
     exact hr.init.1
    rw[f2]
    have U0:e=d:=by rw[HP,jY,aH hd]
    subst U0
    cases m with
    | nil=>
     have:s=[]:=by cases E6;rfl
     rw[this]
    | cons x m'=>
     have hx:x=e/\s=m'++[e]:=by
      have:=E6
      rw[YM]at this
      injection this with h1 h2
      exact ⟨h1.symm,h2⟩
     obtain ⟨rfl,rfl⟩:=hx
     have k1:core (m'++[x])=m'++[x]:=lX fun a mm y z=>by
      cases m' with
      | nil=>simp at z
      | cons a' WK=>
       rw[YM]at z
       injection z with z1 z2
       have z3:y=x:=by
        have:=congrArg List.getLast? z2
        simpa using this.symm
       rw[<-z1,z3]
       exact xK hd (HN a' (by simp)) hr.1
     have k2:core (x::m')=x::m':=lX fun a mm y z=>by
      injection z with z1 z2
      rw[<-z1]
      subst z2
      have:=hr.tail
      rw[Xx]at this
      have h4:jM ((mm++[y])++[x]):=by rw[Xx];exact this
      have h5:=h4.init.2
      intro z
      exact h5 (by rw[z,List.getLast?_concat,aH (HN y (by simp))])
     rw[k1,k2]
     exact oU m' [x]
   ·have f2:red (d::s++[c])=d::s++[c]:=eX (hr.snoc (by rw[last];intro z;exact HP (by injection z)))
    rw[f2]
    have:core (d::(s++[c]))=core s:=nN (by rw[jY,aH hd])
    rw[YM,this]
  ·have f1:red (c::d::s)=c::d::s:=eX (CY hr jY)
   rw[f1]
   by_cases HP:e=aC c
   ·have f2:red (d::s++[c])=m:=by
     rw[E6,Xx]
     have:=kM (a:=m) (b:=[]) hc HP
     rw[Xy]at this
     show red (m++e::c::[])=m
     rw[this,eX]
     rw[E6]at hr
     exact hr.init.1
    rw[f2,E6,nN (by rw[HP,aH hc])]
   ·have f2:red (d::s++[c])=d::s++[c]:=eX (hr.snoc (by rw[last];intro z;exact HP (by injection z)))
    rw[f2]
    have k1:core (c::d::s)=c::d::s:=by
     rw[E6]
     exact fD (xK K_ hc HP)
    have k2:core (d::s++[c])=d::s++[c]:=by
     rw[YM]
     exact fD (xK hc hd jY)
    rw[k1,k2]
    exact oU [c] (d::s)
theorem lY: ∀{u v:List Nat},AllLt u->AllLt v->bP (u++v)=bP (v++u)
 | [],v,_,_=>by rw[Xy];rfl
 | c::u,v,hu,hv=>by
  have hc:Lt c:=hu c Uz
  have S4:AllLt u:=fun x hx=>hu x (UB _ hx)
  have e1:bP (c::u++v)=bP (u++v++[c]):=by
   rw[oQ,oQ]
   exact JC hc (S4.app hv)
  have e2:=lY (u:=u) (v:=v++[c]) S4 (hv.app fun x hx=>by rw[O8.mp hx];exact hc)
  rw[e1,Xx,e2,Xx]
  rfl
theorem kR (u:List Nat): ∀(m i:Nat),i<m*u.length->(dH m u)[i]? =u[i%u.length]?
 | 0,i,h=>by simp at h
 | m+1,i,h=>by
  rw[eL,List.getElem?_append]
  by_cases z:i<u.length
  ·rw[if_pos z,Yj z]
  ·rw[if_neg z,kR u m (i - u.length) (by rw[Zh]at h;omega), <-ZT (by omega)]
def gz (w:List Nat) (s:Nat):Prop:=dH (w.length / s) (w.take s)=w
def gA (w:List Nat) (k:Nat):Prop:=dk w k=w
noncomputable instance (w:List Nat) (s:Nat):Decidable (gz w s):=by unfold gz;infer_instance
noncomputable instance (w:List Nat) (s:Nat):Decidable (gA w s):=by unfold gA;infer_instance
def bR (w:List Nat) (s:Nat):Prop:=(w=[]/\s=0)\/(1<=s/\s<=w.length/\gz w s/\ ∀j,1<=j->j<s-> ¬gz w j)
def j9 (w:List Nat) (s:Nat):Prop:=(w=[]/\s=0)\/(1<=s/\s<=w.length/\gA w s/\ ∀j,1<=j->j<s-> ¬gA w j)
theorem tD {w:List Nat} {s:Nat} (h1:1<=s) (h2:s<=w.length) (h:gz w s):gA w s:=by
 unfold gz at h
 have hm:1<=w.length / s:=Nat.div_pos h2 h1
 obtain ⟨m,e⟩: ∃m,w.length / s=m+1:=⟨w.length / s - 1,by omega⟩
 rw[e]at h
 have hu:(w.take s).length=s:=by rw[Xh];omega
 generalize w.take s=u at h hu
 unfold gA dk
 rw[<-h,eL,List.drop_left' hu,List.take_left' hu, <-xt,eL]
noncomputable def Fw (w:List Nat) (i:Nat):Option Nat:=w[i%w.length]?
theorem nP {w:List Nat} {k i:Nat} (hk:k<=w.length) (hi:i<w.length):(dk w k)[i]? =Fw w (i+k):=by
 unfold dk Fw
 rw[List.getElem?_append,Xn]
 by_cases z:i<w.length - k
 ·rw[if_pos z,Yl,Yj (by omega),ZW]
 ·rw[if_neg z,YU,if_pos (by omega),ZT (by omega),Yj (by omega)]
  congr 1
  omega
def wK (w:List Nat) (k:Nat):Prop:= ∀i,Fw w (i+k)=Fw w i
theorem CZ (w:List Nat) (i k:Nat):Fw w (i%w.length+k)=Fw w (i+k):=by unfold Fw;rw[Nat.mod_add_mod]
theorem fX {w:List Nat} {k:Nat} (hn:w≠[]) (hk:k<=w.length):gA w k↔wK w k:=by
 have hl:0<w.length:=SE.mpr hn
 constructor
 ·intro h i
  have hi:=YH i hl
  rw[<-CZ, <-nP hk hi,h]
  rfl
 ·intro h
  refine ZZ fun i=>?_
  by_cases hi:i<w.length
  ·rw[nP hk hi,h i]
   unfold Fw
   rw[Yj hi]
  ·have hr:(dk w k).length=w.length:=b4 w k
   rw[Ys (by omega),Ys (by omega)]
theorem wK.mul {w:List Nat} {k:Nat} (h:wK w k): ∀j i,Fw w (i+k*j)=Fw w i
 | 0,i=>rfl
 | j+1,i=>by rw[Nat.mul_succ, <-Nat.add_assoc,h,wK.mul h j]
theorem wK.whole (w:List Nat):wK w w.length:=fun i=>by unfold Fw;rw[Nat.add_mod_right]
theorem wK.rest {w:List Nat} {k:Nat} (h:wK w k):wK w (w.length%k):=fun i=>by
 rw[<-h.mul (w.length / k) (i+w.length%k),Nat.add_assoc,ZI]
 exact wK.whole w i
theorem rq {w:List Nat} {k:Nat} (hn:w≠[]) (h1:1<=k) (h2:k<=w.length) (h:gA w k) (hl: ∀j,1<=j->j<k-> ¬gA w j):gz w k:=by
 have hp:=(fX hn h2).mp h
 have hr:w.length%k=0:=by
  by_cases z:w.length%k=0
  ·exact z
  ·have dz:=YH w.length (show k>0 by omega)
   exact absurd ((fX hn (by omega)).mpr hp.rest) (hl _ (by omega) dz)
 have hm:w.length / k*k=w.length:=by
  have:=ZI w.length k
  rw[hr,ZC,Yw]at this
  exact this
 have hu:(w.take k).length=k:=by rw[Xh];omega
 unfold gz
 refine ZZ fun i=>?_
 by_cases hi:i<w.length
 ·rw[kR _ _ _ (by rw[hu,hm];exact hi),hu,YU]
  have U1:=YH i (show k>0 by omega)
  rw[if_pos U1]
  have e:=hp.mul (i / k) (i%k)
  rw[ZI]at e
  unfold Fw at e
  rw[Yj hi,Yj (by omega)]at e
  exact e.symm
 ·rw[Ys (by rw[va,hu,hm];omega),Ys (by omega)]
theorem jm {w:List Nat} {s k:Nat} (h:bR w s) (g:j9 w k):s=k:=by
 rcases h with ⟨e,e2⟩ | ⟨h1,h2,h3,h4⟩
 ·rcases g with ⟨_,g2⟩ | ⟨g1,g2,_,_⟩
  ·rw[e2,g2]
  ·rw[e]at g2;simp at g2;omega
 ·rcases g with ⟨e,_⟩ | ⟨g1,g2,g3,g4⟩
  ·rw[e]at h2;simp at h2;omega
  ·have hn:w≠[]:=fun z=>by rw[z]at h2;simp at h2;omega
   by_cases z:s<k
   ·exact absurd (tD h1 h2 h3) (g4 s h1 z)
   ·by_cases z2:k<s
    ·exact absurd (rq hn g1 g2 g3 g4) (h4 k g1 z2)
    ·omega
theorem A6 (w:List Nat) (h:w≠[]):gz w w.length:=by
 have hl:0<w.length:=SE.mpr h
 unfold gz
 rw[Nat.div_self hl,Xo (SA _)]
 show dH (0+1) w=w
 rw[eL]
 simp[dH]
theorem A7 (w:List Nat):gA w w.length:=by
 unfold gA dk
 rw[X8 (SA _),Xo (SA _)]
 rfl
noncomputable def Gq (c:List Nat) (n:Nat):List Nat:=((List.range n).map (· +1)).filter fun k=>decide (gA c k)
theorem tE {c:List Nat} {n k:Nat}:k∈Gq c n↔(1<=k/\k<=n)/\gA c k:=by
 unfold Gq
 rw[Xk,Xr]
 constructor
 ·rintro ⟨⟨j,hj,rfl⟩,h⟩
  have:=XX.mp hj
  exact ⟨by omega,of_decide_eq_true h⟩
 ·rintro ⟨h1,h2⟩
  exact ⟨⟨k - 1,XX.mpr (by omega),by omega⟩,decide_eq_true h2⟩
theorem xM (c:List Nat) (n:Nat):(Gq c n).Pairwise (· < ·):=by
 unfold Gq
 refine List.Pairwise.filter _ ?_
 rw[X9]
 exact (List.pairwise_lt_range (n:=n)).imp fun h=>Nat.succ_lt_succ h
theorem oV {c:List Nat} (h:c≠[]): ∃k r,Gq c c.length=k::r/\j9 c k:=by
 have hl:0<c.length:=SE.mpr h
 have hm:c.length∈Gq c c.length:=tE.mpr ⟨by omega,A7 c⟩
 rcases e:Gq c c.length with _ | ⟨k,r⟩
 ·rw[e]at hm;exact absurd hm Xg
 ·refine ⟨k,r,rfl, .inr ?_⟩
  have hk:k∈Gq c c.length:=by rw[e];exact Uz
  obtain ⟨⟨h1,h2⟩,h3⟩:=tE.mp hk
  refine ⟨h1,h2,h3,fun j j1 j2 z=>?_⟩
  have hj:j∈Gq c c.length:=tE.mpr ⟨by omega,z⟩
  have hs:=xM c c.length
  rw[e]at hj hs
  rcases WG.mp hj with w | w
  ·omega
  ·have:=List.rel_of_pairwise_cons hs w
   omega
noncomputable def HQ (w:List Nat) (s:Nat):List V:=[.str (S (w.take s)), .int ((w.length / s:Nat):Int)]
def zl (_:PySem.W.Frag):Sp:=fun vs H Q _=> ∃l:List Nat,vs=[.str (S l)]/\(∀c∈l,Lt c)/\l.length<=1000/\ ∀p s H',H p=none->H' p=some (.tup (HQ (bP l) s))->bR (bP l) s->aq H H'->Q (.ref p) H'
theorem C0 {K:PySem.W.Frag} {vs:List V} {H:Hp} {Q:VK} {E:XK} (h:zl K vs H Q E):vs.length=1:=by obtain ⟨c,rfl,_⟩:=h;rfl
theorem C1 {l:List Nat} (h:l.Nodup) {i j:Nat} (hi:i<l.length) (hj:j<l.length) (e:l[i]=l[j]):i=j:=by
 have hp:=Yt.mp h
 rcases Nat.lt_trichotomy i j with z | z | z
 ·exact absurd e (hp i j hi hj z)
 ·exact z
 ·exact absurd e.symm (hp j i hj hi z)
theorem aU: ∀c∈aP,aA c=true/\PyProof.Rows.lo1 c=c/\aC c∈j8:=by decide+kernel
theorem bE: ∀c∈j8,aA c=false/\PyProof.Rows.lo1 c=aC c/\c∉aP/\aC c∈aP:=by decide+kernel
theorem lZ: ∀c∈j8,c∉aP:=by decide+kernel
theorem gB {c:Nat} (h:Lt c):aA c=decide (c∈aP):=by
 rcases h with h | h
 ·rw[(aU c h).1,decide_eq_true h]
 ·rw[(bE c h).1,decide_eq_false (bE c h).2.2.1]
noncomputable def kept (sm:List Nat) (c:Nat):Bool:=decide (PyProof.Rows.lo1 c∈sm)
theorem zm {sm:List Nat} {c:Nat} (hs: ∀d∈sm,d∈aP) (h:Lt c):kept sm c=(decide (c∈sm)||decide (aC c∈sm)):=by
 unfold kept
 rcases h with h | h
 ·obtain ⟨_,e,e2⟩:=aU c h
  have:aC c∉sm:=fun z=>lZ _ e2 (hs _ z)
  rw[e,decide_eq_false this,Zt]
 ·obtain ⟨_,e,e2,_⟩:=bE c h
  have:c∉sm:=fun z=>e2 (hs _ z)
  rw[e,decide_eq_false this,Zu]
theorem C2 {sm:List Nat} {c:Nat} (hs: ∀d∈sm,d∈aP) (h:Lt c):kept sm (aC c)=kept sm c:=by
 rw[zm hs h,zm hs h.aC,aH h,Bool.or_comm]
theorem Yd.within {y sm:List Nat} (h:Yd y) (hs: ∀d∈sm,d∈aP):Yd (y.filter (kept sm)):=
 ⟨h.nd.filter _,fun c hc=>h.lt c (Xk.mp hc).1,fun c hc=>by
  obtain ⟨h1,h2⟩:=Xk.mp hc
  exact Xk.mpr ⟨h.cl c h1,by rw[C2 hs (h.lt c h1)];exact h2⟩⟩
noncomputable def gr (y:List Nat) (a b c:Nat):Bool:=decide ((((y.idxOf b:Nat):Int) - ((y.idxOf a:Nat):Int))%(y.length:Int)<(((y.idxOf c:Nat):Int) - ((y.idxOf a:Nat):Int))%(y.length:Int))
def jn (i j k:Nat):Prop:=(i<j/\j<k)\/(j<k/\k<i)\/(k<i/\i<j)
noncomputable instance (i j k:Nat):Decidable (jn i j k):=by unfold jn;infer_instance
theorem iR {i j n:Nat} (hi:i<n) (hj:j<n):((j:Int) - (i:Int))%(n:Int)=if i<=j then (j:Int) - i else (j:Int) - i+n:=by
 split
 ·exact Xv (by omega) (by omega)
 ·rw[<-YB]
  exact Xv (by omega) (by omega)
theorem fi {y:List Nat} {a b c:Nat} (hn:y.Nodup) (ha:a∈y) (hb:b∈y) (hc:c∈y) (tF:a≠b) (C3:a≠c) (C5:b≠c):gr y a b c=decide (jn (y.idxOf a) (y.idxOf b) (y.idxOf c)):=by
 have ia:=Uy ha
 have ib:=Uy hb
 have ic:=Uy hc
 have inj: ∀{u v:Nat},u∈y->v∈y->u≠v->y.idxOf u≠y.idxOf v:=fun {u v} hu hv h z=>h (by
  have e1:=XF (Uy hu)
  have e2:=XF (Uy hv)
  rw[<-e1, <-e2]
  congr 1)
 have n1:=inj ha hb tF
 have n2:=inj ha hc C3
 have n3:=inj hb hc C5
 unfold gr
 rw[iR ia ib,iR ia ic]
 generalize y.idxOf a=i at*
 generalize y.idxOf b=j at*
 generalize y.idxOf c=k at*
 refine decide_eq_decide.mpr ?_
 unfold jn
 split<;>split<;>omega
theorem C6 {i j k:Nat}:jn j k i↔jn i j k:=by unfold jn;omega
theorem Gr {i j k:Nat} (h1:i≠j) (h2:i≠k) (h3:j≠k):jn i k j↔ ¬jn i j k:=by unfold jn;omega
theorem Gs {y:List Nat} {a b c:Nat} (hn:y.Nodup) (ha:a∈y) (hb:b∈y) (hc:c∈y) (tF:a≠b) (C3:a≠c) (C5:b≠c):gr y b c a=gr y a b c:=by
 rw[fi hn ha hb hc tF C3 C5,fi hn hb hc ha C5 (Ne.symm tF) (Ne.symm C3)]
 exact decide_eq_decide.mpr C6
theorem b6 {y:List Nat} {u v:Nat} (hu:u∈y) (hv:v∈y) (h:u≠v):y.idxOf u≠y.idxOf v:=fun z=>h (by
 have e1:=XF (Uy hu)
 have e2:=XF (Uy hv)
 rw[<-e1, <-e2]
 congr 1)
theorem JE {y:List Nat} {a b c:Nat} (hn:y.Nodup) (ha:a∈y) (hb:b∈y) (hc:c∈y) (tF:a≠b) (C3:a≠c) (C5:b≠c):gr y a c b=!gr y a b c:=by
 rw[fi hn ha hb hc tF C3 C5,fi hn ha hc hb C3 tF (Ne.symm C5)]
 rw[<-decide_not]
 exact decide_eq_decide.mpr (Gr (b6 ha hb tF) (b6 ha hc C3) (b6 hb hc C5))
theorem j_ (d:Nat) (t:List Nat) (a:Nat):(d::t).idxOf a=if d=a then 0 else t.idxOf a+1:=by
 by_cases h:d=a
 ·subst h;rw[if_pos rfl,List.idxOf_cons_self]
 ·rw[if_neg h,List.idxOf_cons,show (d==a)=false by simp[h]];rfl
theorem fJ (p:Nat->Bool): ∀{y:List Nat} {a b:Nat},a∈y->b∈y->p a=true->p b=true->((y.filter p).idxOf a<(y.filter p).idxOf b↔y.idxOf a<y.idxOf b)
 | [],_,_,ha,_,_,_=>absurd ha Xg
 | d::t,a,b,ha,hb,pa,pb=>by
  by_cases hd:p d=true
  ·rw[XC hd,j_,j_,j_,j_]
   by_cases e1:d=a
   ·rw[if_pos e1,if_pos e1]
    by_cases e2:d=b
    ·rw[if_pos e2,if_pos e2]
    ·rw[if_neg e2,if_neg e2];omega
   ·rw[if_neg e1,if_neg e1]
    by_cases e2:d=b
    ·rw[if_pos e2,if_pos e2];omega
    ·have La:a∈t:=(WG.mp ha).resolve_left (Ne.symm e1)
     have BN:b∈t:=(WG.mp hb).resolve_left (Ne.symm e2)
     have ih:=fJ p La BN pa pb
     rw[if_neg e2,if_neg e2];omega
  ·have e1:d≠a:=fun z=>hd (z▸pa)
   have e2:d≠b:=fun z=>hd (z▸pb)
   have La:a∈t:=(WG.mp ha).resolve_left (Ne.symm e1)
   have BN:b∈t:=(WG.mp hb).resolve_left (Ne.symm e2)
   have ih:=fJ p La BN pa pb
   rw[Xu hd,j_,j_,if_neg e1,if_neg e2]
   omega
theorem A8 {y:List Nat} {p:Nat->Bool} {a b c:Nat} (hn:y.Nodup) (ha:a∈y.filter p) (hb:b∈y.filter p) (hc:c∈y.filter p) (tF:a≠b) (C3:a≠c) (C5:b≠c):gr (y.filter p) a b c=gr y a b c:=by
 obtain ⟨Ro,S5⟩:=Xk.mp ha
 obtain ⟨vy,j7⟩:=Xk.mp hb
 obtain ⟨N9,Ph⟩:=Xk.mp hc
 rw[fi (hn.filter _) ha hb hc tF C3 C5,fi hn Ro vy N9 tF C3 C5]
 refine decide_eq_decide.mpr ?_
 unfold jn
 rw[fJ p Ro vy S5 j7,fJ p vy N9 j7 Ph,fJ p N9 Ro Ph S5]
theorem A9 {a b:List Nat} (h:a.Perm b) (ha:a.Pairwise (· <= ·)) (hb:b.Pairwise (· <= ·)):a=b:=
 List.Perm.eq_of_pairwise (le:=fun x y=>x<=y) (fun _ _ _ _ h1 h2=>Z8 h1 h2) ha hb h
theorem tG {y sm:List Nat} (h:Yd y) (hs: ∀d∈sm,d∈aP) (hn:sm.Nodup) (hy: ∀d∈sm,d∈y):((y.filter (kept sm)).filter aA).Perm sm:=by
 refine (List.perm_ext_iff_of_nodup ((h.nd.filter _).filter _) hn).mpr fun c=>?_
 rw[Xk,Xk]
 constructor
 ·rintro ⟨⟨h1,h2⟩,h3⟩
  rw[gB (h.lt c h1)]at h3
  have hc:c∈aP:=of_decide_eq_true h3
  unfold kept at h2
  rw[(aU c hc).2.1]at h2
  exact of_decide_eq_true h2
 ·intro hc
  have h1:=hs c hc
  refine ⟨⟨hy c hc,?_⟩,(aU c h1).1⟩
  unfold kept
  rw[(aU c h1).2.1]
  exact decide_eq_true hc
def vJ (_:PySem.W.Frag):Sp:=fun vs H Q _=> ∃l:List Nat,vs=[.str (S l)]/\(∀c∈l,c<128)/\l.length<64/\ ∀l' H',l'.Perm (l.filter aA)->l'.Pairwise (· <= ·)->aq H H'->Q (.str (S l')) H'
theorem A_ {K:PySem.W.Frag} {vs:List V} {H:Hp} {Q:VK} {E:XK} (h:vJ K vs H Q E):vs.length=1:=by obtain ⟨c,rfl,_⟩:=h;rfl
def iS (_:PySem.W.Frag):Sp:=fun vs H Q _=> ∃(y:List Nat) (a b:Nat),vs=[.str (S y), .str (S [a]), .str (S [b])]/\a∈y/\b∈y/\y.length<=1000/\Q (.int ((((y.idxOf b:Nat):Int) - ((y.idxOf a:Nat):Int))%(y.length:Int))) H
theorem ng {K:PySem.W.Frag} {vs:List V} {H:Hp} {Q:VK} {E:XK} (h:iS K vs H Q E):vs.length=3:=by obtain ⟨c,_,_,rfl,_⟩:=h;rfl
def rz (_:PySem.W.Frag):Sp:=fun vs H Q _=> ∃(y sm:List Nat),vs=[.str (S y), .str (S sm)]/\(∀c∈y,c<128)/\y.length<=1000/\ ∀H',aq H H'->Q (.str (S (y.filter (kept sm)))) H'
theorem xN {K:PySem.W.Frag} {vs:List V} {H:Hp} {Q:VK} {E:XK} (h:rz K vs H Q E):vs.length=2:=by obtain ⟨c,_,rfl,_⟩:=h;rfl
def rA (_:PySem.W.Frag):Sp:=fun vs H Q _=> ∃y:List Nat,vs=[.str (S y)]/\y.length<64/\ ∀q l' H',H q=none->H' q=some (.lst (cg l'))->l'.Perm (y.filter fun c=>decide (c∈aP))->l'.Pairwise (· <= ·)->aq H H'->Q (.ref q) H'
theorem xO {K:PySem.W.Frag} {vs:List V} {H:Hp} {Q:VK} {E:XK} (h:rA K vs H Q E):vs.length=1:=by obtain ⟨c,rfl,_⟩:=h;rfl
theorem iT {p:Nat->Bool} {l:List Nat} {i c:Nat} (h:l[i]? =some c):(l.take (i+1)).filter p=(l.take i).filter p++if p c=true then [c] else []:=by
 rw[<-take_snoc h,YA]
 congr 1
 by_cases z:p c=true
 ·rw[if_pos z,XC z];rfl
 ·rw[if_neg z,Xu z];rfl
theorem C7 {y:List Nat} (h:Yd y):2*(y.filter aA).length=y.length:=by
 have key: ∀p q:Nat->Bool,(∀c∈y,p c=true->q (aC c)=true)->(y.filter p).length<=(y.filter q).length:=fun p q N_=>by
  have hn:((y.filter p).map aC).Nodup:=by
   show ((y.filter p).map aC).Pairwise (· ≠ ·)
   rw[X9]
   refine (h.nd.filter p).imp_of_mem fun {a b} ha hb z e=>z ?_
   exact d_ (h.lt a (Xk.mp ha).1) (h.lt b (Xk.mp hb).1) e
  have:=hn.length_le_of_subset (l₂:=y.filter q) fun c hc=>by
   obtain ⟨d,hd,rfl⟩:=Xr.mp hc
   obtain ⟨d1,d2⟩:=Xk.mp hd
   exact Xk.mpr ⟨h.cl d d1,N_ d d1 d2⟩
  rwa [K4]at this
 have k1:=key aA (fun c=>!aA c) fun c hc z=>by
  rw[gB (h.lt c hc)]at z
  have hs:=of_decide_eq_true z
  rw[(bE _ (aU c hs).2.2).1];rfl
 have k2:=key (fun c=>!aA c) aA fun c hc z=>by
  rcases h.lt c hc with q | q
  ·rw[(aU c q).1]at z;cases z
  ·exact (aU _ (bE c q).2.2.2).1
 have k3:(y.filter aA).length+(y.filter fun c=>!aA c).length=y.length:=by
  clear k1 k2 key h
  induction y with
  | nil=>rfl
  | cons a r ih=>
   cases hq:aA a
   ·rw[Xu (by simp[hq]),XC (by simp[hq]),XB,XB];omega
   ·rw[XC hq,Xu (by simp[hq]),XB,XB];omega
 omega
noncomputable def rd (w:List Nat) (k:Int):Nat:=w.getD (k%(w.length:Int)).toNat 0
theorem Oa {w:List Nat} (h:w≠[]) (k:Int):(k%(w.length:Int)).toNat<w.length:=by
 have:0<w.length:=SE.mpr h
 have h1:=X2 k (b:=(w.length:Int)) (by omega)
 have h2:=XS k (b:=(w.length:Int)) (by omega)
 omega
theorem eN {w:List Nat} (h:w≠[]) (k:Int):w[(k%(w.length:Int)).toNat]? =some (rd w k):=by
 unfold rd
 rw[UC,Jd (Oa h k)]
 rfl
theorem g5 {w:List Nat} (h:w≠[]) (k:Int):rd w k∈w:=W9 (eN h k)
theorem gh (w:List Nat) (k:Int):rd w (k+w.length)=rd w k:=by unfold rd;rw[YB]
theorem fj (w:List Nat) (k:Int):rd w (k%w.length)=rd w k:=by unfold rd;rw[YI _ (Z5 _)]
theorem g6 {w:List Nat} {k:Nat} (h:k<w.length):w[k]? =some (rd w k):=by
 have cP:w≠[]:=fun z=>by rw[z]at h;exact absurd h (ZH _)
 have:=eN cP (k:Int)
 rwa [Xv (by omega) (by omega),UA]at this
theorem vK {w:List Nat} {k:Int} {n:Nat} {c:Nat} (hn:n<w.length) (e:k%(w.length:Int)=n) (h:w[n]? =some c):rd w k=c:=by
 have:=g6 hn
 rw[h]at this
 rw[<-fj,e]
 exact (Xa this).symm
theorem kS {w:List Nat} {k:Int} (h1: -(w.length:Int)<=k) (h2:k<w.length):m6 w k=some (rd w k):=by
 have cP:w≠[]:=fun z=>by rw[z]at h1 h2;simp at h1 h2;omega
 unfold m6 E2
 by_cases h0:0<=k
 ·rw[if_pos h0,if_pos h2]
  have:=eN cP k
  rw[Xv h0 h2]at this
  exact this
 ·rw[if_neg h0,if_pos h1]
  have:=eN cP (k+w.length)
  rw[gh,Xv (by omega) (by omega)]at this
  exact this
theorem g7 {f:Int->Nat} {p:Nat} (P: ∀k,f (k+p)=f k) (k:Int): ∀t:Nat,f (k+t*p)=f k
 | 0=>by simp
 | t+1=>by
  have:k+((t+1:Nat):Int)*p=k+t*p+p:=by rw[XW,Int.add_mul];simp;omega
  rw[this,P,g7 P k t]
theorem fw {f g:Int->Nat} {p q:Nat} (hp:0<p) (hq:0<q) (Pf: ∀k,f (k+p)=f k) (Pg: ∀k,g (k+q)=g k) (h: ∀n:Nat,n<p+q->f n=g n) (k:Int):f k=g k:=by
 have up: ∀N n:Nat,n<N->f n=g n:=by
  intro N
  induction N with
  | zero=>intro n hn;omega
  | succ N ih=>
   intro n hn
   by_cases z:n<p+q
   ·exact h n z
   ·have e1:f n=f ((n - p:Nat):Int):=by have:=Pf ((n - p:Nat):Int);rwa [show ((n - p:Nat):Int)+p=n by omega]at this
    have e2:g ((n - p:Nat):Int)=g ((n - p - q:Nat):Int):=by have:=Pg ((n - p - q:Nat):Int);rwa [show ((n - p - q:Nat):Int)+q=((n - p:Nat):Int) by omega]at this
    have e3:f ((n - q:Nat):Int)=f ((n - p - q:Nat):Int):=by have:=Pf ((n - p - q:Nat):Int);rwa [show ((n - p - q:Nat):Int)+p=((n - q:Nat):Int) by omega]at this
    have e4:g n=g ((n - q:Nat):Int):=by have:=Pg ((n - q:Nat):Int);rwa [show ((n - q:Nat):Int)+q=n by omega]at this
    rw[e1,ih (n - p) (by omega),e2, <-ih (n - p - q) (by omega), <-e3,ih (n - q) (by omega), <-e4]
 have qr: ∃m:Nat,k+((k.natAbs*q:Nat):Int)*p=m/\k+((k.natAbs*p:Nat):Int)*q=m:=by
  have e1:((k.natAbs*q:Nat):Int)*p=((k.natAbs*(q*p):Nat):Int):=by rw[Nat.mul_assoc k.natAbs q p |>.symm];simp
  have e2:((k.natAbs*p:Nat):Int)*q=((k.natAbs*(q*p):Nat):Int):=by rw[Yw q p,Nat.mul_assoc k.natAbs p q |>.symm];simp
  have hle:k.natAbs<=k.natAbs*(q*p):=Nat.le_mul_of_pos_right _ (Nat.mul_pos hq hp)
  generalize k.natAbs*(q*p)=M at e1 e2 hle
  exact ⟨(k+M).toNat,by omega,by omega⟩
 obtain ⟨m,h1,h2⟩:=qr
 rw[<-g7 Pf k (k.natAbs*q),h1, <-g7 Pg k (k.natAbs*p),h2]
 exact up (m+1) m (Yr m)
noncomputable def qe (f g:Int->Nat):Nat->Nat->Nat
 | 0,i=>i
 | n+1,i=>if f i=g i then qe f g n (i+1) else i
theorem iU (f g:Int->Nat): ∀n i:Nat,i<=qe f g n i/\qe f g n i<=i+n/\(∀j:Nat,i<=j->j<qe f g n i->f j=g j)/\(qe f g n i<i+n->f (qe f g n i)≠g (qe f g n i))
 | 0,i=>⟨SA _,SA _,fun j h1 h2=>absurd (Xz h1 h2) (XN _),fun h=>absurd h (XN _)⟩
 | n+1,i=>by
  unfold qe
  by_cases z:f i=g i
  ·rw[if_pos z]
   obtain ⟨h1,h2,h3,h4⟩:=iU f g n (i+1)
   refine ⟨by omega,by omega,fun j g1 g2=>?_,fun g1=>h4 (by omega)⟩
   by_cases e:j=i
   ·rw[e];exact z
   ·exact h3 j (by omega) g2
  ·rw[if_neg z]
   exact ⟨SA _,by omega,fun j g1 g2=>absurd (Xz g1 g2) (XN _),fun _=>z⟩
noncomputable def al (y:List Nat) (f g:Int->Nat) (n:Nat):Nat:=
 if f 0≠g 0\/f (-1)=g (-1) then 0 else
 if gr y (aC (f (-1))) (aC (g (-1))) (f 0)=gr y (f (qe f g n 0)) (g (qe f g n 0)) (aC (f ((qe f g n 0:Nat) - 1))) then qe f g n 0 else 0
noncomputable def ac (y:List Nat) (a b p q:Nat):Bool:=if p=a\/p=b\/q=a\/q=b then false else (gr y a p b != gr y a q b)
noncomputable def sq (w:List Nat) (i:Int):Int->Nat:=fun n=>rd w (i+n)
noncomputable def bq (v:List Nat) (j:Int):Int->Nat:=fun n=>aC (rd v (j - n))
theorem cX (w:List Nat) (i k:Int):sq w i (k+w.length)=sq w i k:=by unfold sq;rw[<-Int.add_assoc,gh]
theorem xP (w:List Nat) (k:Int):rd w (k - w.length)=rd w k:=by rw[<-gh w (k - w.length)];congr 1;omega
theorem oW (w:List Nat) (i k:Int):bq w i (k+w.length)=bq w i k:=by unfold bq;rw[show i - (k+(w.length:Int))=i - k - w.length by omega,xP]
theorem l_ {v:List Nat} (h:v≠[]) (k:Int):rd (gv v) k=aC (rd v (-1 - k)):=by
 have qr:0<v.length:=SE.mpr h
 have h1:=X2 k (b:=(v.length:Int)) (by omega)
 have h2:=XS k (b:=(v.length:Int)) (by omega)
 have e:(-1 - k)%(v.length:Int)=v.length - 1 - k%v.length:=by
  have e1:=ZM k v.length
  have: -1 - k=(v.length - 1 - k%v.length)+v.length*(-(k / v.length) - 1):=by rw[Int.mul_sub,Int.mul_neg];omega
  rw[this,Zl,Xv (by omega) (by omega)]
 generalize hr:k%(v.length:Int)=r at h1 h2 e
 obtain ⟨n,rfl⟩: ∃n:Nat,r=n:=⟨r.toNat,by omega⟩
 have hn:n<v.length:=by omega
 have e2:rd v (-1 - k)=v[v.length - 1 - n]'(by omega):=vK (n:=v.length - 1 - n) (by omega) (by rw[e];omega) (Jd (by omega))
 rw[e2]
 refine vK (n:=n) (by rw[cj];exact hn) (by rw[cj];exact hr) ?_
 unfold gv
 rw[Y7 (by rw[K4];exact hn),K4,Xd,Jd (by omega)]
 rfl
theorem JF {v:List Nat} (h:v≠[]) (j:Nat):sq (gv v) ((v.length:Int) - 1 - j)=bq v j:=by
 funext n
 unfold sq bq
 rw[l_ h,show -1 - ((v.length:Int) - 1 - j+n)=j - n - v.length by omega,xP]
structure SW (y w:List Nat):Prop where
 ne:w≠[]
 bo: ∀c∈w,c∈y
 red: ∀k:Int,rd w k≠aC (rd w (k - 1))
theorem SW.rd {y w:List Nat} (h:SW y w) (k:Int):rd w k∈y:=h.bo _ (g5 h.ne k)
theorem jo {w v:List Nat} {f g:Int->Nat} (hw:w≠[]) (hv:v≠[]) (pf: ∀k,f (k+w.length)=f k) (pg: ∀k,g (k+v.length)=g k) (h:f (-1)≠g (-1)):qe f g (w.length+v.length) 0<w.length+v.length/\f (qe f g (w.length+v.length) 0)≠g (qe f g (w.length+v.length) 0):=by
 obtain ⟨_,b,c,d⟩:=iU f g (w.length+v.length) 0
 by_cases z:qe f g (w.length+v.length) 0<w.length+v.length
 ·exact ⟨z,d (by omega)⟩
 ·exact absurd (fw (SE.mpr hw) (SE.mpr hv) pf pg (fun n hn=>c n (Xb _) (by omega)) (-1)) h
noncomputable def vL (ws:List (List Nat)):Nat->List (Nat×Nat)
 | 0=>[]
 | n+1=>vL ws n++(List.range (ws.getD n []).length).map fun i=>(n,i)
noncomputable def places (ws:List (List Nat)):List (Nat×Nat):=vL ws ws.length
theorem nQ {ws:List (List Nat)}: ∀{n:Nat} {o:Nat×Nat},o∈vL ws n↔o.1<n/\o.2<(ws.getD o.1 []).length
 | 0,o=>by simp[vL]
 | n+1,o=>by
  unfold vL
  rw[WJ,nQ (n:=n),Xr]
  constructor
  ·rintro (⟨h1,h2⟩ | ⟨i,hi,rfl⟩)
   ·exact ⟨by omega,h2⟩
   ·exact ⟨by simp,XX.mp hi⟩
  ·rintro ⟨h1,h2⟩
   by_cases z:o.1<n
   ·exact .inl ⟨z,h2⟩
   ·have e:o.1=n:=by omega
    exact .inr ⟨o.2,XX.mpr (by rw[<-e];exact h2),by rw[<-e]⟩
theorem zo {ws:List (List Nat)}: ∀n:Nat,(vL ws n).Pairwise fun a b=>E4 a.1 a.2 b.1 b.2=true
 | 0=>List.Pairwise.nil
 | n+1=>by
  unfold vL
  rw[Ym]
  refine ⟨zo n,?_,fun a ha b hb=>?_⟩
  ·rw[X9]
   refine List.pairwise_lt_range.imp fun {a b} h=>?_
   unfold E4
   rw[if_pos rfl]
   exact decide_eq_true (by show (a:Int)<b;omega)
  ·obtain ⟨i,hi,rfl⟩:=Xr.mp hb
   have:=(nQ.mp ha).1
   unfold E4
   rw[if_neg (by show ¬((a.1:Nat):Int)=(n:Nat);omega)]
   exact decide_eq_true (by show ((a.1:Nat):Int)<(n:Nat);omega)
theorem md: ∀{a b:List Int},bI a b=true->bI b a=false/\a≠b
 | [],[],h=>by simp[bI]at h
 | [],_::_,h=>⟨rfl,by simp⟩
 | _::_,[],h=>by simp[bI]at h
 | x::r,z::t,h=>by
  simp only[bI]at h ⊢
  split at h
  ·rename_i e
   obtain ⟨h1,h2⟩:=md h
   rw[if_pos e.symm]
   exact ⟨h1,fun q=>h2 (List.cons.inj q).2⟩
  ·rename_i e
   have h':=of_decide_eq_true h
   rw[if_neg (fun q=>e q.symm)]
   exact ⟨decide_eq_false (by omega),fun q=>e (List.cons.inj q).1⟩
noncomputable def iV (n:Nat) (l:List Nat):List Nat:=(List.replicate n l).flatten
def Ba (w:List Nat):Prop:= ∀(k a b:Nat),w[k]? =some a->w[k+1]? =some b->b≠aC a
theorem Ba.nil:Ba []:=fun k a b h=>by simp at h
theorem Ba.take {w:List Nat} (h:Ba w) (n:Nat):Ba (w.take n):=fun k a b h1 h2=>by
 rw[YU]at h1 h2
 split at h1
 ·split at h2
  ·exact h k a b h1 h2
  ·cases h2
 ·cases h1
theorem Ba.snoc {w:List Nat} {c:Nat} (h:Ba w) (hc: ∀a,w.getLast? =some a->c≠aC a):Ba (w++[c]):=fun k a b h1 h2=>by
 by_cases z:k+1<w.length
 ·rw[XG (by omega)]at h1
  rw[XG z]at h2
  exact h k a b h1 h2
 ·have xv:k+1<(w++[c]).length:=(Je.mp h2).1
  rw[SD]at xv
  have e:k+1=w.length:=by simp at xv;omega
  rw[XG (by omega)]at h1
  rw[e,XY (SA _),ZV]at h2
  have e2:c=b:=by simpa using h2
  rw[<-e2]
  refine hc a ?_
  rw[YQ, show w.length - 1=k by omega]
  exact h1
theorem SW.of {y w:List Nat} (ne:w≠[]) (bo: ∀c∈w,c∈y) (E7:Ba w) (hd: ∀a b,w.head? =some a->w.getLast? =some b->a≠aC b):SW y w:=by
 refine ⟨ne,bo,fun k=>?_⟩
 have qr:0<w.length:=SE.mpr ne
 have h1:=X2 k (b:=(w.length:Int)) (by omega)
 have h2:=XS k (b:=(w.length:Int)) (by omega)
 have hk:=eN ne k
 have K7:=eN ne (k - 1)
 by_cases z:k%(w.length:Int)=0
 ·have e:(k - 1)%(w.length:Int)=w.length - 1:=by
   rw[<-Z4,z]
   have:(0:Int) - 1=(w.length - 1)+w.length*(-1):=by omega
   rw[this,Zl,Xv (by omega) (by omega)]
  rw[z]at hk
  rw[e]at K7
  refine hd _ _ ?_ ?_
  ·rw[ZF];exact hk
  ·rw[YQ, show w.length - 1=((w.length:Int) - 1).toNat by omega];exact K7
 ·have e:(k - 1)%(w.length:Int)=k%w.length - 1:=by
   rw[<-Z4,Xv (by omega) (by omega)]
  rw[e]at K7
  refine E7 _ _ _ K7 ?_
  rw[show (k%(w.length:Int) - 1).toNat+1=(k%(w.length:Int)).toNat by omega]
  exact hk
theorem SW.E7 {y w:List Nat} (h:SW y w):Ba w:=fun k a b h1 h2=>by
 have hk:=(Je.mp h2).1
 have e1:=g6 (w:=w) (k:=k) (by omega)
 have e2:=g6 (w:=w) (k:=k+1) hk
 rw[h1]at e1
 rw[h2]at e2
 rw[Xa e1,Xa e2]
 have:=h.red ((k+1:Nat):Int)
 rwa [show (((k+1:Nat):Int) - 1)=(k:Int) by omega]at this
theorem xQ {w:List Nat} {n:Nat} (h:w≠[]) (hn:n<=w.length) (k:Int):rd (w.drop n++w.take n) k=rd w (k+n):=by
 have qr:0<w.length:=SE.mpr h
 have hl:(w.drop n++w.take n).length=w.length:=by rw[SD,Xn,Xh];omega
 have h1:=X2 k (b:=(w.length:Int)) (by omega)
 have h2:=XS k (b:=(w.length:Int)) (by omega)
 have e:(k+n)%(w.length:Int)=(k%w.length+n)%w.length:=by rw[Zp]
 generalize hr:k%(w.length:Int)=r at h1 h2 e
 obtain ⟨m,rfl⟩: ∃m:Nat,r=m:=⟨r.toNat,by omega⟩
 have hm:m<w.length:=by omega
 by_cases z:m+n<w.length
 ·have hg:w[m+n]? =some (rd w (k+n)):=by
   have:=eN h (k+n)
   rwa [e,Xv (by omega) (by omega),show ((m:Int)+n).toNat=m+n by omega]at this
  refine vK (n:=m) (by rw[hl];exact hm) (by rw[hl];exact hr) ?_
  rw[XG (by rw[Xn];omega),Yl,ZW]
  exact hg
 ·have hg:w[m+n - w.length]? =some (rd w (k+n)):=by
   have:=eN h (k+n)
   have e2:((m:Int)+n)%w.length=((m+n - w.length:Nat):Int):=by
    have:(m:Int)+n=((m+n - w.length:Nat):Int)+w.length:=by omega
    rw[this,YB,Xv (by omega) (by omega)]
   rwa [e,e2,UA]at this
  refine vK (n:=m) (by rw[hl];exact hm) (by rw[hl];exact hr) ?_
  rw[XY (by rw[Xn];omega),Xn,YU,if_pos (by omega),show m - (w.length - n)=m+n - w.length by omega]
  exact hg
theorem SW.dk {y w:List Nat} {n:Nat} (h:SW y w) (hn:n<=w.length):SW y (w.drop n++w.take n):=by
 refine ⟨fun z=>h.ne ?_,fun c hc=>?_,fun k=>?_⟩
 ·have l0:(w.drop n++w.take n).length=0:=by rw[z];rfl
  rw[SD,Xn,Xh]at l0
  exact XM.mp (by omega)
 ·exact h.bo c ((WJ.mp hc).elim Zb Yn)
 ·rw[xQ h.ne hn,xQ h.ne hn,show k - 1+n=k+n - 1 by omega]
  exact h.red _
theorem SW.gv {y w:List Nat} (hy:Yd y) (h:SW y w):SW y (gv w):=by
 refine ⟨fun z=>h.ne ?_,fun c hc=>?_,fun k=>?_⟩
 ·have:=cj w
  rw[z]at this
  exact XM.mp this.symm
 ·obtain ⟨d,hd,rfl⟩:=Xr.mp (Zw.mp hc)
  exact hy.cl d (h.bo d hd)
 ·rw[l_ h.ne,l_ h.ne,show -1 - (k - 1)= -1 - k+1 by omega]
  intro q
  have l1:=hy.lt _ (h.rd (-1 - k))
  have l2:=hy.lt _ (h.rd (-1 - k+1))
  rw[aH l2]at q
  have:=h.red (-1 - k+1)
  rw[show -1 - k+1 - 1= -1 - k by omega]at this
  exact this q.symm
theorem kT (n:Nat) (l:List Nat):iV (n+1) l=l++iV n l:=by unfold iV;rw[ZN,Ye]
theorem zp (n:Nat) (l:List Nat):(iV n l).length=n*l.length:=by
 induction n with
 | zero=>simp[iV]
 | succ n ih=>rw[kT,SD,ih,Zh,ZW]
theorem zq {l:List Nat}: ∀{n k:Nat},k<n*l.length->(iV n l)[k]? =l[k%l.length]?
 | 0,k,h=>by simp at h
 | n+1,k,h=>by
  rw[kT]
  by_cases z:k<l.length
  ·rw[XG z,Yj z]
  ·rw[XY (by omega),zq (by rw[Zh]at h;omega),ZT (by omega:l.length<=k)]
theorem zr {w:List Nat} {n:Nat} (h:w≠[]) (hn:0<n) (k:Int):rd (iV n w) k=rd w k:=by
 have qr:0<w.length:=SE.mpr h
 have hl:=zp n w
 have S6:0<n*w.length:=Nat.mul_pos hn qr
 have h1:=X2 k (b:=((n*w.length:Nat):Int)) (by omega)
 have h2:=XS k (b:=((n*w.length:Nat):Int)) (by omega)
 have e:k%(w.length:Int)=(k%((n*w.length:Nat):Int))%w.length:=(YI k (by rw[Z_];exact Int.dvd_mul_left _ _)).symm
 generalize hr:k%((n*w.length:Nat):Int)=r at h1 h2 e
 obtain ⟨m,rfl⟩: ∃m:Nat,r=m:=⟨r.toNat,by omega⟩
 have hm:m<n*w.length:=by omega
 refine vK (n:=m) (by rw[hl];exact hm) (by rw[hl];exact hr) ?_
 rw[zq hm]
 have:=eN h k
 rwa [e,show (((m:Int)%w.length).toNat)=m%w.length by rw[<-Y9,UA]]at this
theorem Gu {w:List Nat} {n c:Nat} (h:c∈iV n w):c∈w:=by
 obtain ⟨l,hl,hc⟩:=List.mem_flatten.mp h
 rwa [List.eq_of_mem_replicate hl]at hc
theorem SW.dH {y w:List Nat} {n:Nat} (h:SW y w) (hn:0<n):SW y (iV n w):=by
 refine ⟨fun z=>?_,fun c hc=>h.bo c (Gu hc),fun k=>by rw[zr h.ne hn,zr h.ne hn];exact h.red k⟩
 have:=zp n w
 rw[z]at this
 have h2:0<n*w.length:=Nat.mul_pos hn (SE.mpr h.ne)
 simp at this
 omega
theorem SW.twice {y w:List Nat} (h:SW y w):SW y (w++w):=by
 have:=h.dH (n:=2) (by decide)
 rwa [show iV 2 w=w++w by rw[kT,kT];simp[iV]]at this
theorem SW.snoc {y w:List Nat} {c:Nat} (hy:Yd y) (E7:Ba w) (bo: ∀a∈w,a∈y) (hc:c∈y) (h1: ∀a,w.getLast? =some a->c≠aC a) (h2: ∀a,w.head? =some a->c≠aC a):SW y (w++[c]):=by
 refine SW.of (by simp) (fun a ha=>?_) (E7.snoc h1) fun a b ha hb=>?_
 ·rcases WJ.mp ha with q | q
  ·exact bo a q
  ·rw[O8.mp q];exact hc
 ·have eb:b=c:=by simpa using hb.symm
  subst eb
  cases w with
  | nil=>
   have:b=a:=by simpa using ha
   rw[<-this]
   exact fun q=>iO (hy.lt b hc) q.symm
  | cons x r=>
   have:x=a:=by simpa using ha
   subst this
   have hx:x∈y:=bo x Uz
   intro q
   exact h2 x rfl (by rw[q,aH (hy.lt b hc)])
theorem tH {w:List Nat} (h:w≠[]):w.getLast? =some (rd w (-1)):=by
 have qr:0<w.length:=SE.mpr h
 have:=eN h (-1)
 have e:(-1:Int)%(w.length:Int)=w.length - 1:=by
  have e2:(-1:Int)=((w.length:Int) - 1)+w.length*(-1):=by omega
  rw[e2,Zl,Xv (by omega) (by omega)]
 rw[e]at this
 rw[YQ, show w.length - 1=((w.length:Int) - 1).toNat by omega]
 exact this
theorem nR {w:List Nat} (h:w≠[]):w.head? =some (rd w 0):=by
 have:=eN h 0
 rw[ZF]
 simpa using this
theorem Bb (w:List Nat): ∃k,j9 w k:=by
 by_cases h:w=[]
 ·exact ⟨0, .inl ⟨h,rfl⟩⟩
 ·obtain ⟨k,_,_,t⟩:=oV h
  exact ⟨k,t⟩
theorem bR.turn {w:List Nat} {s:Nat} (h:bR w s):j9 w s:=by
 obtain ⟨k,t⟩:=Bb w
 rw[jm h t];exact t
theorem bR.least {w:List Nat} {s j:Nat} (h:bR w s) (j1:1<=j) (j2:j<s) (hp:wK w j):False:=by
 rcases h.turn with ⟨_,e⟩ | ⟨h1,h2,h3,h4⟩
 ·omega
 ·have hn:w≠[]:=fun z=>by rw[z]at h2;simp at h2;omega
  exact h4 j j1 j2 ((fX hn (by omega)).mpr hp)
theorem SW.U2 {y w:List Nat} (hy:Yd y) (h:SW y w):jM w:=xI fun k a b ha hb e=>by
 have BN:b∈y:=h.bo b (W9 hb)
 have:=h.E7 k a b ha hb
 rw[e,aH (hy.lt b BN)]at this
 exact this rfl
theorem SW.core {y w:List Nat} (hy:Yd y) (h:SW y w):My.core (My.red w)=w:=by
 rw[eX (h.U2 hy)]
 by_cases z:w.length<2
 ·exact fI z
 ·obtain ⟨a,m,e,hw⟩:=zg (l:=w) (by omega)
  have h0:=nR h.ne
  have h1:=tH h.ne
  have hr:=h.red 0
  rw[show (0:Int) - 1= -1 by omega]at hr
  rw[hw]at h0 h1 hr ⊢
  have e0:a=My.rd (a::(m++[e])) 0:=Xa h0
  have e1:e=My.rd (a::(m++[e])) (-1):=by
   have:(a::(m++[e])).getLast? =some e:=by rw[<-YM,List.getLast?_append];rfl
   exact Xa (this.symm.trans h1)
  exact fD (by rw[<-e0, <-e1]at hr;exact hr)
theorem tI {w:List Nat} {k:Nat} (hk:k<=w.length) (i:Nat):Fw (dk w k) i=Fw w (i+k):=by
 by_cases z:w=[]
 ·subst z
  unfold Fw dk
  simp
 ·have hp:0<w.length:=SE.mpr z
  have e:Fw (dk w k) i=(dk w k)[i%w.length]?:= by unfold Fw;rw[b4]
  rw[e,nP hk (YH _ hp),CZ]
theorem zt {w:List Nat} {k s:Nat} (hk:k<=w.length) (hn:w≠[]):wK (dk w k) s↔wK w s:=by
 constructor
 ·intro h i
  have h1:=h (i+(w.length - k))
  rw[tI hk,tI hk]at h1
  have e1:i+(w.length - k)+s+k=i+s+w.length:=by omega
  have e2:i+(w.length - k)+k=i+w.length:=by omega
  rw[e1,e2,wK.whole w,wK.whole w]at h1
  exact h1
 ·intro h i
  rw[tI hk,tI hk,show i+s+k=i+k+s by omega]
  exact h _
theorem rB {w:List Nat} (hn:w≠[]) {s:Nat} (h:bR w s):j9 w s:=by
 obtain ⟨k,r,_,g⟩:=oV hn
 rw[jm h g]
 exact g
theorem C8 {w:List Nat} {k s:Nat} (hk:k<=w.length) (hn:w≠[]) (h:j9 (dk w k) s):j9 w s:=by
 have w4:dk w k≠[]:=fun z=>hn (XM.mp (by have:=b4 w k;rw[z]at this;exact this.symm))
 rcases h with ⟨z,_⟩ | ⟨h1,h2,h3,h4⟩
 ·exact absurd z w4
 ·rw[b4]at h2
  refine .inr ⟨h1,h2,(fX hn h2).mpr ((zt hk hn).mp ((fX w4 (by rw[b4];exact h2)).mp h3)),fun j j1 j2 j3=>h4 j j1 j2 ?_⟩
  exact (fX w4 (by rw[b4];omega)).mpr ((zt hk hn).mpr ((fX hn (by omega)).mp j3))
theorem Bc {y w:List Nat} {s t:Nat} (hy:Yd y) (h:SW y w) (hr:bR (bP w) s) (hw:bR w t):s=t/\(bP w).length=w.length:=by
 have e:bP w=b9 w:=by unfold bP;rw[h.core hy]
 obtain ⟨k,ek⟩:=rj w
 have xv: ∃k,k<=w.length/\b9 w=dk w k:=by
  by_cases z:k<=w.length
  ·exact ⟨k,z,ek⟩
  ·refine ⟨w.length,SA _,?_⟩
   rw[ek]
   unfold dk
   rw[X8 (by omega),Xo (by omega),List.drop_length,Yb]
 obtain ⟨k,hk,ek⟩:=xv
 rw[e,ek]at hr ⊢
 have w4:dk w k≠[]:=fun z=>h.ne (XM.mp (by have:=b4 w k;rw[z]at this;exact this.symm))
 refine ⟨?_,b4 w k⟩
 exact (jm hw (C8 hk h.ne (rB w4 hr))).symm
theorem zu {w:List Nat} (hn:w≠[]): ∃s,bR w s:=by
 obtain ⟨k,r,_,g⟩:=oV hn
 rcases g with ⟨z,_⟩ | ⟨h1,h2,h3,h4⟩
 ·exact absurd z hn
 ·exact ⟨k, .inr ⟨h1,h2,rq hn h1 h2 h3 h4,fun j j1 j2 j3=>h4 j j1 j2 (tD j1 (by omega) j3)⟩⟩
theorem C9 {w:List Nat} {s t:Nat} (hn:w≠[]) (h:bR w s) (g:bR w t):s=t:=jm h (rB hn g)
structure Lb (y:List Nat) (ws:List (List Nat)):Prop where
 sw: ∀w∈ws,SW y w/\w.length<=12
 lU:ws.length<=4
 all:(places ws).length<=24
theorem getD_in {ws:List (List Nat)} {c:Nat} (h:c<ws.length):ws.getD c []∈ws:=by
 rw[UC,Jd h];exact Xp h
def iW (_:PySem.W.Frag):Sp:=fun vs H Q _=> ∃(w:List Nat) (i:Nat),vs=[.str (S w), .int i]/\(∀c∈w,Lt c)/\w.length<=1000/\i<w.length/\ ∀q H',H q=none->H' q=some (.tup [.str (S [aC (rd w ((i:Int) - 1))]), .str (S [rd w i])])->aq H H'->Q (.ref q) H'
theorem nh {K:PySem.W.Frag} {vs:List V} {H:Hp} {Q:VK} {E:XK} (h:iW K vs H Q E):vs.length=2:=by obtain ⟨_,_,rfl,_⟩:=h;rfl
def rC (_:PySem.W.Frag):Sp:=fun vs H Q _=> ∃(b:Addr) (y:List Nat) (top:Nat),vs=[.ref b, .str (S y), .int top]/\cf H b/\Yd y/\2<=y.length/\y.length<=8/\1<=top/\top<=100/\ ∀(w:List Nat) H',SW y w->w.length<=top->cf H' b->aW b H H'->Q (.str (S w)) H'
theorem xR {K:PySem.W.Frag} {vs:List V} {H:Hp} {Q:VK} {E:XK} (h:rC K vs H Q E):vs.length=3:=by obtain ⟨_,_,_,rfl,_⟩:=h;rfl
def vM (_:PySem.W.Frag):Sp:=fun vs H Q _=> ∃(b:Addr) (y w:List Nat) (top:Nat),vs=[.ref b, .str (S y), .str (S w), .int top]/\cf H b/\Yd y/\2<=y.length/\y.length<=8/\1<=top/\top<=100/\SW y w/\w.length<=top/\ ∀(u:List Nat) H',SW y u->u.length<=top->cf H' b->aW b H H'->Q (.str (S u)) H'
theorem Bd {K:PySem.W.Frag} {vs:List V} {H:Hp} {Q:VK} {E:XK} (h:vM K vs H Q E):vs.length=4:=by obtain ⟨_,_,_,_,rfl,_⟩:=h;rfl
theorem tJ {ws:List (List Nat)} {m:Nat} (h: ∀w∈ws,w.length<=m): ∀n:Nat,n<=ws.length->(vL ws n).length<=n*m
 | 0,_=>Xb _
 | n+1,hn=>by
  unfold vL
  have:=tJ h n (by omega)
  have h2:=h _ (getD_in (ws:=ws) (c:=n) (by omega))
  rw[SD,K4,Zn,Zh]
  omega
theorem C_ {α:Type} (w:List α):cut w none (some (-1))=w.take (w.length - 1):=by
 unfold cut
 rw[HT.ky,JA]
 simp
structure Wd (y w:List Nat):Prop where
 E7:Ba w
 bo: ∀c∈w,c∈y
theorem Wd.more {y w:List Nat} {c:Nat} (h:Wd y w) (hc:c∈y) (hn:w≠[]->c≠aC (rd w (-1))):Wd y (w++[c]):=
 ⟨h.E7.snoc fun a ha=>by
  have cP:w≠[]:=fun z=>by rw[z]at ha;simp at ha
  rw[tH cP]at ha
  rw[<-Xa ha]
  exact hn cP,fun a ha=>by
  rcases WJ.mp ha with g | g
  ·exact h.bo a g
  ·rw[O8.mp g];exact hc⟩
theorem Wd.sw {y w:List Nat} (h:Wd y w) (cP:w≠[]) (he:rd w 0≠aC (rd w (-1))):SW y w:=
 SW.of cP h.bo h.E7 fun a b ha hb=>by
  rw[nR cP]at ha
  rw[tH cP]at hb
  rw[<-Xa ha, <-Xa hb]
  exact he
theorem Wd.one {y w:List Nat} (hy:Yd y) (h:Wd y w) (h1:w.length=1):SW y w:=by
 have cP:w≠[]:=fun z=>by rw[z]at h1;simp at h1
 refine h.sw cP ?_
 have e:rd w 0=rd w (-1):=by
  have:=gh w (-1)
  rw[h1]at this
  exact this
 rw[<-e]
 exact fun q=>iO (hy.lt _ (h.bo _ (g5 cP 0))) q.symm
theorem zw {y w u:List Nat} (hw:SW y w) (hu:SW y u) (lw:w.length<=12) (lu:u.length<=12):Lb y [w,u]:=by
 refine ⟨fun x hx=>?_,by show 2<=4;decide,?_⟩
 ·rcases WG.mp hx with g | g
  ·rw[g];exact ⟨hw,lw⟩
  ·rw[O8.mp g];exact ⟨hu,lu⟩
 ·have:=tJ (ws:=[w,u]) (m:=12) (fun x hx=>by
   rcases WG.mp hx with g | g
   ·rw[g];exact lw
   ·rw[O8.mp g];exact lu) 2 (SA _)
  exact this
noncomputable def ni (y:List Nat) (a b:Nat):Int:=((y.idxOf b:Int) - (y.idxOf a:Int))%(y.length:Int)
noncomputable def dP (y:List Nat) (f:Int->Nat) (k:Int):Int:=ni y (aC (f (k - 1))) (f k)
structure gi (y:List Nat) (f:Int->Nat):Prop where
 bo: ∀k,f k∈y
 red: ∀k,f k≠aC (f (k - 1))
structure Run (f g:Int->Nat) (a b:Nat):Prop where
 lF: ∀k:Int, -(b:Int)<=k->k<=a->f k=g k
 hi:f (a+1)≠g (a+1)
 lo:f (-(b:Int) - 1)≠g (-(b:Int) - 1)
noncomputable def jG (f:Int->Nat):Int->Nat:=fun k=>aC (f (-k))
noncomputable def dy (f:Int->Nat):Int->Nat:=fun k=>f (k - 1)
noncomputable def fR (y:List Nat) (f g:Int->Nat) (a:Nat):Bool:=decide (dP y f (a+1)<dP y g (a+1))
noncomputable def fT (y:List Nat) (f g:Int->Nat) (b:Nat):Bool:=decide (dP y f (-(b:Int))<dP y g (-(b:Int)))
noncomputable def uK (x a b:Nat):Bool:=decide (b<a\/(a=b/\aA x=false))
noncomputable def xS (y:List Nat) (f g:Int->Nat) (a b:Nat):Bool:=if uK (f 0) a b=true then fT y f g b else fR y f g a
theorem Run.one {f g:Int->Nat} {a b a' b':Nat} (h:Run f g a b) (h':Run f g a' b'):a=a'/\b=b':=by
 constructor
 ·by_cases z:a<a'
  ·exact absurd (h'.lF (a+1) (by omega) (by omega)) h.hi
  ·by_cases z2:a'<a
   ·exact absurd (h.lF (a'+1) (by omega) (by omega)) h'.hi
   ·omega
 ·by_cases z:b<b'
  ·exact absurd (h'.lF (-(b:Int) - 1) (by omega) (by omega)) h.lo
  ·by_cases z2:b'<b
   ·exact absurd (h.lF (-(b':Int) - 1) (by omega) (by omega)) h'.lo
   ·omega
theorem Run.bk {f g:Int->Nat} {a b:Nat} (h:Run f g a (b+1)):Run (dy f) (dy g) (a+1) b:=
 ⟨fun k h1 h2=>h.lF (k - 1) (by omega) (by omega),fun z=>h.hi (by
  unfold dy at z
  rwa [show ((a+1:Nat):Int)+1 - 1=a+1 by omega]at z),fun z=>h.lo (by
  unfold dy at z
  rwa [show -(b:Int) - 1 - 1= -((b+1:Nat):Int) - 1 by omega]at z)⟩
theorem Run.fd {f g:Int->Nat} {a b:Nat} (h:Run (dy f) (dy g) (a+1) b):Run f g a (b+1):=
 ⟨fun k h1 h2=>by
  have:=h.lF (k+1) (by omega) (by omega)
  unfold dy at this
  rwa [show k+1 - 1=k by omega]at this,fun z=>h.hi (by
  unfold dy
  rwa [show ((a+1:Nat):Int)+1 - 1=a+1 by omega]),fun z=>h.lo (by
  unfold dy
  rwa [show -(b:Int) - 1 - 1= -((b+1:Nat):Int) - 1 by omega])⟩
theorem nS (y:List Nat) (f:Int->Nat) (k:Int):dP y (dy f) k=dP y f (k - 1):=rfl
theorem kU (y:List Nat) (f g:Int->Nat) (a:Nat):fR y (dy f) (dy g) (a+1)=fR y f g a:=by
 unfold fR
 rw[nS,nS,show ((a+1:Nat):Int)+1 - 1=a+1 by omega]
theorem kW (y:List Nat) (f g:Int->Nat) (b:Nat):fT y (dy f) (dy g) b=fT y f g (b+1):=by
 unfold fT
 rw[nS,nS,show -(b:Int) - 1= -((b+1:Nat):Int) by omega]
theorem Dc {x z a b:Nat} (h:uK x a (b+1)=true):uK z (a+1) b=true:=by
 unfold uK at h ⊢
 have:=of_decide_eq_true h
 exact decide_eq_true (by omega)
theorem cK {y:List Nat} {a b:Nat} (ha:a∈y) (hb:b∈y) (h:a≠b):0<ni y a b/\ni y a b<y.length/\ni y b a=y.length - ni y a b:=by
 have ia:=Uy ha
 have ib:=Uy hb
 have n:=b6 ha hb h
 unfold ni
 rw[iR ia ib,iR ib ia]
 generalize y.idxOf a=i at*
 generalize y.idxOf b=j at*
 split<;>split<;>omega
theorem jq {y:List Nat} {a b c:Nat} (ha:a∈y) (hb:b∈y) (hc:c∈y) (h:ni y a b=ni y a c):b=c:=by
 have ia:=Uy ha
 have ib:=Uy hb
 have ic:=Uy hc
 refine Classical.byContradiction fun z=>b6 hb hc z ?_
 unfold ni at h
 rw[iR ia ib,iR ia ic]at h
 split at h<;>split at h<;>omega
theorem Dd (y:List Nat) (a b c:Nat):decide (ni y a b<ni y a c)=gr y a b c:=rfl
theorem gi.rv {y:List Nat} {f:Int->Nat} (hy:Yd y) (h:gi y f):gi y (jG f):=⟨fun k=>hy.cl _ (h.bo _),fun k z=>by
 unfold jG at z
 have e:=aH (hy.lt _ (h.bo (-(k - 1))))
 rw[e]at z
 have:=h.red (-(k - 1))
 rw[show -(k - 1) - 1= -k by omega]at this
 exact this z.symm⟩
theorem mX {y:List Nat} {f:Int->Nat} (hy:Yd y) (h:gi y f):jG (jG f)=f:=by
 funext k
 unfold jG
 rw[aH (hy.lt _ (h.bo _)),Int.neg_neg]
theorem iX {y:List Nat} {f:Int->Nat} (hy:Yd y) (h:gi y f) (k:Int):dP y (jG f) (k+1)=y.length - dP y f (-k):=by
 unfold dP jG
 rw[show k+1 - 1=k by omega,aH (hy.lt _ (h.bo _)),show -(k+1)= -k - 1 by omega]
 exact (cK (hy.cl _ (h.bo _)) (h.bo _) (Ne.symm (h.red _))).2.2
theorem Run.rv {y:List Nat} {f g:Int->Nat} {a b:Nat} (hy:Yd y) (hf:gi y f) (hg:gi y g) (h:Run f g a b):Run (jG f) (jG g) b a:=
 ⟨fun k h1 h2=>by unfold jG;rw[h.lF _ (by omega) (by omega)],fun z=>h.lo (by
  unfold jG at z
  have:=d_ (hy.lt _ (hf.bo _)) (hy.lt _ (hg.bo _)) z
  rwa [show -((b:Int)+1)= -(b:Int) - 1 by omega]at this),fun z=>h.hi (by
  unfold jG at z
  have:=d_ (hy.lt _ (hf.bo _)) (hy.lt _ (hg.bo _)) z
  rwa [show -(-(a:Int) - 1)=a+1 by omega]at this)⟩
theorem fz: ∀c∈aP++j8,aA (aC c)=!aA c:=by decide+kernel
theorem JG {y:List Nat} {f g:Int->Nat} {a b:Nat} (hy:Yd y) (hf:gi y f) (hg:gi y g) (h0:f 0=g 0):xS y (jG g) (jG f) b a=xS y f g a b:=by
 have e1:fT y (jG g) (jG f) a=fR y f g a:=by
  unfold fT fR
  have h1:=iX hy hf (-(a:Int) - 1)
  have h2:=iX hy hg (-(a:Int) - 1)
  rw[show -(a:Int) - 1+1= -a by omega,show -(-(a:Int) - 1)=a+1 by omega]at h1 h2
  rw[h1,h2]
  exact decide_eq_decide.mpr (by omega)
 have e2:fR y (jG g) (jG f) b=fT y f g b:=by
  unfold fT fR
  rw[iX hy hf,iX hy hg]
  exact decide_eq_decide.mpr (by omega)
 unfold xS
 rw[e1,e2]
 have e3:uK (jG g 0) b a=!uK (f 0) a b:=by
  unfold uK jG
  rw[show (-0:Int)=0 from rfl, <-h0,fz _ (hy.lt _ (hf.bo 0)).mem]
  rw[<-decide_not]
  refine decide_eq_decide.mpr ?_
  cases aA (f 0)
  ·simp;omega
  ·simp;omega
 rw[e3]
 cases uK (f 0) a b<;>rfl
def uB (y:List Nat) (f g:Int->Nat):Prop:= ∃a b,Run f g a b/\uK (f 0) a b=true/\fR y f g a≠fT y f g b
def jN (y:List Nat) (f g:Int->Nat):Prop:= ∃a,Run f g a 0/\fR y f g a≠fT y f g 0
open Classical in
noncomputable def one (p:Prop):Int:=if p then 1 else 0
theorem fq {p:Prop} (h:p):one p=1:=by unfold one;rw[if_pos h]
theorem aZ {p:Prop} (h: ¬p):one p=0:=by unfold one;rw[if_neg h]
theorem bp {p q:Prop} (h:p↔q):one p=one q:=by rw[propext h]
theorem Run.zero {f g:Int->Nat} {a b:Nat} (h:Run f g a b):f 0=g 0:=h.lF 0 (by omega) (by omega)
theorem De {y:List Nat} {f g:Int->Nat} {e0 e1:Bool} {m:Prop}
  (r0:f 0=g 0-> ∃a b,Run f g a b) (r1:f (-1)=g (-1)-> ∃a b,Run (dy f) (dy g) a b)
  (h0: ∀a b,Run f g a b->e0=xS y f g a b) (h1: ∀a b,Run (dy f) (dy g) a b->e1=xS y (dy f) (dy g) a b)
  (ma:f 0=g 0->f (-1)≠g (-1)->(m↔e0≠fT y f g 0)) (mb:f (-1)=g (-1)->f 0≠g 0->(m↔e1≠fR y (dy f) (dy g) 0)) (mc:f (-1)=g (-1)->f 0=g 0->(m↔e1≠e0))
  (t:f 0=g 0\/f (-1)=g (-1)):one m=one (jN y f g)+one (uB y (dy f) (dy g)) - one (uB y f g):=by
 have hb: ∀{a b},Run (dy f) (dy g) a b->f (-1)=g (-1):=fun h=>h.zero
 by_cases z0:f 0=g 0
 ·obtain ⟨a,b,r⟩:=r0 z0
  have e:=h0 a b r
  unfold xS at e
  have hu:uB y f g↔(uK (f 0) a b=true/\fR y f g a≠fT y f g b):=⟨fun ⟨a',b',r',x⟩=>by obtain ⟨rfl,rfl⟩:=r.one r';exact x,fun x=>⟨a,b,r,x⟩⟩
  by_cases z1:f (-1)=g (-1)
  ·cases b with
   | zero=>exact absurd z1 r.lo
   | succ b=>
    have r2:=r.bk
    have e2:=h1 _ _ r2
    unfold xS at e2
    have JH:uB y (dy f) (dy g)↔(uK (dy f 0) (a+1) b=true/\fR y f g a≠fT y f g (b+1)):=⟨fun ⟨a',b',r',x⟩=>by
     obtain ⟨rfl,rfl⟩:=r2.one r'
     rw[kU,kW]at x;exact x,fun x=>⟨_,_,r2,by rw[kU,kW];exact x⟩⟩
    rw[kU,kW]at e2
    have Ob: ¬jN y f g:=fun ⟨a',r',_⟩=>absurd (r.one r').2 (Y8 b)
    rw[aZ Ob,bp hu,bp JH,bp (mc z1 z0),e,e2]
    have mono:= @Dc (f 0) (dy f 0) a b
    generalize uK (f 0) a (b+1)=B0 at*
    generalize uK (dy f 0) (a+1) b=B1 at*
    generalize fR y f g a=A at*
    generalize fT y f g (b+1)=C at*
    revert mono
    cases B0<;>cases B1<;>cases A<;>cases C<;>simp[one]
  ·have b0:b=0:=by
    cases b with
    | zero=>rfl
    | succ b=>exact absurd (r.lF (-1) (by omega) (by omega)) z1
   subst b0
   have JH: ¬uB y (dy f) (dy g):=fun ⟨_,_,r',_⟩=>z1 (hb r')
   have Ob:jN y f g↔fR y f g a≠fT y f g 0:=⟨fun ⟨a',r',x⟩=>by obtain ⟨rfl,_⟩:=r.one r';exact x,fun x=>⟨a,r,x⟩⟩
   rw[aZ JH,bp Ob,bp hu,bp (ma z0 z1),e]
   generalize uK (f 0) a 0=B0 at*
   generalize fR y f g a=A at*
   generalize fT y f g 0=C at*
   cases B0<;>cases A<;>cases C<;>simp[one]
 ·have z1:=t.resolve_left z0
  obtain ⟨a,b,r⟩:=r1 z1
  have a0:a=0:=by
   cases a with
   | zero=>rfl
   | succ a=>exact absurd (r.fd.zero) z0
  subst a0
  have e:=h1 _ _ r
  unfold xS at e
  have U3: ¬uB y f g:=fun ⟨_,_,r',_⟩=>z0 r'.zero
  have Ob: ¬jN y f g:=fun ⟨_,r',_⟩=>z0 r'.zero
  have JH:uB y (dy f) (dy g)↔(uK (dy f 0) 0 b=true/\fR y (dy f) (dy g) 0≠fT y (dy f) (dy g) b):=⟨fun ⟨a',b',r',x⟩=>by
   obtain ⟨rfl,rfl⟩:=r.one r';exact x,fun x=>⟨_,_,r,x⟩⟩
  rw[aZ U3,aZ Ob,bp JH,bp (mb z1 z0),e]
  generalize uK (dy f 0) 0 b=B0 at*
  generalize fR y (dy f) (dy g) 0=A at*
  generalize fT y (dy f) (dy g) b=C at*
  cases B0<;>cases A<;>cases C<;>simp[one]
theorem dE {f g:Int->Nat} {p q:Nat} (hp:0<p) (hq:0<q) (Pf: ∀k,f (k+p)=f k) (Pg: ∀k,g (k+q)=g k) (h0:f 0=g 0) (hn: ∃k,f k≠g k): ∃a b,Run f g a b/\a<p+q/\b<p+q:=by
 obtain ⟨k0,S7⟩:=hn
 have up: ∃a:Nat,a<p+q/\(∀j:Nat,j<a->f (j+1)=g (j+1))/\f (a+1)≠g (a+1):=by
  obtain ⟨_,b,c,d⟩:=iU (fun k=>f (k+1)) (fun k=>g (k+1)) (p+q) 0
  by_cases z:qe (fun k=>f (k+1)) (fun k=>g (k+1)) (p+q) 0<p+q
  ·exact ⟨_,z,fun j hj=>c j (Xb _) hj,d (by omega)⟩
  ·refine absurd ?_ S7
   have:=fw (f:=fun k=>f (k+1)) (g:=fun k=>g (k+1)) hp hq (fun k=>by rw[show k+(p:Int)+1=k+1+p by omega];exact Pf _) (fun k=>by rw[show k+(q:Int)+1=k+1+q by omega];exact Pg _) (fun n hn=>c n (Xb _) (by omega)) (k0 - 1)
   rwa [show k0 - 1+1=k0 by omega]at this
 have U4: ∀k,f (-(k+p))=f (-k):=fun k=>by have:=Pf (-(k+p));rw[<-this];congr 1;omega
 have U5: ∀k,g (-(k+q))=g (-k):=fun k=>by have:=Pg (-(k+q));rw[<-this];congr 1;omega
 have dn: ∃a:Nat,a<p+q/\(∀j:Nat,j<a->f (-(j:Int) - 1)=g (-(j:Int) - 1))/\f (-(a:Int) - 1)≠g (-(a:Int) - 1):=by
  obtain ⟨_,b,c,d⟩:=iU (fun k=>f (-k - 1)) (fun k=>g (-k - 1)) (p+q) 0
  by_cases z:qe (fun k=>f (-k - 1)) (fun k=>g (-k - 1)) (p+q) 0<p+q
  ·exact ⟨_,z,fun j hj=>c j (Xb _) hj,d (by omega)⟩
  ·refine absurd ?_ S7
   have:=fw (f:=fun k=>f (-k - 1)) (g:=fun k=>g (-k - 1)) hp hq (fun k=>by have:=U4 (k+1);rw[show -(k+(p:Int)) - 1= -(k+1+p) by omega,this];congr 1;omega) (fun k=>by have:=U5 (k+1);rw[show -(k+(q:Int)) - 1= -(k+1+q) by omega,this];congr 1;omega) (fun n hn=>c n (Xb _) (by omega)) (-k0 - 1)
   rwa [show -(-k0 - 1) - 1=k0 by omega]at this
 obtain ⟨a,ha,a1,a2⟩:=up
 obtain ⟨b,hb,b1,b2⟩:=dn
 refine ⟨a,b,⟨fun k h1 h2=>?_,a2,b2⟩,ha,hb⟩
 by_cases z:k=0
 ·rw[z];exact h0
 ·by_cases z2:0<k
  ·obtain ⟨j,rfl⟩: ∃j:Nat,k=j+1:=⟨(k - 1).toNat,by omega⟩
   exact a1 j (by omega)
  ·obtain ⟨j,rfl⟩: ∃j:Nat,k= -(j:Int) - 1:=⟨(-k - 1).toNat,by omega⟩
   exact b1 j (by omega)
theorem Df {y:List Nat} {p p' x:Nat} (hy:Yd y) (hp:p∈y) (xT:p'∈y) (hx:x∈y) (h1:p≠p') (h2:p≠x) (h3:p'≠x):decide (ni y p x<ni y p' x)=!gr y p p' x:=by
 have ip:=Uy hp
 have U6:=Uy xT
 have ix:=Uy hx
 have n1:=b6 hp xT h1
 have n2:=b6 hp hx h2
 have n3:=b6 xT hx h3
 rw[fi hy.nd hp xT hx h1 h2 h3]
 unfold ni
 rw[iR ip ix,iR U6 ix, <-decide_not]
 refine decide_eq_decide.mpr ?_
 unfold jn
 split<;>split<;>omega
theorem tK {y:List Nat} {f g:Int->Nat} (hy:Yd y) (hf:gi y f) (hg:gi y g) (h0:f 0=g 0) (h1:f (-1)≠g (-1)):fT y f g 0=!gr y (aC (f (-1))) (aC (g (-1))) (f 0):=by
 have e:fT y f g 0=decide (ni y (aC (f (-1))) (f 0)<ni y (aC (g (-1))) (g 0)):=rfl
 rw[e, <-h0]
 have r1:=hf.red 0
 have r2:=hg.red 0
 rw[show (0:Int) - 1= -1 by omega]at r1 r2
 exact Df hy (hy.cl _ (hf.bo _)) (hy.cl _ (hg.bo _)) (hf.bo 0) (fun z=>h1 (d_ (hy.lt _ (hf.bo _)) (hy.lt _ (hg.bo _)) z)) (Ne.symm r1) (by rw[h0];exact Ne.symm r2)
theorem tL {y:List Nat} {f g:Int->Nat} {a:Nat} (h:f a=g a):fR y f g a=gr y (aC (f a)) (f (a+1)) (g (a+1)):=by
 unfold fR dP
 rw[show (a:Int)+1 - 1=a by omega, <-h]
 rfl
theorem zx {y:List Nat} {f g:Int->Nat} {n:Nat} (hy:Yd y) (hf:gi y f) (hg:gi y g) (hd:f (-1)≠g (-1)->qe f g n 0<n/\f (qe f g n 0)≠g (qe f g n 0)):jN y f g↔0<al y f g n:=by
 unfold al
 by_cases z:f 0≠g 0\/f (-1)=g (-1)
 ·rw[if_pos z]
  refine ⟨fun ⟨a,r,_⟩=>?_,fun h=>absurd h (XN _)⟩
  rcases z with z | z
  ·exact absurd r.zero z
  ·exact absurd z r.lo
 ·rw[if_neg z]
  have z0:f 0=g 0:=Classical.byContradiction fun q=>z (.inl q)
  have z1:f (-1)≠g (-1):=fun q=>z (.inr q)
  obtain ⟨d1,d2⟩:=hd z1
  obtain ⟨_,_,d3,_⟩:=iU f g n 0
  generalize qe f g n 0=D at*
  cases D with
  | zero=>exact absurd z0 d2
  | succ a=>
   have r:Run f g a 0:=⟨fun k h1 h2=>by
    obtain ⟨j,rfl⟩: ∃j:Nat,k=j:=⟨k.toNat,by omega⟩
    exact d3 j (Xb _) (by omega),d2,z1⟩
   have e1:((a+1:Nat):Int)=(a:Int)+1:=by omega
   rw[e1,show (a:Int)+1 - 1=a by omega]
   have Pj:=d3 a (Xb _) (Yr a)
   have rf:=hf.red (a+1)
   have rg:=hg.red (a+1)
   rw[show (a:Int)+1 - 1=a by omega]at rf rg
   have U7:f (a+1)≠g (a+1):=d2
   have eg:=Gs hy.nd (hy.cl _ (hf.bo a)) (hf.bo (a+1)) (hg.bo (a+1)) (Ne.symm rf) (by rw[Pj];exact Ne.symm rg) U7
   rw[eg, <-tL Pj]
   have eb:=tK hy hf hg z0 z1
   have key:jN y f g↔fR y f g a≠fT y f g 0:=⟨fun ⟨a',r',x⟩=>by obtain ⟨rfl,_⟩:=r.one r';exact x,fun x=>⟨a,r,x⟩⟩
   rw[key,eb]
   generalize gr y (aC (f (-1))) (aC (g (-1))) (f 0)=G
   generalize fR y f g a=A
   cases G<;>cases A<;>simp
noncomputable def nj (a b a' b':Nat):Bool:=decide (jn a a' b) != decide (jn a b' b)
theorem iY (a b a' b':Nat):nj a b a' b'=nj a b b' a':=by unfold nj;generalize decide (jn a a' b)=p;generalize decide (jn a b' b)=q;cases p<;>cases q<;>rfl
theorem vN (a b:Nat):nj a b a b=false:=by
 unfold nj
 have h1: ¬jn a a b:=by unfold jn;omega
 have h2: ¬jn a b b:=by unfold jn;omega
 rw[decide_eq_false h1,decide_eq_false h2]
 rfl
theorem jr {a b:Nat} (h:a≠b):decide (b<a)=!decide (a<b):=by
 rcases Yz h with q | q
 ·rw[decide_eq_true q,decide_eq_false (Zi q)];rfl
 ·rw[decide_eq_true q,decide_eq_false (Zi q)];rfl
theorem HR {a b c:Nat} (h1:a≠b) (h2:b≠c) (h3:a≠c):decide (jn a b c)=!(decide (a<b) ^^ (decide (b<c) ^^ decide (c<a))):=by
 have e:decide (jn a b c)=((decide (a<b)&&decide (b<c))||((decide (b<c)&&decide (c<a))||(decide (c<a)&&decide (a<b)))):=by
  rw[<-kb, <-kb, <-kb, <-Bool.decide_or, <-Bool.decide_or]
  exact decide_eq_decide.mpr Iff.rfl
 rw[e]
 have k1:decide (a<b)=true->decide (b<c)=true->decide (c<a)=true->False:=fun p q r=>Zi (YK (of_decide_eq_true p) (of_decide_eq_true q)) (of_decide_eq_true r)
 have k2:decide (b<a)=true->decide (c<b)=true->decide (a<c)=true->False:=fun p q r=>Zi (YK (of_decide_eq_true q) (of_decide_eq_true p)) (of_decide_eq_true r)
 rw[jr h1,jr h2,jr (Ne.symm h3)]at k2
 revert k1 k2
 generalize decide (a<b)=p
 generalize decide (b<c)=q
 generalize decide (c<a)=r
 revert p q r
 decide
theorem Dg {a b a' b':Nat} (h1:a≠b) (h3:a≠a') (h4:a≠b') (h5:b≠a') (h6:b≠b'):nj a b a' b'=((decide (a<a') ^^ decide (a'<b)) ^^ (decide (a<b') ^^ decide (b'<b))):=by
 unfold nj
 rw[HR h3 (Ne.symm h5) h1,HR h4 (Ne.symm h6) h1]
 generalize decide (a<a')=p
 generalize decide (a'<b)=q
 generalize decide (a<b')=r
 generalize decide (b'<b)=s
 generalize decide (b<a)=t
 revert p q r s t
 decide
theorem kX {a b a' b':Nat} (h1:a≠b) (h2:a'≠b') (h3:a≠a') (h4:a≠b') (h5:b≠a') (h6:b≠b'):nj a b a' b'=nj a' b' a b:=by
 rw[Dg h1 h3 h4 h5 h6,Dg h2 (Ne.symm h3) (Ne.symm h5) (Ne.symm h4) (Ne.symm h6),jr h3,jr (Ne.symm h6)]
 generalize decide (a<a')=p
 generalize decide (a'<b)=q
 generalize decide (a<b')=r
 generalize decide (b'<b)=s
 revert p q r s
 decide
theorem vO {a b a' b':Nat} (h1:a≠b) (h2:a'≠b') (h3:a≠a') (h4:a≠b') (h5:b≠a') (h6:b≠b'):nj b a a' b'=nj a b a' b':=by
 rw[kX (Ne.symm h1) h2 h5 h6 h3 h4,iY,kX h2 h1 (Ne.symm h3) (Ne.symm h5) (Ne.symm h4) (Ne.symm h6)]
theorem Gv {a b c i j k:Nat} (n1:i≠j) (n2:i≠k) (n3:j≠k) (h1:i<j->a<b) (h2:j<i->b<a) (h3:i<k->a<c) (h4:k<i->c<a) (h5:j<k->b<c) (h6:k<j->c<b):jn a b c↔jn i j k:=by
 have e: ∀{i j a b:Nat},i≠j->(i<j->a<b)->(j<i->b<a)->(i<j↔a<b):=fun {i j a b} n f g=>⟨f,fun q=>(Yz n).elim id fun r=>absurd (g r) (Zi q)⟩
 unfold jn
 rw[e n1 h1 h2,e n3 h5 h6,e (Ne.symm n2) h4 h3]
def Sep (y:List Nat) (ps:List (Nat×Nat)):Prop:= ∀p∈ps, ∀q∈ps,y.idxOf p.1<y.idxOf q.1->p.2<q.2
theorem Sep.jn {y:List Nat} {ps:List (Nat×Nat)} (h:Sep y ps) {a b c:Nat×Nat} (ha:a∈ps) (hb:b∈ps) (hc:c∈ps) (n1:y.idxOf a.1≠y.idxOf b.1) (n2:y.idxOf a.1≠y.idxOf c.1) (n3:y.idxOf b.1≠y.idxOf c.1):My.jn a.2 b.2 c.2↔My.jn (y.idxOf a.1) (y.idxOf b.1) (y.idxOf c.1):=Gv n1 n2 n3 (h a ha b hb) (h b hb a ha) (h a ha c hc) (h c hc a ha) (h b hb c hc) (h c hc b hb)
theorem Sep.gr {y:List Nat} {ps:List (Nat×Nat)} (h:Sep y ps) (hn:y.Nodup) {a b c:Nat×Nat} (ha:a∈ps) (hb:b∈ps) (hc:c∈ps) (ya:a.1∈y) (yb:b.1∈y) (yc:c.1∈y) (n1:a.1≠b.1) (n2:a.1≠c.1) (n3:b.1≠c.1):decide (My.jn a.2 b.2 c.2)=My.gr y a.1 b.1 c.1:=by
 rw[fi hn ya yb yc n1 n2 n3]
 exact decide_eq_decide.mpr (h.jn ha hb hc (b6 ya yb n1) (b6 ya yc n2) (b6 yb yc n3))
theorem Sep.same {y:List Nat} {ps:List (Nat×Nat)} (h:Sep y ps) {a b c:Nat×Nat} (ha:a∈ps) (hb:b∈ps) (hc:c∈ps) (e:b.1=c.1) (n:y.idxOf a.1≠y.idxOf c.1):My.jn a.2 b.2 c.2↔b.2<c.2:=by
 have h1:=h a ha b hb
 have h2:=h b hb a ha
 have h3:=h a ha c hc
 have h4:=h c hc a ha
 rw[e]at h1 h2
 unfold My.jn
 omega
theorem Sep.HS {y:List Nat} {ps:List (Nat×Nat)} (h:Sep y ps) {a b c:Nat×Nat} (ha:a∈ps) (hb:b∈ps) (hc:c∈ps) (e:a.1=b.1) (n:y.idxOf a.1≠y.idxOf c.1):My.jn a.2 b.2 c.2↔a.2<b.2:=by
 have h1:=h b hb c hc
 have h2:=h c hc b hb
 have h3:=h a ha c hc
 have h4:=h c hc a ha
 rw[<-e]at h1 h2
 unfold My.jn
 omega
section
variable {y:List Nat} {f g:Int->Nat} {a b a' b':Nat}
theorem JI (hy:Yd y) (hf:gi y f) (hg:gi y g) (h:Sep y [(aC (f (-1)),a),(f 0,b),(aC (g (-1)),a'),(g 0,b')]) (hb:b≠b') (z0:f 0=g 0) (z1:f (-1)≠g (-1)):nj a b a' b'=true↔decide (b<b')≠fT y f g 0:=by
 have r1:=hf.red 0
 have r2:=hg.red 0
 rw[show (0:Int) - 1= -1 by omega]at r1 r2
 have ya:=hy.cl _ (hf.bo (-1))
 have Pk:=hy.cl _ (hg.bo (-1))
 have n1:aC (f (-1))≠aC (g (-1)):=fun z=>z1 (d_ (hy.lt _ (hf.bo _)) (hy.lt _ (hg.bo _)) z)
 have e1:=h.gr hy.nd (a:=(aC (f (-1)),a)) (b:=(aC (g (-1)),a')) (c:=(f 0,b)) (by simp) (by simp) (by simp) ya Pk (hf.bo 0) n1 (Ne.symm r1) (by rw[z0];exact Ne.symm r2)
 have e2:=h.same (a:=(aC (f (-1)),a)) (b:=(g 0,b')) (c:=(f 0,b)) (by simp) (by simp) (by simp) z0.symm (b6 ya (hf.bo 0) (Ne.symm r1))
 unfold nj
 rw[tK hy hf hg z0 z1]
 simp only at e1 e2
 rw[e1]
 generalize gr y (aC (f (-1))) (aC (g (-1))) (f 0)=G
 by_cases q:b<b'
 ·rw[decide_eq_true q,decide_eq_false (by rw[e2];omega)]
  cases G<;>simp
 ·rw[decide_eq_false q,decide_eq_true (by rw[e2];omega)]
  cases G<;>simp
theorem JJ (hy:Yd y) (hf:gi y f) (hg:gi y g) (h:Sep y [(aC (f (-1)),a),(f 0,b),(aC (g (-1)),a'),(g 0,b')]) (ha:a≠a') (z1:f (-1)=g (-1)) (z0:f 0≠g 0):nj a b a' b'=true↔decide (a'<a)≠fR y (dy f) (dy g) 0:=by
 have r1:=hf.red 0
 have r2:=hg.red 0
 rw[show (0:Int) - 1= -1 by omega]at r1 r2
 have ya:=hy.cl _ (hf.bo (-1))
 have Pk:=hy.cl _ (hg.bo (-1))
 have e1:=h.HS (a:=(aC (f (-1)),a)) (b:=(aC (g (-1)),a')) (c:=(f 0,b)) (by simp) (by simp) (by simp) (by show aC _=aC _;rw[z1]) (b6 ya (hf.bo 0) (Ne.symm r1))
 have e2:=h.gr hy.nd (a:=(aC (f (-1)),a)) (b:=(g 0,b')) (c:=(f 0,b)) (by simp) (by simp) (by simp) ya (hg.bo 0) (hf.bo 0) (by show aC _≠_;rw[z1];exact Ne.symm r2) (Ne.symm r1) (Ne.symm z0)
 have e3:fR y (dy f) (dy g) 0=gr y (aC (f (-1))) (f 0) (g 0):=tL (f:=dy f) (g:=dy g) (a:=0) z1
 have e4:=JE hy.nd ya (hf.bo 0) (hg.bo 0) (Ne.symm r1) (by rw[z1];exact Ne.symm r2) z0
 unfold nj
 simp only at e1 e2
 rw[e3,e2,e4]
 generalize gr y (aC (f (-1))) (f 0) (g 0)=G
 by_cases q:a'<a
 ·rw[decide_eq_true q,decide_eq_false (by rw[e1];omega)]
  cases G<;>simp
 ·rw[decide_eq_false q,decide_eq_true (by rw[e1];omega)]
  cases G<;>simp
theorem tM (hy:Yd y) (hf:gi y f) (hg:gi y g) (h:Sep y [(aC (f (-1)),a),(f 0,b),(aC (g (-1)),a'),(g 0,b')]) (ha:a≠a') (hb:b≠b') (z1:f (-1)=g (-1)) (z0:f 0=g 0):nj a b a' b'=true↔decide (a'<a)≠decide (b<b'):=by
 have r1:=hf.red 0
 rw[show (0:Int) - 1= -1 by omega]at r1
 have ya:=hy.cl _ (hf.bo (-1))
 have e1:=h.HS (a:=(aC (f (-1)),a)) (b:=(aC (g (-1)),a')) (c:=(f 0,b)) (by simp) (by simp) (by simp) (by show aC _=aC _;rw[z1]) (b6 ya (hf.bo 0) (Ne.symm r1))
 have e2:=h.same (a:=(aC (f (-1)),a)) (b:=(g 0,b')) (c:=(f 0,b)) (by simp) (by simp) (by simp) z0.symm (b6 ya (hf.bo 0) (Ne.symm r1))
 unfold nj
 simp only at e1 e2
 rw[decide_eq_decide.mpr e1,decide_eq_decide.mpr e2]
 by_cases q:a'<a<;>by_cases q2:b<b'
 ·rw[decide_eq_true q,decide_eq_true q2,decide_eq_false (show ¬a<a' by omega),decide_eq_false (show ¬b'<b by omega)];simp
 ·rw[decide_eq_true q,decide_eq_false q2,decide_eq_false (show ¬a<a' by omega),decide_eq_true (show b'<b by omega)];simp
 ·rw[decide_eq_false q,decide_eq_true q2,decide_eq_true (show a<a' by omega),decide_eq_false (show ¬b'<b by omega)];simp
 ·rw[decide_eq_false q,decide_eq_false q2,decide_eq_true (show a<a' by omega),decide_eq_true (show b'<b by omega)];simp
theorem JK (hy:Yd y) (hf:gi y f) (hg:gi y g) (h:Sep y [(aC (f (-1)),a),(f 0,b),(aC (g (-1)),a'),(g 0,b')]) (z0:f 0≠g 0) (z1:f (-1)≠g (-1)) (z2:aC (f (-1))≠g 0) (z3:aC (g (-1))≠f 0):nj a b a' b'=ac y (aC (f (-1))) (f 0) (aC (g (-1))) (g 0):=by
 have r1:=hf.red 0
 have r2:=hg.red 0
 rw[show (0:Int) - 1= -1 by omega]at r1 r2
 have ya:=hy.cl _ (hf.bo (-1))
 have Pk:=hy.cl _ (hg.bo (-1))
 have n1:aC (f (-1))≠aC (g (-1)):=fun z=>z1 (d_ (hy.lt _ (hf.bo _)) (hy.lt _ (hg.bo _)) z)
 have e1:=h.gr hy.nd (a:=(aC (f (-1)),a)) (b:=(aC (g (-1)),a')) (c:=(f 0,b)) (by simp) (by simp) (by simp) ya Pk (hf.bo 0) n1 (Ne.symm r1) z3
 have e2:=h.gr hy.nd (a:=(aC (f (-1)),a)) (b:=(g 0,b')) (c:=(f 0,b)) (by simp) (by simp) (by simp) ya (hg.bo 0) (hf.bo 0) z2 (Ne.symm r1) (Ne.symm z0)
 unfold nj ac
 simp only at e1 e2
 rw[e1,e2,if_neg (fun q=>q.elim (fun q=>n1 q.symm) fun q=>q.elim z3 fun q=>q.elim (fun q=>z2 q.symm) fun q=>z0 q.symm)]
end
noncomputable def sm:Nat->(Int->Int)->Int
 | 0,_=>0
 | n+1,h=>sm n h+h n
theorem aX {h g:Int->Int}: ∀{n:Nat},(∀i:Nat,i<n->h i=g i)->sm n h=sm n g
 | 0,_=>rfl
 | n+1,e=>by
  show sm n h+h n=sm n g+g n
  rw[aX fun i hi=>e i (by omega),e n (by omega)]
theorem oX (h g:Int->Int): ∀n:Nat,sm n (fun i=>h i+g i)=sm n h+sm n g
 | 0=>rfl
 | n+1=>by
  show sm n _+(h n+g n)=(sm n h+h n)+(sm n g+g n)
  rw[oX h g n];omega
theorem xU (h g:Int->Int): ∀n:Nat,sm n (fun i=>h i - g i)=sm n h - sm n g
 | 0=>rfl
 | n+1=>by
  show sm n _+(h n - g n)=(sm n h+h n) - (sm n g+g n)
  rw[xU h g n];omega
theorem eA: ∀n:Nat,sm n (fun _=>0)=0
 | 0=>rfl
 | n+1=>by show sm n _+0=0;rw[eA n];rfl
theorem zy (h:Int->Int): ∀n:Nat,sm n (fun i=>h (i - 1))+h ((n:Int) - 1)=sm n h+h (-1)
 | 0=>rfl
 | n+1=>by
  have:=zy h n
  show sm n _+h ((n:Int) - 1)+h (((n+1:Nat):Int) - 1)=(sm n h+h n)+h (-1)
  rw[show ((n+1:Nat):Int) - 1=n by omega]
  omega
theorem oY {h:Int->Int} {n:Nat} (P: ∀k,h (k+n)=h k):sm n (fun i=>h (i - 1))=sm n h:=by
 have h1:=zy h n
 have h2:=P (-1)
 rw[show (-1:Int)+n=(n:Int) - 1 by omega]at h2
 omega
theorem zA (h:Int->Int): ∀n:Nat,sm n (fun i=>h ((n:Int) - 1 - i))=sm n h
 | 0=>rfl
 | n+1=>by
  have e: ∀(m:Nat) (g:Int->Int),sm (m+1) g=g 0+sm m (fun i=>g (i+1)):=fun m=>by
   induction m with
   | zero=>intro g;show (0:Int)+g 0=g 0+0;omega
   | succ m ih=>intro g;show sm (m+1) g+g ((m+1:Nat):Int)=g 0+(sm m (fun i=>g (i+1))+g ((m:Int)+1));rw[ih];rw[show ((m+1:Nat):Int)=(m:Int)+1 by omega];omega
  rw[e]
  have:=zA h n
  show h (((n+1:Nat):Int) - 1 - 0)+sm n (fun i=>h (((n+1:Nat):Int) - 1 - (i+1)))=sm n h+h n
  rw[show ((n+1:Nat):Int) - 1 - 0=n by omega, <-this,Int.add_comm]
  congr 1
  exact aX fun i _=>by congr 1;omega
theorem zB {h:Int->Int} {n:Nat} (P: ∀k,h (k+n)=h k):sm n (fun i=>h (i+1))=sm n h:=by
 have:=oY (h:=fun i=>h (i+1)) (n:=n) (fun k=>by show h (k+n+1)=h (k+1);rw[<-P (k+1)];congr 1;omega)
 rw[<-this]
 exact aX fun i _=>by show h ((i:Int) - 1+1)=h i;congr 1;omega
theorem xV {h:Int->Int} {n:Nat} (P: ∀k,h (k+n)=h k):sm n (fun i=>h (-i))=sm n h:=by
 rw[<-zA (fun i=>h (-i)) n, <-zB P]
 exact aX fun i _=>by
  show h (-((n:Int) - 1 - i))=h (i+1)
  rw[<-P (-((n:Int) - 1 - i))];congr 1;omega
theorem JL {h:Int->Int} {n:Nat} (P: ∀k,h (k+n)=h k):sm n (fun i=>h (1 - i))=sm n h:=by
 rw[<-zB P, <-xV (h:=fun i=>h (i+1)) (fun k=>by show h (k+n+1)=h (k+1);rw[<-P (k+1)];congr 1;omega)]
 exact aX fun i _=>by show h (1 - (i:Int))=h (-(i:Int)+1);congr 1;omega
noncomputable def cw (n m:Nat) (h:Int->Int->Int):Int:=sm n fun i=>sm m fun j=>h i j
theorem bz {n m:Nat} {h g:Int->Int->Int} (e: ∀i j:Nat,i<n->j<m->h i j=g i j):cw n m h=cw n m g:=aX fun i hi=>aX fun j hj=>e i j hi hj
theorem cS (n m:Nat) (h g:Int->Int->Int):cw n m (fun i j=>h i j+g i j)=cw n m h+cw n m g:=by
 unfold cw
 rw[<-oX]
 exact aX fun i _=>oX _ _ _
theorem Gw (n m:Nat) (h g:Int->Int->Int):cw n m (fun i j=>h i j - g i j)=cw n m h - cw n m g:=by
 unfold cw
 rw[<-xU]
 exact aX fun i _=>xU _ _ _
theorem rD {n m:Nat} {h:Int->Int->Int} (P: ∀i j,h (i+n) j=h i j) (Q: ∀i j,h i (j+m)=h i j):cw n m (fun i j=>h (i - 1) (j - 1))=cw n m h:=by
 unfold cw
 have e: ∀i:Int,sm m (fun j=>h i (j - 1))=sm m (h i):=fun i=>oY (Q i)
 rw[<-oY (h:=fun i=>sm m fun j=>h i j) (n:=n) (fun k=>aX fun j _=>P k j)]
 exact aX fun i _=>e _
structure Lc (y:List Nat) (n:Nat) (F:Int->Int->Nat) (o i:Int->Nat):Prop where
 pos:0<n
 xW: ∀k,gi y (F k)
 bk: ∀k,dy (F k)=F (k - 1)
 Oc: ∀k,F (k+n)=F k
 own: ∀k x,F k (x+n)=F k x
 op: ∀k,o (k+n)=o k
 ip: ∀k,i (k+n)=i k
structure HU (y:List Nat) (F:Int->Int->Nat) (o i:Int->Nat) (G:Int->Int->Nat) (o' i':Int->Nat):Prop where
 sep: ∀s t,Sep y [(aC (F s (-1)),i (s - 1)),(F s 0,o s),(aC (G t (-1)),i' (t - 1)),(G t 0,o' t)]
 on: ∀s t a b,Run (F s) (G t) a b->o s≠o' t/\i s≠i' t/\decide (o s<o' t)=xS y (F s) (G t) a b/\decide (i' t<i s)=xS y (F s) (G t) a b
def Dh (F G:Int->Int->Nat) (s t:Int):Prop:=F s 0=G t 0\/F s (-1)=G t (-1)
def par (F G:Int->Int->Nat) (s t:Int):Prop:= ∀k,F s k=G t k
noncomputable def Gx (o i o' i':Int->Nat) (s t:Int):Bool:=nj (i (s - 1)) (o s) (i' (t - 1)) (o' t)
theorem Di {y:List Nat} {n m:Nat} {F G:Int->Int->Nat} {o i o' i':Int->Nat} (hF:Lc y n F o i) (hG:Lc y m G o' i') {s t:Int}:par F G (s - 1) (t - 1)↔par F G s t:=by
 unfold par
 rw[<-hF.bk, <-hG.bk]
 unfold dy
 exact ⟨fun h k=>by have:=h (k+1);rwa [show k+1 - 1=k by omega]at this,fun h k=>h _⟩
theorem zC {y:List Nat} {n m:Nat} {F G:Int->Int->Nat} {o i o' i':Int->Nat} (hy:Yd y) (hF:Lc y n F o i) (hG:Lc y m G o' i') (h:HU y F o i G o' i'):
  cw n m (fun s t=>one (Dh F G s t/\Gx o i o' i' s t=true/\ ¬par F G s t))=cw n m fun s t=>one (jN y (F s) (G t)):=by
 have pt: ∀s t:Int,one (Dh F G s t/\Gx o i o' i' s t=true/\ ¬par F G s t)=one (jN y (F s) (G t))+one (uB y (F (s - 1)) (G (t - 1))) - one (uB y (F s) (G t)):=fun s t=>by
  by_cases hp:par F G s t
  ·have nr: ∀{a b}, ¬Run (F s) (G t) a b:=fun r=>r.hi (hp _)
   have xT:=(Di hF hG).mpr hp
   have U8: ∀{a b}, ¬Run (F (s - 1)) (G (t - 1)) a b:=fun r=>r.hi (xT _)
   rw[aZ (fun z=>z.2.2 hp),aZ (fun ⟨_,r,_⟩=>nr r),aZ (fun ⟨_,_,r,_⟩=>U8 r),aZ (fun ⟨_,_,r,_⟩=>nr r)]
   rfl
  ·by_cases ht:Dh F G s t
   ·have cP: ∃k,F s k≠G t k:=Classical.byContradiction fun z=>hp fun k=>Classical.byContradiction fun q=>z ⟨k,q⟩
    have JM: ∃k,F (s - 1) k≠G (t - 1) k:=Classical.byContradiction fun z=>hp ((Di hF hG).mp fun k=>Classical.byContradiction fun q=>z ⟨k,q⟩)
    have e1: ∀s,F (s - 1) 0=F s (-1):=fun s=>by rw[<-hF.bk];rfl
    have e2: ∀t,G (t - 1) 0=G t (-1):=fun s=>by rw[<-hG.bk];rfl
    have ei:one (Dh F G s t/\Gx o i o' i' s t=true/\ ¬par F G s t)=one (Gx o i o' i' s t=true):=bp ⟨fun z=>z.2.1,fun z=>⟨ht,z,hp⟩⟩
    rw[ei, <-hF.bk, <-hG.bk]
    refine De (e0:=decide (o s<o' t)) (e1:=decide (i' (t - 1)<i (s - 1))) (fun z=>?_) (fun z=>?_) (fun a b r=>(h.on s t a b r).2.2.1) (fun a b r=>?_) (fun z0 z1=>?_) (fun z1 z0=>?_) (fun z1 z0=>?_) ht
    ·obtain ⟨a,b,r,_⟩:=dE hF.pos hG.pos (hF.own s) (hG.own t) z cP
     exact ⟨a,b,r⟩
    ·obtain ⟨a,b,r,_⟩:=dE hF.pos hG.pos (hF.own (s - 1)) (hG.own (t - 1)) (by rw[e1,e2];exact z) JM
     rw[hF.bk,hG.bk]
     exact ⟨a,b,r⟩
    ·rw[hF.bk,hG.bk]at r ⊢
     exact (h.on _ _ a b r).2.2.2
    ·obtain ⟨a,b,r,_⟩:=dE hF.pos hG.pos (hF.own s) (hG.own t) z0 cP
     exact JI hy (hF.xW s) (hG.xW t) (h.sep s t) (h.on s t a b r).1 z0 z1
    ·obtain ⟨a,b,r,_⟩:=dE hF.pos hG.pos (hF.own (s - 1)) (hG.own (t - 1)) (by rw[e1,e2];exact z1) JM
     exact JJ hy (hF.xW s) (hG.xW t) (h.sep s t) (h.on _ _ a b r).2.1 z1 z0
    ·obtain ⟨a,b,r,_⟩:=dE hF.pos hG.pos (hF.own s) (hG.own t) z0 cP
     obtain ⟨a2,b2,r2,_⟩:=dE hF.pos hG.pos (hF.own (s - 1)) (hG.own (t - 1)) (by rw[e1,e2];exact z1) JM
     exact tM hy (hF.xW s) (hG.xW t) (h.sep s t) (h.on _ _ a2 b2 r2).2.1 (h.on s t a b r).1 z1 z0
   ·have t0:F s 0≠G t 0:=fun z=>ht (.inl z)
    have t1:F (s - 1) 0≠G (t - 1) 0:=by
     rw[<-hF.bk, <-hG.bk]
     exact fun z=>ht (.inr z)
    rw[aZ (fun z=>ht z.1),aZ (fun ⟨_,r,_⟩=>t0 r.zero),aZ (fun ⟨_,_,r,_⟩=>t1 r.zero),aZ (fun ⟨_,_,r,_⟩=>t0 r.zero)]
    rfl
 have e:cw n m (fun s t=>one (Dh F G s t/\Gx o i o' i' s t=true/\ ¬par F G s t))=cw n m (fun s t=>(one (jN y (F s) (G t))+one (uB y (F (s - 1)) (G (t - 1)))) - one (uB y (F s) (G t))):=bz fun s t _ _=>pt s t
 rw[e,Gw,cS,rD (h:=fun s t=>one (uB y (F s) (G t))) (fun s t=>by rw[hF.Oc]) (fun s t=>by rw[hG.Oc])]
 omega
theorem ba {y w:List Nat} (h:SW y w) (i:Int):gi y (sq w i):=⟨fun k=>h.rd _,fun k=>by
 unfold sq
 have:=h.red (i+k)
 rwa [show i+k - 1=i+(k - 1) by omega]at this⟩
theorem eZ (w:List Nat) (i:Int):jG (sq w i)=bq w i:=by
 funext k
 unfold jG sq bq
 rw[show i+ -k=i - k by omega]
theorem fK {y w:List Nat} (hy:Yd y) (h:SW y w) (i:Int):gi y (bq w i):=by rw[<-eZ];exact (ba h i).rv hy
theorem tN (w:List Nat) (i:Int):sq w (i+w.length)=sq w i:=by
 funext k
 unfold sq
 rw[show i+(w.length:Int)+k=i+k+w.length by omega,gh]
theorem me (w:List Nat) (i:Int):bq w (i+w.length)=bq w i:=by rw[<-eZ, <-eZ,tN]
theorem JN (w:List Nat) (i:Int):bq w (i - w.length)=bq w i:=by rw[<-me w (i - w.length)];congr 1;omega
theorem Dj {y w:List Nat} {po pi:Int->Nat} (h:SW y w) (P: ∀k,po (k+w.length)=po k) (Q: ∀k,pi (k+w.length)=pi k):Lc y w.length (sq w) po pi:=
 ⟨SE.mpr h.ne,ba h,fun k=>by funext x;unfold dy sq;congr 1;omega,tN w,fun k x=>cX w k x,P,Q⟩
theorem zD {n:Nat} {h:Int->Nat} (P: ∀k,h (k+n)=h k) (k:Int):h (-(k+n))=h (-k):=by rw[<-P (-(k+n))];congr 1;omega
theorem JO {y w:List Nat} {po pi:Int->Nat} (hy:Yd y) (h:SW y w) (P: ∀k,po (k+w.length)=po k) (Q: ∀k,pi (k+w.length)=pi k):Lc y w.length (fun k=>bq w (-k)) (fun k=>pi (-k)) (fun k=>po (-k)):=
 ⟨SE.mpr h.ne,fun k=>fK hy h _,fun k=>by funext x;unfold dy bq;congr 2;omega,fun k=>by
  show bq w (-(k+w.length))=bq w (-k)
  rw[<-me w (-(k+w.length))];congr 1;omega,fun k x=>oW w _ x,zD Q,zD P⟩
section
variable {y w v:List Nat} {po pi qo qi:Int->Nat}
noncomputable def iA (po pi qo qi:Int->Nat) (i j:Int):Bool:=nj (pi (i - 1)) (po i) (qi (j - 1)) (qo j)
def cq (w v:List Nat) (i j:Int):Prop:= ∀k,sq w i k=sq v j k
def ka (w v:List Nat) (i j:Int):Prop:= ∀k,sq w i k=bq v (j - 1) k
def Ld (w v:List Nat) (i j:Int):Prop:=rd w i=rd v j\/rd w (i - 1)=rd v (j - 1)
def zE (w v:List Nat) (i j:Int):Prop:=rd w i=aC (rd v (j - 1))\/rd w (i - 1)=aC (rd v j)
theorem Gy (w v:List Nat) (i j:Int):Dh (sq w) (sq v) i j↔Ld w v i j:=by
 unfold Dh Ld sq
 rw[show i+0=i by omega,show j+0=j by omega]
 rfl
theorem Gz (w v:List Nat) (i k:Int):Dh (sq w) (fun k=>bq v (-k)) i k↔zE w v i (1 - k):=by
 unfold Dh zE sq bq
 show rd w (i+0)=aC (rd v (-k - 0))\/rd w (i+ -1)=aC (rd v (-k - -1))↔_
 rw[show i+0=i by omega,show -k - 0=1 - k - 1 by omega,show -k - -1=1 - k by omega]
 rfl
theorem Rp (hy:Yd y) (hw:SW y w) (hv:SW y v) {i j:Int} (h:Ld w v i j) (g:zE w v i j):False:=by
 have uY:=hw.red i
 have S8:=hv.red j
 have l1:=hy.lt _ (hw.rd (i - 1))
 have l2:=hy.lt _ (hv.rd (j - 1))
 have l3:=hy.lt _ (hv.rd j)
 rcases h with h | h<;>rcases g with g | g
 ·exact S8 (h.symm.trans g)
 ·rw[<-h]at g;exact uY (by rw[g,aH (hy.lt _ (hw.rd i))])
 ·rw[<-h]at g;exact uY g
 ·rw[h]at g;exact S8 (by rw[g,aH l3])
theorem vP (hy:Yd y) (hw:SW y w) (hv:SW y v) (P1: ∀k,po (k+w.length)=po k) (P2: ∀k,pi (k+w.length)=pi k) (Q1: ∀k,qo (k+v.length)=qo k) (Q2: ∀k,qi (k+v.length)=qi k)
  (hS:HU y (sq w) po pi (sq v) qo qi) (hO:HU y (sq w) po pi (fun k=>bq v (-k)) (fun k=>qi (-k)) (fun k=>qo (-k))):
  cw w.length v.length (fun i j=>one (iA po pi qo qi i j=true))=
   cw w.length v.length (fun i j=>one (ac y (aC (rd w (i - 1))) (rd w i) (aC (rd v (j - 1))) (rd v j)=true))+cw w.length v.length (fun i j=>one (0<al y (sq w i) (sq v j) (w.length+v.length)))+cw w.length v.length (fun i j=>one (0<al y (sq w i) (bq v j) (w.length+v.length)))
   +cw w.length v.length (fun i j=>one (cq w v i j/\iA po pi qo qi i j=true))+cw w.length v.length (fun i j=>one (ka w v i j/\iA po pi qo qi i j=true)):=by
 have fw:=Dj hw P1 P2
 have fv:=Dj hv Q1 Q2
 have fo:=JO hy hv Q1 Q2
 have s1:=zC hy fw fv hS
 have s2:=zC hy fw fo hO
 have e1:cw w.length v.length (fun s t=>one (jN y (sq w s) (sq v t)))=cw w.length v.length (fun i j=>one (0<al y (sq w i) (sq v j) (w.length+v.length))):=bz fun i j _ _=>bp (zx hy (ba hw _) (ba hv _) fun z=>jo hw.ne hv.ne (fun k=>cX w i k) (fun k=>cX v j k) z)
 have e2:cw w.length v.length (fun s t=>one (jN y (sq w s) (bq v (-t))))=cw w.length v.length (fun i j=>one (0<al y (sq w i) (bq v j) (w.length+v.length))):=by
  have:cw w.length v.length (fun s t=>one (jN y (sq w s) (bq v (-t))))=cw w.length v.length (fun s t=>one (jN y (sq w s) (bq v t))):=aX fun i _=>xV (h:=fun t=>one (jN y (sq w i) (bq v t))) fun k=>by rw[me]
  rw[this]
  exact bz fun i j _ _=>bp (zx hy (ba hw _) (fK hy hv _) fun z=>jo hw.ne hv.ne (fun k=>cX w i k) (fun k=>oW v j k) z)
 have e3:cw w.length v.length (fun s t=>one (Dh (sq w) (fun k=>bq v (-k)) s t/\Gx po pi (fun k=>qi (-k)) (fun k=>qo (-k)) s t=true/\ ¬par (sq w) (fun k=>bq v (-k)) s t))=cw w.length v.length (fun i j=>one (zE w v i j/\iA po pi qo qi i j=true/\ ¬ka w v i j)):=by
  have P: ∀i:Int, ∀k:Int,(fun j=>one (zE w v i j/\iA po pi qo qi i j=true/\ ¬ka w v i j)) (k+v.length)=(fun j=>one (zE w v i j/\iA po pi qo qi i j=true/\ ¬ka w v i j)) k:=fun i k=>by
   show one (zE w v i (k+v.length)/\iA po pi qo qi i (k+v.length)=true/\ ¬ka w v i (k+v.length))=_
   unfold zE iA ka
   rw[show k+(v.length:Int) - 1=k - 1+v.length by omega,gh,gh,Q1,Q2,me]
  refine aX fun i _=>(aX fun k _=>?_).trans (JL (P i))
  refine bp ?_
  rw[Gz]
  have ec:Gx po pi (fun k=>qi (-k)) (fun k=>qo (-k)) i k=iA po pi qo qi i (1 - k):=by
   unfold Gx iA
   rw[iY]
   show nj (pi ((i:Int) - 1)) (po i) (qi (-(k:Int))) (qo (-((k:Int) - 1)))=_
   rw[show -((k:Int) - 1)=1 - k by omega,show (1:Int) - k - 1= -k by omega]
  have ep:par (sq w) (fun k=>bq v (-k)) i k↔ka w v i (1 - k):=by
   unfold par ka
   rw[show (1:Int) - k - 1= -k by omega]
  rw[ec,ep]
 rw[e1]at s1
 rw[e2,e3]at s2
 rw[<-s1, <-s2, <-cS, <-cS, <-cS, <-cS]
 refine bz fun i j _ _=>?_
 have hc:Gx po pi qo qi i j=iA po pi qo qi i j:=rfl
 have et:=Gy w v i j
 have pS:cq w v i j->Ld w v i j:=fun z=> .inl (by have:=z 0;unfold sq at this;rwa [show (i:Int)+0=i by omega,show (j:Int)+0=j by omega]at this)
 have pO:ka w v i j->zE w v i j:=fun z=> .inl (by have:=z 0;unfold sq bq at this;rwa [show (i:Int)+0=i by omega,show (j:Int) - 1 - 0=j - 1 by omega]at this)
 have U9:Ld w v i j-> ¬ac y (aC (rd w (i - 1))) (rd w i) (aC (rd v (j - 1))) (rd v j)=true:=fun z=>by
  unfold ac
  rw[if_pos (z.elim (fun z=> .inr (.inr (.inr z.symm))) fun z=> .inl (by rw[z]))]
  decide
 have U_:zE w v i j-> ¬ac y (aC (rd w (i - 1))) (rd w i) (aC (rd v (j - 1))) (rd v j)=true:=fun z=>by
  unfold ac
  rw[if_pos (z.elim (fun z=> .inr (.inl z.symm)) fun z=> .inr (.inr (.inl (by rw[z,aH (hy.lt _ (hv.rd _))]))))]
  decide
 have ep:par (sq w) (sq v) i j↔cq w v i j:=Iff.rfl
 by_cases tS:Ld w v i j
 ·have nO: ¬zE w v i j:=fun z=>Rp hy hw hv tS z
  rw[aZ (U9 tS),aZ (p:=zE w v i j/\_) (fun z=>nO z.1),aZ (p:=ka w v i j/\_) (fun z=>nO (pO z.1))]
  by_cases c:iA po pi qo qi i j=true
  ·by_cases q:cq w v i j
   ·rw[fq c,aZ (fun z=>z.2.2 q),fq ⟨q,c⟩];rfl
   ·rw[fq c,fq ⟨et.mpr tS,c,q⟩,aZ (fun z=>q z.1)];rfl
  ·rw[aZ c,aZ (fun z=>c z.2.1),aZ (fun z=>c z.2)];rfl
 ·rw[aZ (p:=Dh _ _ _ _/\_) (fun z=>tS (et.mp z.1)),aZ (p:=cq w v i j/\_) (fun z=>tS (pS z.1))]
  by_cases tO:zE w v i j
  ·rw[aZ (U_ tO)]
   by_cases c:iA po pi qo qi i j=true
   ·by_cases q:ka w v i j
    ·rw[fq c,aZ (fun z=>z.2.2 q),fq ⟨q,c⟩];rfl
    ·rw[fq c,fq ⟨tO,c,q⟩,aZ (fun z=>q z.1)];rfl
   ·rw[aZ c,aZ (fun z=>c z.2.1),aZ (fun z=>c z.2)];rfl
  ·rw[aZ (p:=zE w v i j/\_) (fun z=>tO z.1),aZ (p:=ka w v i j/\_) (fun z=>tO (pO z.1))]
   have l2:=hy.lt _ (hv.rd (j - 1))
   have l3:=hy.lt _ (hv.rd j)
   have l1:=hy.lt _ (hw.rd (i - 1))
   have f0: ∀(u:List Nat) (i:Int),sq u i 0=rd u i:=fun u i=>by unfold sq;rw[show i+0=i by omega]
   have f1: ∀(u:List Nat) (i:Int),sq u i (-1)=rd u (i - 1):=fun u i=>rfl
   have e:=JK hy (ba hw i) (ba hv j) (hS.sep i j) (fun z=>tS (.inl (by rw[f0,f0]at z;exact z))) (fun z=>tS (.inr z)) (fun z=>tO (.inr (by rw[f0,f1]at z;rw[<-z,aH l1]))) (fun z=>tO (.inl (by rw[f0,f1]at z;exact z.symm)))
   rw[f0,f0,f1,f1]at e
   have e':iA po pi qo qi i j=ac y (aC (rd w (i - 1))) (rd w i) (aC (rd v (j - 1))) (rd v j):=e
   rw[e']
   omega
end
section
variable {y w v:List Nat} {po pi qo qi:Int->Nat}
theorem GA (hy:Yd y) (hw:SW y w) (hv:SW y v) (hS:HU y (sq w) po pi (sq v) qo qi) (D:Bool)
  (h: ∀i j,cq w v i j->po i≠qo j/\pi i≠qi j/\decide (po i<qo j)=D/\decide (qi j<pi i)=D):cw w.length v.length (fun i j=>one (cq w v i j/\iA po pi qo qi i j=true))=0:=by
 have: ∀i j:Int, ¬(cq w v i j/\iA po pi qo qi i j=true):=fun i j ⟨p,c⟩=>by
  have p1:cq w v (i - 1) (j - 1):=fun k=>by
   have:=p (k - 1)
   unfold sq at this ⊢
   rw[show i - 1+k=i+(k - 1) by omega,show j - 1+k=j+(k - 1) by omega]
   exact this
  have h0:=h i j p
  have h1:=h _ _ p1
  have:=(tM hy (ba hw i) (ba hv j) (hS.sep i j) h1.2.1 h0.1 (p (-1)) (p 0)).mp c
  exact this (h1.2.2.2.trans h0.2.2.1.symm)
 rw[show (0:Int)=cw w.length v.length (fun _ _=>0) by unfold cw;rw[show (fun _:Int=>sm v.length fun _=>0)=fun _=>0 from funext fun _=>eA _,eA]]
 exact bz fun i j _ _=>aZ (this i j)
theorem GB (hy:Yd y) (hw:SW y w) (hv:SW y v) (hO:HU y (sq w) po pi (fun k=>bq v (-k)) (fun k=>qi (-k)) (fun k=>qo (-k))) (D:Bool)
  (h: ∀i j,(∀k,sq w i k=bq v j k)->po i≠qi j/\pi i≠qo j/\decide (po i<qi j)=D/\decide (qo j<pi i)=D):cw w.length v.length (fun i j=>one (ka w v i j/\iA po pi qo qi i j=true))=0:=by
 have: ∀i j:Int, ¬(ka w v i j/\iA po pi qo qi i j=true):=fun i j ⟨p,c⟩=>by
  have p1: ∀k,sq w (i - 1) k=bq v j k:=fun k=>by
   have:=p (k - 1)
   unfold sq bq at this ⊢
   rw[show i - 1+k=i+(k - 1) by omega,this]
   congr 2;omega
  have h0:=h i (j - 1) p
  have h1:=h _ _ p1
  have s:=hO.sep i (1 - j)
  simp only[show -(1 - j)=j - 1 by omega,show -(1 - j - 1)=j by omega]at s
  unfold iA at c
  rw[iY]at c
  have:=(tM hy (ba hw i) (fK hy hv (j - 1)) s h1.2.1 h0.1 (p (-1)) (p 0)).mp c
  exact this (h1.2.2.2.trans h0.2.2.1.symm)
 rw[show (0:Int)=cw w.length v.length (fun _ _=>0) by unfold cw;rw[show (fun _:Int=>sm v.length fun _=>0)=fun _=>0 from funext fun _=>eA _,eA]]
 exact bz fun i j _ _=>aZ (this i j)
theorem tP (hy:Yd y) (hw:SW y w) (i j:Int): ¬ ∀k,sq w i k=bq w j k:=fun h=>by
 unfold sq bq at h
 rcases (show (j - i)%2=0\/(j - i)%2=1 by omega) with z | z
 ·have:=h ((j - i) / 2)
  rw[show i+(j - i) / 2=j - (j - i) / 2 by omega]at this
  exact iO (hy.lt _ (hw.rd _)) this.symm
 ·have:=h ((j - i) / 2+1)
  rw[show j - ((j - i) / 2+1)=i+((j - i) / 2+1) - 1 by omega]at this
  exact hw.red _ this
theorem vQ (h:Int->Int) (n:Nat): ∀m:Nat,sm (n+m) h=sm n h+sm m (fun i=>h (n+i))
 | 0=>by show sm n h=sm n h+0;omega
 | m+1=>by
  show sm (n+m) h+h ((n+m:Nat):Int)=sm n h+(sm m (fun i=>h (n+i))+h (n+m))
  rw[vQ h n m,show ((n+m:Nat):Int)=(n:Int)+m by omega]
  omega
theorem iZ {h:Int->Int}: ∀{s:Nat},0<s->(∀i:Nat,0<i->i<s->h i=0)->sm s h=h 0
 | 0,h0,_=>absurd h0 (XN _)
 | 1,_,_=>by show (0:Int)+h 0=h 0;omega
 | s+2,_,g=>by
  show sm (s+1) h+h ((s+1:Nat):Int)=h 0
  rw[iZ (s:=s+1) (by omega) (fun i h1 h2=>g i h1 (by omega)),g (s+1) (by omega) (by omega)]
  omega
theorem zF {h:Int->Int} {s:Nat} (hs:0<s) (g: ∀i:Nat,h i=if i%s=0 then 1 else 0): ∀k:Nat,sm (k*s) h=k
 | 0=>by rw[Nat.zero_mul];rfl
 | k+1=>by
  rw[Zh,vQ,zF hs g k,iZ hs]
  ·have:=g (k*s)
   rw[if_pos (Nat.mul_mod_left k s)]at this
   show (k:Int)+h (((k*s:Nat):Int)+0)=((k+1:Nat):Int)
   rw[Y6,this]
   omega
  ·intro i h1 h2
   have:=g (k*s+i)
   rw[if_neg (by rw[Yw,Nat.mul_add_mod,Yj h2];omega)]at this
   rw[<-this]
   congr 1
theorem Dk (hy:Yd y) (hw:SW y w) (hS:HU y (sq w) po pi (sq w) po pi) {s k:Nat} (hs:0<s) (hn:w.length=k*s) (hk:0<k) (hr: ∀j:Nat,j<w.length->(cq w w 0 j↔j%s=0))
  (h: ∀i j:Int,cq w w i j->i%w.length≠j%w.length->po i≠po j/\pi i≠pi j/\decide (po i<po j)=decide (i%w.length<j%w.length)/\decide (pi j<pi i)=decide (i%w.length<j%w.length)):
  cw w.length w.length (fun i j=>one (cq w w i j/\iA po pi po pi i j=true))=2*((k:Int) - 1):=by
 have pt: ∀i j:Nat,i<w.length->j<w.length->one (cq w w i j/\iA po pi po pi i j=true)=(if i=0 then one (j≠0/\cq w w 0 j) else 0)+(if j=0 then one (i≠0/\cq w w 0 i) else 0):=fun i j hi hj=>by
  have sym:cq w w 0 i↔cq w w i 0:=⟨fun q k=>(q k).symm,fun q k=>(q k).symm⟩
  by_cases e:i=j
  ·subst e
   rw[aZ (fun q=>by have:=q.2;unfold iA at this;rw[vN]at this;cases this)]
   by_cases z:i=0
   ·rw[if_pos z,aZ (fun q=>q.1 z)];rfl
   ·rw[if_neg z];rfl
  ·have key:cq w w i j->(iA po pi po pi i j=true↔(i=0\/j=0)):=fun p=>by
    have p1:cq w w ((i:Int) - 1) ((j:Int) - 1):=fun k=>by
     have:=p (k - 1)
     unfold sq at this ⊢
     rw[show (i:Int) - 1+k=i+(k - 1) by omega,show (j:Int) - 1+k=j+(k - 1) by omega]
     exact this
    have m0: ∀i:Nat,i<w.length->(i:Int)%w.length=i:=fun i hi=>Xv (by omega) (by omega)
    have m1: ∀i:Nat,i<w.length->((i:Int) - 1)%w.length=if i=0 then (w.length:Int) - 1 else i - 1:=fun i hi=>by
     split
     ·rename_i z
      rw[<-YB,Xv (by omega) (by omega)];omega
     ·exact Xv (by omega) (by omega)
    have h0:=h i j p (by rw[m0 i hi,m0 j hj];omega)
    have h1:=h _ _ p1 (by rw[m1 i hi,m1 j hj];split<;>split<;>omega)
    have c:=tM hy (ba hw i) (ba hw j) (hS.sep i j) h1.2.1 h0.1 (p (-1)) (p 0)
    rw[h0.2.2.1,h1.2.2.2,m0 i hi,m0 j hj,m1 i hi,m1 j hj]at c
    have c':iA po pi po pi i j=true↔_:=c
    rw[c',Ne,decide_eq_decide]
    split<;>split<;>omega
   by_cases z:i=0
   ·have j0:j≠0:=fun q=>e (z.trans q.symm)
    rw[if_pos z,if_neg j0]
    rw[z]at key ⊢
    have:one (cq w w ((0:Nat):Int) j/\iA po pi po pi ((0:Nat):Int) j=true)=one (j≠0/\cq w w 0 j):=bp ⟨fun q=>⟨j0,q.1⟩,fun q=>⟨q.2,(key q.2).mpr (.inl rfl)⟩⟩
    rw[this];omega
   ·rw[if_neg z]
    by_cases j0:j=0
    ·rw[if_pos j0]
     rw[j0]at key ⊢
     have:one (cq w w i ((0:Nat):Int)/\iA po pi po pi i ((0:Nat):Int)=true)=one (i≠0/\cq w w 0 i):=bp ⟨fun q=>⟨z,sym.mpr q.1⟩,fun q=>⟨sym.mp q.2,(key (sym.mp q.2)).mpr (.inr rfl)⟩⟩
     rw[this];omega
    ·rw[if_neg j0,aZ (fun q=>by rcases (key q.1).mp q.2 with q | q<;>contradiction)];rfl
 have cnt:sm w.length (fun j=>one (j≠0/\cq w w 0 j))=(k:Int) - 1:=by
  have e1:sm w.length (fun j=>one (cq w w 0 j))=k:=by
   have:sm w.length (fun j=>one (cq w w 0 j))=sm w.length (fun j=>if j.toNat%s=0 then 1 else 0):=aX fun j hj=>by
    rw[bp (hr j hj),UA]
    by_cases z:j%s=0
    ·rw[fq z,if_pos z]
    ·rw[aZ z,if_neg z]
   rw[this,hn]
   exact zF hs (fun i=>by rw[UA]) k
  have e2:sm w.length (fun j=>one (cq w w 0 j))=sm w.length (fun j=>one (j≠0/\cq w w 0 j))+sm w.length (fun j=>if j=0 then 1 else 0):=by
   rw[<-oX]
   refine aX fun j hj=>?_
   by_cases z:j=0
   ·subst z
    rw[fq (show cq w w 0 ((0:Nat):Int) from fun k=>rfl),aZ (fun q=>q.1 rfl)];rfl
   ·rw[if_neg (by omega),Y6]
    exact bp ⟨fun q=>⟨by omega,q⟩,fun q=>q.2⟩
  have e3:sm w.length (fun j=>if j=0 then (1:Int) else 0)=1:=by
   rw[iZ (SE.mpr hw.ne) (fun i h1 _=>by rw[if_neg (by omega)]),if_pos rfl]
  omega
 have lp:0<w.length:=SE.mpr hw.ne
 have e:cw w.length w.length (fun i j=>one (cq w w i j/\iA po pi po pi i j=true))=cw w.length w.length (fun i j=>(if i=0 then one (j≠0/\cq w w 0 j) else 0)+(if j=0 then one (i≠0/\cq w w 0 i) else 0)):=bz fun i j hi hj=>by
  rw[pt i j hi hj]
  congr 1
  ·by_cases z:i=0
   ·rw[if_pos z,if_pos (by omega)]
    exact bp ⟨fun q=>⟨by omega,q.2⟩,fun q=>⟨by omega,q.2⟩⟩
   ·rw[if_neg z,if_neg (by omega)]
  ·by_cases z:j=0
   ·rw[if_pos z,if_pos (by omega)]
    exact bp ⟨fun q=>⟨by omega,q.2⟩,fun q=>⟨by omega,q.2⟩⟩
   ·rw[if_neg z,if_neg (by omega)]
 rw[e,cS]
 have a1:cw w.length w.length (fun i j=>if i=0 then one (j≠0/\cq w w 0 j) else 0)=(k:Int) - 1:=by
  unfold cw
  rw[iZ lp]
  ·rw[<-cnt]
   exact aX fun j _=>if_pos rfl
  ·intro i h1 _
   refine Eq.trans (aX (g:=fun _=>0) fun j _=>?_) (eA _)
   have: ¬((i:Int)=0):=by omega
   exact if_neg this
 have a2:cw w.length w.length (fun i j=>if j=0 then one (i≠0/\cq w w 0 i) else 0)=(k:Int) - 1:=by
  unfold cw
  rw[<-cnt]
  refine aX fun i _=>?_
  have: ∀j:Nat,0<j-> ¬((j:Int)=0):=fun j h=>by omega
  rw[iZ lp (fun j h1 _=>if_neg (this j h1))]
  exact if_pos rfl
 omega
end
noncomputable def kk (y:List Nat) (f:Int->Nat):Nat->Nat->List Int
 | _,0=>[]
 | k,n+1=>dP y f (k+1)::dP y f (-(k:Int))::kk y f (k+1) n
theorem e_: ∀(l r t:List Int),bI (l++r) (l++t)=bI r t
 | [],_,_=>rfl
 | a::l,r,t=>by
  show (if a=a then bI (l++r) (l++t) else _)=_
  rw[if_pos rfl,e_ l r t]
theorem mf {y:List Nat} {f g:Int->Nat} {a b:Nat} (hy:Yd y) (hf:gi y f) (hg:gi y g) (h:Run f g a b) (r t:List Int): ∀(n k:Nat),k<=a->k<=b->a<k+n->b<k+n->bI (kk y f k n++r) (kk y g k n++t)=if a<=b then fR y f g a else fT y f g b
 | 0,k,h1,_,h3,_=>by omega
 | n+1,k,h1,h2,h3,h4=>by
  show (if dP y f (k+1)=dP y g (k+1) then (if dP y f (-(k:Int))=dP y g (-(k:Int)) then bI (kk y f (k+1) n++r) (kk y g (k+1) n++t) else decide (dP y f (-(k:Int))<dP y g (-(k:Int)))) else decide (dP y f (k+1)<dP y g (k+1)))=_
  have e0:=h.lF k (by omega) (by omega)
  have e1:=h.lF (-(k:Int)) (by omega) (by omega)
  by_cases z:k=a
  ·subst z
   rw[if_neg (fun q=>h.hi (by
    unfold dP at q
    rw[show (k:Int)+1 - 1=k by omega, <-e0]at q
    exact jq (hy.cl _ (hf.bo _)) (hf.bo _) (hg.bo _) q)),if_pos h2]
   rfl
  ·have e2:=h.lF (k+1) (by omega) (by omega)
   rw[if_pos (by unfold dP;rw[show (k:Int)+1 - 1=k by omega,e0,e2])]
   by_cases z2:k=b
   ·subst z2
    rw[if_neg (fun q=>h.lo (by
     unfold dP at q
     rw[<-e1]at q
     have r1:=hf.red (-(k:Int))
     have r2:=hg.red (-(k:Int))
     have c1:=(cK (hy.cl _ (hf.bo (-(k:Int) - 1))) (hf.bo (-(k:Int))) (Ne.symm r1)).2.2
     have c2:=(cK (hy.cl _ (hg.bo (-(k:Int) - 1))) (hf.bo (-(k:Int))) (by rw[e1];exact Ne.symm r2)).2.2
     have:=jq (hf.bo (-(k:Int))) (hy.cl _ (hf.bo (-(k:Int) - 1))) (hy.cl _ (hg.bo (-(k:Int) - 1))) (by rw[c1,c2,q])
     exact d_ (hy.lt _ (hf.bo _)) (hy.lt _ (hg.bo _)) this)),if_neg (by omega)]
    rfl
   ·have e3:=h.lF (-(k:Int) - 1) (by omega) (by omega)
    rw[if_pos (by unfold dP;rw[e1,e3])]
    exact mf hy hf hg h r t n (k+1) (by omega) (by omega) (by omega) (by omega)
noncomputable def lG (w:List Nat) (i:Int):Int->Nat:=if aA (rd w i)=true then sq w i else bq w i
noncomputable def E8 (n r:Nat) (l low:Bool) (c i:Nat):List Int:=if low=l then [(c:Int),(((if low=true then i else n - 1 - i) / r:Nat):Int)] else [-(c:Int), -(((if low=true then n - 1 - i else i) / r:Nat):Int)]
noncomputable def cB (y:List Nat) (ws:List (List Nat)) (L:Nat->Bool) (r:Nat->Nat) (M c i:Nat):List Int:=kk y (lG (ws.getD c []) i) 0 M++E8 (ws.getD c []).length (r c) (L c) (aA (rd (ws.getD c []) i)) c i
def Dl (w:List Nat) (i:Int) (f:Int->Nat):Prop:=f=sq w i\/f=bq w i
theorem tQ {y w:List Nat} {i:Int} {f:Int->Nat} (hy:Yd y) (hw:SW y w) (h:Dl w i f):lG w i=if aA (f 0)=true then f else jG f:=by
 have s0:sq w i 0=rd w i:=by unfold sq;rw[show i+0=i by omega]
 have b0:bq w i 0=aC (rd w i):=by unfold bq;rw[show i - 0=i by omega]
 have lc:=fz _ (hy.lt _ (hw.rd i)).mem
 unfold lG
 rcases h with rfl | rfl
 ·rw[s0,eZ]
 ·rw[b0,lc, <-eZ,mX hy (ba hw i)]
  cases aA (rd w i)<;>rfl
theorem Dl.xW {y w:List Nat} {i:Int} {f:Int->Nat} (hy:Yd y) (hw:SW y w) (h:Dl w i f):gi y f:=by
 rcases h with rfl | rfl
 ·exact ba hw i
 ·exact fK hy hw i
theorem Run.sy {f g:Int->Nat} {a b:Nat} (h:Run f g a b):Run g f a b:=⟨fun k h1 h2=>(h.lF k h1 h2).symm,Ne.symm h.hi,Ne.symm h.lo⟩
section
variable {y:List Nat} {ws:List (List Nat)} {L:Nat->Bool} {r:Nat->Nat} {M:Nat} {N:Nat->Nat->Nat->Nat}
structure Lies (y:List Nat) (ws:List (List Nat)) (L:Nat->Bool) (r:Nat->Nat) (M:Nat) (N:Nat->Nat->Nat->Nat):Prop where
 sep: ∀c i d j e e',c<ws.length->d<ws.length->i<(ws.getD c []).length->j<(ws.getD d []).length->(e=rd (ws.getD c []) i\/e=aC (rd (ws.getD c []) i))->(e'=rd (ws.getD d []) j\/e'=aC (rd (ws.getD d []) j))->y.idxOf e<y.idxOf e'->N c i e<N d j e'
 low: ∀c i d j x,c<ws.length->d<ws.length->i<(ws.getD c []).length->j<(ws.getD d []).length->(c,i)≠(d,j)->aA x=true->(rd (ws.getD c []) i=x\/rd (ws.getD c []) i=aC x)->(rd (ws.getD d []) j=x\/rd (ws.getD d []) j=aC x)->
  N c i x≠N d j x/\N c i (aC x)≠N d j (aC x)/\decide (N c i x<N d j x)=bI (cB y ws L r M c i) (cB y ws L r M d j)/\decide (N d j (aC x)<N c i (aC x))=bI (cB y ws L r M c i) (cB y ws L r M d j)
theorem Lies.at (hy:Yd y) (hN:Lies y ws L r M N) {c i d j:Nat} {f g:Int->Nat} (hc:c<ws.length) (hd:d<ws.length) (hi:i<(ws.getD c []).length) (hj:j<(ws.getD d []).length) (hw:SW y (ws.getD c [])) (hv:SW y (ws.getD d []))
  (hf:Dl (ws.getD c []) i f) (hg:Dl (ws.getD d []) j g) (h0:f 0=g 0) (cP:(c,i)≠(d,j)):
  N c i (f 0)≠N d j (f 0)/\N c i (aC (f 0))≠N d j (aC (f 0))/\decide (N c i (f 0)<N d j (f 0))=(if aA (f 0)=true then bI (cB y ws L r M c i) (cB y ws L r M d j) else bI (cB y ws L r M d j) (cB y ws L r M c i))/\decide (N d j (aC (f 0))<N c i (aC (f 0)))=(if aA (f 0)=true then bI (cB y ws L r M c i) (cB y ws L r M d j) else bI (cB y ws L r M d j) (cB y ws L r M c i)):=by
 have s0: ∀(w:List Nat) (i:Int),sq w i 0=rd w i:=fun w i=>by unfold sq;rw[show i+0=i by omega]
 have b0: ∀(w:List Nat) (i:Int),bq w i 0=aC (rd w i):=fun w i=>by unfold bq;rw[show i - 0=i by omega]
 have ly:Lt (f 0):=hy.lt _ ((hf.xW hy hw).bo 0)
 have K0:=aH ly
 have ef:rd (ws.getD c []) i=f 0\/rd (ws.getD c []) i=aC (f 0):=by
  rcases hf with rfl | rfl
  ·exact .inl (s0 _ _).symm
  ·exact .inr (by rw[b0,aH (hy.lt _ (hw.rd _))])
 have eg:rd (ws.getD d []) j=f 0\/rd (ws.getD d []) j=aC (f 0):=by
  rw[h0]
  rcases hg with rfl | rfl
  ·exact .inl (s0 _ _).symm
  ·exact .inr (by rw[b0,aH (hy.lt _ (hv.rd _))])
 by_cases z:aA (f 0)=true
 ·rw[if_pos z]
  exact hN.low c i d j (f 0) hc hd hi hj cP z ef eg
 ·rw[if_neg z]
  have z':aA (aC (f 0))=true:=by rw[fz _ ly.mem];simpa using z
  have:=hN.low d j c i (aC (f 0)) hd hc hj hi (Ne.symm cP) z' (by rw[K0];exact eg.symm) (by rw[K0];exact ef.symm)
  rw[K0]at this
  exact ⟨Ne.symm this.2.1,Ne.symm this.1,this.2.2.2,this.2.2.1⟩
theorem Lies.run (hy:Yd y) (hN:Lies y ws L r M N) {c i d j:Nat} {f g:Int->Nat} {a b:Nat} (hc:c<ws.length) (hd:d<ws.length) (hi:i<(ws.getD c []).length) (hj:j<(ws.getD d []).length) (hw:SW y (ws.getD c [])) (hv:SW y (ws.getD d []))
  (hf:Dl (ws.getD c []) i f) (hg:Dl (ws.getD d []) j g) (hr:Run f g a b) (ha:a<M) (hb:b<M) (cP:(c,i)≠(d,j)):
  N c i (f 0)≠N d j (g 0)/\N c i (aC (f 0))≠N d j (aC (g 0))/\decide (N c i (f 0)<N d j (g 0))=xS y f g a b/\decide (N d j (aC (g 0))<N c i (aC (f 0)))=xS y f g a b:=by
 have h0:=hr.zero
 have lf:=hf.xW hy hw
 have lg:=hg.xW hy hv
 have e:(if aA (f 0)=true then bI (cB y ws L r M c i) (cB y ws L r M d j) else bI (cB y ws L r M d j) (cB y ws L r M c i))=xS y f g a b:=by
  unfold cB
  rw[tQ hy hw hf,tQ hy hv hg, <-h0]
  by_cases z:aA (f 0)=true
  ·rw[if_pos z,if_pos z,if_pos z,mf hy lf lg hr _ _ M 0 (Xb _) (Xb _) (by omega) (by omega)]
   unfold xS uK
   by_cases q:a<=b
   ·rw[if_pos q,if_neg (by simp[z];omega)]
   ·rw[if_neg q,if_pos (by simp;omega)]
  ·rw[if_neg z,if_neg z,if_neg z,mf hy (lg.rv hy) (lf.rv hy) (hr.rv hy lf lg).sy _ _ M 0 (Xb _) (Xb _) (by omega) (by omega), <-JG hy lf lg h0]
   unfold xS uK
   have z':aA (jG g 0)=true:=by
    show aA (aC (g 0))=true
    rw[<-h0,fz _ (hy.lt _ (lf.bo 0)).mem];simpa using z
   by_cases q:b<=a
   ·rw[if_pos q,if_neg (by simp[z'];omega)]
   ·rw[if_neg q,if_pos (by simp;omega)]
 have:=hN.at hy hc hd hi hj hw hv hf hg h0 cP
 rw[e]at this
 rw[<-h0]
 exact this
end
noncomputable def i0 (n:Nat) (k:Int):Nat:=(k%(n:Int)).toNat
theorem bJ {n:Nat} (h:0<n) (k:Int):i0 n k<n:=by
 unfold i0
 have h1:=X2 k (b:=(n:Int)) (by omega)
 have h2:=XS k (b:=(n:Int)) (by omega)
 omega
theorem eB {n:Nat} (h:0<n) (k:Int):((i0 n k:Nat):Int)=k%n:=by
 unfold i0
 have h1:=X2 k (b:=(n:Int)) (by omega)
 omega
theorem zG {n:Nat} (k:Int):i0 n (k+n)=i0 n k:=by unfold i0;rw[YB]
theorem bT {w:List Nat} (h:w≠[]) (k:Int):rd w (i0 w.length k:Nat)=rd w k:=by rw[eB (SE.mpr h),fj]
theorem cC {w:List Nat} (h:w≠[]) (k:Int):sq w (i0 w.length k:Nat)=sq w k:=by
 funext x
 unfold sq
 rw[eB (SE.mpr h), <-fj w (k%w.length+x),Zp,fj]
theorem tR {w:List Nat} (h:w≠[]) (k:Int):bq w (i0 w.length k:Nat)=bq w k:=by rw[<-eZ, <-eZ,cC h]
noncomputable def pO (ws:List (List Nat)) (N:Nat->Nat->Nat->Nat) (c:Nat) (k:Int):Nat:=N c (i0 (ws.getD c []).length k) (rd (ws.getD c []) k)
noncomputable def pI (ws:List (List Nat)) (N:Nat->Nat->Nat->Nat) (c:Nat) (k:Int):Nat:=N c (i0 (ws.getD c []).length k) (aC (rd (ws.getD c []) k))
theorem JP {x x' p p':Int} (h:x≠x'):bI [x,p] [x',p']=decide (x<x'):=by
 show (if x=x' then _ else decide (x<x'))=_
 rw[if_neg h]
theorem tT {x p p':Int} (h:p≠p'):bI [x,p] [x,p']=decide (p<p'):=by
 show (if x=x then (if p=p' then bI [] [] else decide (p<p')) else _)=_
 rw[if_pos rfl,if_neg h]
section
variable {y:List Nat} {ws:List (List Nat)} {L:Nat->Bool} {r:Nat->Nat} {M:Nat} {N:Nat->Nat->Nat->Nat}
structure eG (y:List Nat) (ws:List (List Nat)) (L:Nat->Bool) (r:Nat->Nat) (M:Nat):Prop where
 yd:Yd y
 sw: ∀c,c<ws.length->SW y (ws.getD c [])
 big: ∀c d,c<ws.length->d<ws.length->(ws.getD c []).length+(ws.getD d []).length<=M
 l1: ∀c d i j,c<ws.length->d<ws.length->cq (ws.getD c []) (ws.getD d []) i j->L c=L d
 l2: ∀c d i j,c<ws.length->d<ws.length->(∀k,sq (ws.getD c []) i k=bq (ws.getD d []) j k)->L d=!L c
 rp: ∀c,c<ws.length->0<r c
 rr: ∀c,c<ws.length-> ∀i j:Int,(cq (ws.getD c []) (ws.getD c []) i j↔(i - j)%(r c:Int)=0)
theorem Lies.two (h:eG y ws L r M) (hN:Lies y ws L r M N) {c d:Nat} (hc:c<ws.length) (hd:d<ws.length):HU y (sq (ws.getD c [])) (pO ws N c) (pI ws N c) (sq (ws.getD d [])) (pO ws N d) (pI ws N d):=by
 have hw:=h.sw c hc
 have hv:=h.sw d hd
 have lw:=SE.mpr hw.ne
 have lv:=SE.mpr hv.ne
 have s0: ∀(w:List Nat) (i:Int),sq w i 0=rd w i:=fun w i=>by unfold sq;rw[show i+0=i by omega]
 refine ⟨fun s t=>?_,fun s t a b rn=>?_⟩
 ·have key: ∀p∈[(aC (sq (ws.getD c []) s (-1)),pI ws N c (s - 1)),(sq (ws.getD c []) s 0,pO ws N c s),(aC (sq (ws.getD d []) t (-1)),pI ws N d (t - 1)),(sq (ws.getD d []) t 0,pO ws N d t)], ∃e i:Nat,e<ws.length/\i<(ws.getD e []).length/\(p.1=rd (ws.getD e []) i\/p.1=aC (rd (ws.getD e []) i))/\p.2=N e i p.1:=by
   intro p hp
   simp only[WG,Xg,or_false]at hp
   rcases hp with rfl | rfl | rfl | rfl
   ·exact ⟨c,_,hc,bJ lw (s - 1), .inr (by rw[bT hw.ne];rfl),rfl⟩
   ·exact ⟨c,_,hc,bJ lw s, .inl (by rw[bT hw.ne,s0]),by rw[s0];rfl⟩
   ·exact ⟨d,_,hd,bJ lv (t - 1), .inr (by rw[bT hv.ne];rfl),rfl⟩
   ·exact ⟨d,_,hd,bJ lv t, .inl (by rw[bT hv.ne,s0]),by rw[s0];rfl⟩
  intro p hp q hq dz
  obtain ⟨e,i,he,hi,h1,h2⟩:=key p hp
  obtain ⟨e',j,BO,hj,h3,h4⟩:=key q hq
  rw[h2,h4]
  exact hN.sep e i e' j _ _ he BO hi hj h1 h3 dz
 ·obtain ⟨a',b',Rq,ha,hb⟩:=dE lw lv (fun k=>cX _ s k) (fun k=>cX _ t k) rn.zero ⟨_,rn.hi⟩
  obtain ⟨rfl,rfl⟩:=rn.one Rq
  have:=h.big c d hc hd
  have key:=hN.run h.yd hc hd (bJ lw s) (bJ lv t) hw hv (.inl (cC hw.ne s).symm) (.inl (cC hv.ne t).symm) rn (by omega) (by omega) (fun z=>rn.hi (by
   obtain ⟨z1,z2⟩:=Prod.mk.inj z
   subst z1
   rw[<-cC hw.ne s, <-cC hw.ne t,z2]))
  rw[s0,s0]at key
  exact key
theorem Lies.S9 (h:eG y ws L r M) (hN:Lies y ws L r M N) {c d:Nat} (hc:c<ws.length) (hd:d<ws.length):HU y (sq (ws.getD c [])) (pO ws N c) (pI ws N c) (fun k=>bq (ws.getD d []) (-k)) (fun k=>pI ws N d (-k)) (fun k=>pO ws N d (-k)):=by
 have hw:=h.sw c hc
 have hv:=h.sw d hd
 have lw:=SE.mpr hw.ne
 have lv:=SE.mpr hv.ne
 have s0: ∀(w:List Nat) (i:Int),sq w i 0=rd w i:=fun w i=>by unfold sq;rw[show i+0=i by omega]
 have b0: ∀(w:List Nat) (i:Int),bq w i 0=aC (rd w i):=fun w i=>by unfold bq;rw[show i - 0=i by omega]
 have bb: ∀t:Int,aC (bq (ws.getD d []) (-t) (-1))=rd (ws.getD d []) (-(t - 1)):=fun t=>by
  unfold bq
  rw[aH (h.yd.lt _ (hv.rd _))]
  congr 1;omega
 refine ⟨fun s t=>?_,fun s t a b rn=>?_⟩
 ·have key: ∀p∈[(aC (sq (ws.getD c []) s (-1)),pI ws N c (s - 1)),(sq (ws.getD c []) s 0,pO ws N c s),(aC (bq (ws.getD d []) (-t) (-1)),pO ws N d (-(t - 1))),(bq (ws.getD d []) (-t) 0,pI ws N d (-t))], ∃e i:Nat,e<ws.length/\i<(ws.getD e []).length/\(p.1=rd (ws.getD e []) i\/p.1=aC (rd (ws.getD e []) i))/\p.2=N e i p.1:=by
   intro p hp
   simp only[WG,Xg,or_false]at hp
   rcases hp with rfl | rfl | rfl | rfl
   ·exact ⟨c,_,hc,bJ lw (s - 1), .inr (by rw[bT hw.ne];rfl),rfl⟩
   ·exact ⟨c,_,hc,bJ lw s, .inl (by rw[bT hw.ne,s0]),by rw[s0];rfl⟩
   ·exact ⟨d,_,hd,bJ lv (-(t - 1)), .inl (by rw[bT hv.ne];exact bb t),by rw[bb t];rfl⟩
   ·exact ⟨d,_,hd,bJ lv (-t), .inr (by rw[bT hv.ne,b0]),by rw[b0];rfl⟩
  intro p hp q hq dz
  obtain ⟨e,i,he,hi,h1,h2⟩:=key p hp
  obtain ⟨e',j,BO,hj,h3,h4⟩:=key q hq
  rw[h2,h4]
  exact hN.sep e i e' j _ _ he BO hi hj h1 h3 dz
 ·obtain ⟨a',b',Rq,ha,hb⟩:=dE lw lv (fun k=>cX _ s k) (fun k=>oW _ (-t) k) rn.zero ⟨_,rn.hi⟩
  obtain ⟨rfl,rfl⟩:=rn.one Rq
  have:=h.big c d hc hd
  have key:=hN.run h.yd hc hd (bJ lw s) (bJ lv (-t)) hw hv (.inl (cC hw.ne s).symm) (.inr (tR hv.ne (-t)).symm) rn (by omega) (by omega) (fun z=>by
   obtain ⟨z1,z2⟩:=Prod.mk.inj z
   subst z1
   have z0:=rn.zero
   rw[s0,b0, <-bT hw.ne s, <-bT hw.ne (-t),z2]at z0
   exact iO (h.yd.lt _ (hw.rd _)) z0.symm)
  rw[s0,b0,aH (h.yd.lt _ (hv.rd _))]at key
  exact key
theorem tU {n n' r r' c d i j:Nat} {l low JQ:Bool} (h:c≠d):bI (E8 n r l low c i) (E8 n' r' (if JQ=low then l else !l) JQ d j)=if low=l then decide (c<d) else decide (d<c):=by
 unfold E8
 cases low<;>cases JQ<;>cases l<;>simp only[ZS,Bool.not_false,if_true,if_false,Bool.true_eq_false,YC]<;>rw[JP (by omega)]<;>exact decide_eq_decide.mpr (by omega)
theorem Lies.Dm (h:eG y ws L r M) (hN:Lies y ws L r M N) {c d:Nat} (hc:c<ws.length) (hd:d<ws.length) (jY:c≠d) {i j:Nat} {f g:Int->Nat} (hi:i<(ws.getD c []).length) (hj:j<(ws.getD d []).length) (hf:Dl (ws.getD c []) i f) (hg:Dl (ws.getD d []) j g) (hp: ∀k,f k=g k)
  (hl:L d=if aA (rd (ws.getD d []) j)=aA (rd (ws.getD c []) i) then L c else !L c) (hs:f=sq (ws.getD c []) i):
  N c i (f 0)≠N d j (g 0)/\N c i (aC (f 0))≠N d j (aC (g 0))/\decide (N c i (f 0)<N d j (g 0))=(if L c=true then decide (c<d) else decide (d<c))/\decide (N d j (aC (g 0))<N c i (aC (f 0)))=(if L c=true then decide (c<d) else decide (d<c)):=by
 have hw:=h.sw c hc
 have hv:=h.sw d hd
 have e:(if aA (f 0)=true then bI (cB y ws L r M c i) (cB y ws L r M d j) else bI (cB y ws L r M d j) (cB y ws L r M c i))=if L c=true then decide (c<d) else decide (d<c):=by
  have es:lG (ws.getD c []) i=lG (ws.getD d []) j:=by
   rw[tQ h.yd hw hf,tQ h.yd hv hg,show f=g from funext hp]
  have f0:f 0=rd (ws.getD c []) i:=by rw[hs];unfold sq;rw[show (i:Int)+0=i by omega]
  unfold cB
  rw[es,e_,e_,f0]
  have yL:L c=if aA (rd (ws.getD c []) i)=aA (rd (ws.getD d []) j) then L d else !L d:=by
   rw[hl]
   cases aA (rd (ws.getD d []) j)<;>cases aA (rd (ws.getD c []) i)<;>cases L c<;>rfl
  have e1:= @tU (ws.getD c []).length (ws.getD d []).length (r c) (r d) c d i j (L c) (aA (rd (ws.getD c []) i)) (aA (rd (ws.getD d []) j)) jY
  have e2:= @tU (ws.getD d []).length (ws.getD c []).length (r d) (r c) d c j i (L d) (aA (rd (ws.getD d []) j)) (aA (rd (ws.getD c []) i)) (Ne.symm jY)
  rw[<-hl]at e1
  rw[<-yL]at e2
  rw[e1,e2,hl]
  cases aA (rd (ws.getD d []) j)<;>cases aA (rd (ws.getD c []) i)<;>cases L c<;>rfl
 have:=hN.at h.yd hc hd hi hj hw hv hf hg (hp 0) (fun z=>jY (Prod.mk.inj z).1)
 rw[e]at this
 rw[<-hp 0]
 exact this
end
theorem vR {n k r i:Nat} (hr:0<r) (hn:n=k*r) (hi:i<n):(n - 1 - i) / r=k - 1 - i / r:=by
 have h1:=Ze i r
 have h2:=YH i hr
 have h3:i / r<k:=by
  rw[ZK hr];omega
 rw[Nat.div_eq_iff hr]
 obtain ⟨t,rfl⟩: ∃t,k=i / r+1+t:=⟨k - 1 - i / r,by omega⟩
 generalize hq:i / r=q at*
 rw[Nat.add_mul,Nat.add_mul,Nat.one_mul,Yw q r]at hn
 have e:q+1+t - 1 - q=t:=by omega
 rw[e]
 generalize r*q=A at*
 generalize t*r=B at*
 omega
theorem Be {r i j:Nat} (hr:0<r) (h:i%r=j%r) (cP:i≠j):(i / r<j / r↔i<j)/\i / r≠j / r:=by
 have h1:=Ze i r
 have h2:=Ze j r
 have tV:i / r≠j / r:=fun z=>cP (by rw[<-h1, <-h2,z,h])
 refine ⟨⟨fun q=>?_,fun q=>?_⟩,tV⟩
 ·have:r*(i / r+1)<=r*(j / r):=Nat.mul_le_mul_left r q
  rw[Nat.mul_add,Nat.mul_one]at this
  omega
 ·refine Classical.byContradiction fun z=>?_
  have h3:j / r+1<=i / r:=by omega
  have:r*(j / r+1)<=r*(i / r):=Nat.mul_le_mul_left r h3
  rw[Nat.mul_add,Nat.mul_one]at this
  omega
theorem xX {n k r c i j:Nat} {l low:Bool} (hr:0<r) (hn:n=k*r) (hi:i<n) (hj:j<n) (h:i%r=j%r) (cP:i≠j):(if low=true then bI (E8 n r l low c i) (E8 n r l low c j) else bI (E8 n r l low c j) (E8 n r l low c i))=decide (i<j):=by
 obtain ⟨d1,d2⟩:=Be hr h cP
 have e1:=vR hr hn hi
 have e2:=vR hr hn hj
 have b1:i / r<k:=by rw[ZK hr];omega
 have b2:j / r<k:=by rw[ZK hr];omega
 unfold E8
 cases low<;>cases l<;>simp only[if_true,if_false,Bool.true_eq_false,YC]
 ·rw[e1,e2,tT (by omega)];exact decide_eq_decide.mpr (by omega)
 ·rw[tT (by omega)];exact decide_eq_decide.mpr (by omega)
 ·rw[e1,e2,tT (by omega)];exact decide_eq_decide.mpr (by omega)
 ·rw[tT (by omega)];exact decide_eq_decide.mpr (by omega)
noncomputable def fc (y w v:List Nat) (i j:Int):Int:=one (ac y (aC (rd w (i - 1))) (rd w i) (aC (rd v (j - 1))) (rd v j)=true)+one (0<al y (sq w i) (sq v j) (w.length+v.length))+one (0<al y (sq w i) (bq v j) (w.length+v.length))
section
variable {y:List Nat} {ws:List (List Nat)} {L:Nat->Bool} {r:Nat->Nat} {M:Nat} {N:Nat->Nat->Nat->Nat}
theorem tW (ws:List (List Nat)) (N:Nat->Nat->Nat->Nat) (c:Nat) (k:Int):pO ws N c (k+(ws.getD c []).length)=pO ws N c k:=by unfold pO;rw[zG,gh]
theorem tX (ws:List (List Nat)) (N:Nat->Nat->Nat->Nat) (c:Nat) (k:Int):pI ws N c (k+(ws.getD c []).length)=pI ws N c k:=by unfold pI;rw[zG,gh]
theorem eG.root (h:eG y ws L r M) {c:Nat} (hc:c<ws.length):(ws.getD c []).length=(ws.getD c []).length / r c*r c/\0<(ws.getD c []).length / r c:=by
 have hp:=h.rp c hc
 have hl:=SE.mpr (h.sw c hc).ne
 have h1:=(h.rr c hc (ws.getD c []).length 0).mp (fun k=>by
  have:=congrFun (tN (ws.getD c []) 0) k
  rwa [Y5]at this)
 rw[Zj]at h1
 have h2:(ws.getD c []).length%r c=0:=by
  have:((((ws.getD c []).length%r c:Nat)):Int)=0:=by rw[<-h1];rfl
  omega
 have h3:=Ze (ws.getD c []).length (r c)
 rw[h2,Nat.add_zero,Yw]at h3
 refine ⟨h3.symm,Nat.pos_of_ne_zero fun z=>?_⟩
 rw[z,Nat.zero_mul]at h3
 omega
theorem rE (h:eG y ws L r M) (hN:Lies y ws L r M N) {c d:Nat} (hc:c<ws.length) (hd:d<ws.length) (jY:c≠d):
  cw (ws.getD c []).length (ws.getD d []).length (fun i j=>one (iA (pO ws N c) (pI ws N c) (pO ws N d) (pI ws N d) i j=true))=cw (ws.getD c []).length (ws.getD d []).length (fc y (ws.getD c []) (ws.getD d [])):=by
 have hw:=h.sw c hc
 have hv:=h.sw d hd
 have lw:=SE.mpr hw.ne
 have lv:=SE.mpr hv.ne
 have s0: ∀(w:List Nat) (i:Int),sq w i 0=rd w i:=fun w i=>by unfold sq;rw[show i+0=i by omega]
 have b0: ∀(w:List Nat) (i:Int),bq w i 0=aC (rd w i):=fun w i=>by unfold bq;rw[show i - 0=i by omega]
 have hS:=hN.two h hc hd
 have hO:=hN.S9 h hc hd
 rw[vP h.yd hw hv (tW ws N c) (tX ws N c) (tW ws N d) (tX ws N d) hS hO,GA h.yd hw hv hS (if L c=true then decide (c<d) else decide (d<c)),GB h.yd hw hv hO (if L c=true then decide (c<d) else decide (d<c)), <-cS, <-cS]
 ·unfold fc
  omega
 ·intro i j p
  have p0:=p 0
  rw[s0,b0]at p0
  have lo:=fz _ (h.yd.lt _ (hv.rd j)).mem
  have:=hN.Dm h hc hd jY (bJ lw i) (bJ lv j) (f:=sq (ws.getD c []) i) (g:=bq (ws.getD d []) j) (.inl (cC hw.ne i).symm) (.inr (tR hv.ne j).symm) p (by
   rw[bT hw.ne,bT hv.ne,p0,lo,h.l2 c d i j hc hd p]
   cases aA (rd (ws.getD d []) j)<;>rfl) (cC hw.ne i).symm
  rw[s0,b0,aH (h.yd.lt _ (hv.rd _))]at this
  exact this
 ·intro i j p
  have p0:=p 0
  rw[s0,s0]at p0
  have:=hN.Dm h hc hd jY (bJ lw i) (bJ lv j) (f:=sq (ws.getD c []) i) (g:=sq (ws.getD d []) j) (.inl (cC hw.ne i).symm) (.inl (cC hv.ne j).symm) p (by
   rw[bT hw.ne,bT hv.ne,p0,if_pos rfl]
   exact (h.l1 c d i j hc hd p).symm) (cC hw.ne i).symm
  rw[s0,s0]at this
  exact this
theorem xY (h:eG y ws L r M) (hN:Lies y ws L r M N) {c:Nat} (hc:c<ws.length):
  cw (ws.getD c []).length (ws.getD c []).length (fun i j=>one (iA (pO ws N c) (pI ws N c) (pO ws N c) (pI ws N c) i j=true))=cw (ws.getD c []).length (ws.getD c []).length (fc y (ws.getD c []) (ws.getD c []))+2*(((ws.getD c []).length / r c:Nat) - 1):=by
 have hw:=h.sw c hc
 have lw:=SE.mpr hw.ne
 have s0: ∀(w:List Nat) (i:Int),sq w i 0=rd w i:=fun w i=>by unfold sq;rw[show i+0=i by omega]
 have hS:=hN.two h hc hc
 have hO:=hN.S9 h hc hc
 obtain ⟨HL,N3⟩:=h.root hc
 have S_:=h.rp c hc
 have e0:cw (ws.getD c []).length (ws.getD c []).length (fun i j=>one (ka (ws.getD c []) (ws.getD c []) i j/\iA (pO ws N c) (pI ws N c) (pO ws N c) (pI ws N c) i j=true))=0:=by
  rw[show (0:Int)=cw (ws.getD c []).length (ws.getD c []).length (fun _ _=>0) by unfold cw;rw[show (fun _:Int=>sm (ws.getD c []).length fun _=>0)=fun _=>0 from funext fun _=>eA _,eA]]
  exact bz fun i j _ _=>aZ fun z=>tP h.yd hw _ _ z.1
 rw[vP h.yd hw hw (tW ws N c) (tX ws N c) (tW ws N c) (tX ws N c) hS hO,e0,Dk h.yd hw hS S_ HL N3, <-cS, <-cS]
 ·unfold fc
  omega
 ·intro j hj
  rw[h.rr c hc]
  constructor
  ·intro q
   have:(j:Int)%(r c:Int)=0:=by
    rw[Z2]at q
    exact Zy (Int.dvd_neg.mp (YW q))
   have h2:((j%r c:Nat):Int)=0:=by rw[<-this];rfl
   omega
  ·intro q
   have:(j:Int)%(r c:Int)=0:=by
    have h2:((j%r c:Nat):Int)=(j:Int)%(r c:Int):=rfl
    rw[<-h2,q];rfl
   rw[Z2]
   exact Zy (Int.dvd_neg.mpr (YW this))
 ·intro i j p cP
  have p0:=p 0
  rw[s0,s0]at p0
  have tV:i0 (ws.getD c []).length i≠i0 (ws.getD c []).length j:=fun z=>cP (by rw[<-eB lw, <-eB lw,z])
  have:=hN.at h.yd hc hc (bJ lw i) (bJ lw j) hw hw (f:=sq (ws.getD c []) i) (g:=sq (ws.getD c []) j) (.inl (cC hw.ne i).symm) (.inl (cC hw.ne j).symm) (p 0) (fun z=>tV (Prod.mk.inj z).2)
  have GC:i0 (ws.getD c []).length i%r c=i0 (ws.getD c []).length j%r c:=by
   have p':cq (ws.getD c []) (ws.getD c []) (i0 (ws.getD c []).length i:Nat) (i0 (ws.getD c []).length j:Nat):=fun k=>by rw[cC hw.ne,cC hw.ne];exact p k
   have q:=(h.rr c hc _ _).mp p'
   have q2:=YO.mpr q
   have q3:((i0 (ws.getD c []).length i%r c:Nat):Int)=((i0 (ws.getD c []).length j%r c:Nat):Int):=q2
   omega
  have es:lG (ws.getD c []) (i0 (ws.getD c []).length i:Nat)=lG (ws.getD c []) (i0 (ws.getD c []).length j:Nat):=by
   unfold lG
   rw[bT hw.ne,bT hw.ne,p0,cC hw.ne,cC hw.ne,tR hw.ne,tR hw.ne,show sq (ws.getD c []) i=sq (ws.getD c []) j from funext p, <-eZ, <-eZ,show sq (ws.getD c []) i=sq (ws.getD c []) j from funext p]
  have e:= @xX (ws.getD c []).length _ (r c) c _ _ (L c) (aA (rd (ws.getD c []) j)) S_ HL (bJ lw i) (bJ lw j) GC tV
  unfold cB at this
  rw[es,e_,e_,s0,bT hw.ne,bT hw.ne,p0,e,decide_eq_decide.mpr (show i0 (ws.getD c []).length i<i0 (ws.getD c []).length j↔i%((ws.getD c []).length:Int)<j%((ws.getD c []).length:Int) by rw[<-eB lw, <-eB lw];omega)]at this
  unfold pO pI
  rw[p0]
  exact this
end
noncomputable def uL:Nat->(Int->Int->Int)->Int
 | 0,_=>0
 | n+1,h=>uL n h+sm n (fun j=>h j n)
theorem tY (n m:Nat) (h:Int->Int->Int):cw (n+1) m h=cw n m h+sm m (fun j=>h n j):=rfl
theorem tZ (m:Nat) (h:Int->Int->Int): ∀n:Nat,cw n (m+1) h=cw n m h+sm n (fun i=>h i m)
 | 0=>rfl
 | n+1=>by
  rw[tY,tY,tZ m h n]
  show cw n m h+sm n (fun i=>h i m)+(sm m (fun j=>h n j)+h n m)=cw n m h+sm m (fun j=>h n j)+(sm n (fun i=>h i m)+h n m)
  omega
theorem zH {h:Int->Int->Int}: ∀{n:Nat},(∀i j:Nat,i<n->j<n->h i j=h j i)->(∀i:Nat,i<n->h i i=0)->cw n n h=2*uL n h
 | 0,_,_=>rfl
 | n+1,sy,dg=>by
  rw[tZ,tY,zH (n:=n) (fun i j hi hj=>sy i j (by omega) (by omega)) (fun i hi=>dg i (by omega))]
  show 2*uL n h+sm n (fun j=>h n j)+(sm n (fun i=>h i n)+h n n)=2*(uL n h+sm n (fun j=>h j n))
  rw[dg n (by omega),aX (h:=fun j=>h n j) (g:=fun j=>h j n) (fun j hj=>sy n j (by omega) (by omega))]
  omega
theorem mh {h g:Int->Int->Int}: ∀{n:Nat},(∀i j:Nat,i<j->j<n->h i j=g i j)->uL n h=uL n g
 | 0,_=>rfl
 | n+1,e=>by
  show uL n h+_=uL n g+_
  rw[mh (n:=n) fun i j h1 h2=>e i j h1 (by omega),aX (g:=fun j=>g j n) fun j hj=>e j n hj (by omega)]
section
variable {y:List Nat} {ws:List (List Nat)} {L:Nat->Bool} {r:Nat->Nat} {M:Nat} {N:Nat->Nat->Nat->Nat}
theorem Lies.inj (h:eG y ws L r M) (hN:Lies y ws L r M N) {c i d j e e':Nat} (hc:c<ws.length) (hd:d<ws.length) (hi:i<(ws.getD c []).length) (hj:j<(ws.getD d []).length) (he:e=rd (ws.getD c []) i\/e=aC (rd (ws.getD c []) i)) (BO:e'=rd (ws.getD d []) j\/e'=aC (rd (ws.getD d []) j))
  (cP:(c,i,e)≠(d,j,e')):N c i e≠N d j e':=by
 have ly: ∀{c i e:Nat},c<ws.length->(e=rd (ws.getD c []) i\/e=aC (rd (ws.getD c []) i))->e∈y:=fun hc he=>he.elim (fun z=>z▸(h.sw _ hc).rd _) fun z=>z▸h.yd.cl _ ((h.sw _ hc).rd _)
 have ye:=ly hc he
 have Va:=ly hd BO
 by_cases z:e=e'
 ·subst z
  have tV:(c,i)≠(d,j):=fun q=>cP (by rw[(Prod.mk.inj q).1,(Prod.mk.inj q).2])
  have le:=h.yd.lt _ ye
  have lc:=h.yd.lt _ ((h.sw c hc).rd i)
  have ld:=h.yd.lt _ ((h.sw d hd).rd j)
  by_cases l:aA e=true
  ·exact (hN.low c i d j e hc hd hi hj tV l (he.elim (fun z=> .inl z.symm) fun z=> .inr (by rw[z,aH lc])) (BO.elim (fun z=> .inl z.symm) fun z=> .inr (by rw[z,aH ld]))).1
  ·have:=(hN.low c i d j (aC e) hc hd hi hj tV (by rw[fz _ le.mem];simpa using l) (by rw[aH le];exact he.elim (fun z=> .inr z.symm) fun z=> .inl (by rw[z,aH lc])) (by rw[aH le];exact BO.elim (fun z=> .inr z.symm) fun z=> .inl (by rw[z,aH ld]))).2.1
   rwa [aH le]at this
 ·have n:=b6 ye Va z
  rcases Yz n with q | q
  ·exact Xm (hN.sep c i d j e e' hc hd hi hj he BO q)
  ·exact ZD (hN.sep d j c i e' e hd hc hj hi BO he q)
theorem zI {n i j:Nat} {k:Int} (hi:i<n) (hj:j<n) (q:i0 n ((i:Int) - k)=i0 n ((j:Int) - k)):i=j:=by
 have lw:0<n:=Xz (Xb _) hi
 have q2:((i:Int) - k)%n=((j:Int) - k)%n:=by rw[<-eB lw, <-eB lw,q]
 have q3:=(Int.emod_sub_cancel_right k).mp q2
 rw[Xv (ZU _) (Int.ofNat_lt.mpr hi),Xv (ZU _) (Int.ofNat_lt.mpr hj)]at q3
 exact Int.ofNat.inj q3
theorem eE (h:eG y ws L r M) (hN:Lies y ws L r M N) {c d i j:Nat} (hc:c<ws.length) (hd:d<ws.length) (hi:i<(ws.getD c []).length) (hj:j<(ws.getD d []).length):
  pI ws N c ((i:Int) - 1)≠pO ws N d j/\((c,i)≠(d,j)->pI ws N c ((i:Int) - 1)≠pI ws N d ((j:Int) - 1)/\pO ws N c i≠pO ws N d j):=by
 have hw:=h.sw c hc
 have hv:=h.sw d hd
 have lw:=SE.mpr hw.ne
 have lv:=SE.mpr hv.ne
 have vo: ∀{c:Nat} (hw:SW y (ws.getD c [])) (k:Int),rd (ws.getD c []) k=rd (ws.getD c []) (i0 (ws.getD c []).length k:Nat)\/rd (ws.getD c []) k=aC (rd (ws.getD c []) (i0 (ws.getD c []).length k:Nat)):=fun hw k=> .inl (bT hw.ne k).symm
 have vi: ∀{c:Nat} (hw:SW y (ws.getD c [])) (k:Int),aC (rd (ws.getD c []) k)=rd (ws.getD c []) (i0 (ws.getD c []).length k:Nat)\/aC (rd (ws.getD c []) k)=aC (rd (ws.getD c []) (i0 (ws.getD c []).length k:Nat)):=fun hw k=> .inr (by rw[bT hw.ne k])
 refine ⟨hN.inj h hc hd (bJ lw _) (bJ lv _) (vi hw _) (vo hv _) fun q=>?_,fun cP=>⟨hN.inj h hc hd (bJ lw _) (bJ lv _) (vi hw _) (vi hv _) fun q=>?_,hN.inj h hc hd (bJ lw _) (bJ lv _) (vo hw _) (vo hv _) fun q=>?_⟩⟩
 ·obtain ⟨q1,q⟩:=Prod.mk.inj q
  obtain ⟨q2,q3⟩:=Prod.mk.inj q
  subst q1
  rw[<-bT hw.ne ((i:Int) - 1), <-bT hw.ne (j:Int),q2]at q3
  exact iO (h.yd.lt _ (hw.rd _)) q3
 ·obtain ⟨q1,q⟩:=Prod.mk.inj q
  subst q1
  exact cP (by rw[zI hi hj (Prod.mk.inj q).1])
 ·obtain ⟨q1,q⟩:=Prod.mk.inj q
  subst q1
  exact cP (by rw[zI (k:=0) hi hj (by rw[Zj,Zj];exact (Prod.mk.inj q).1)])
theorem GD (h:eG y ws L r M) (hN:Lies y ws L r M N) {c d:Nat} (hc:c<ws.length) (hd:d<ws.length) {i j:Nat} (hi:i<(ws.getD c []).length) (hj:j<(ws.getD d []).length):iA (pO ws N c) (pI ws N c) (pO ws N d) (pI ws N d) i j=iA (pO ws N d) (pI ws N d) (pO ws N c) (pI ws N c) j i:=by
 by_cases z:(c,i)=(d,j)
 ·obtain ⟨rfl,rfl⟩:=Prod.mk.inj z
  rfl
 have n:=eE h hN hc hd hi hj
 exact kX (eE h hN hc hc hi hi).1 (eE h hN hd hd hj hj).1 (n.2 z).1 n.1 (Ne.symm (eE h hN hd hc hj hi).1) (n.2 z).2
theorem Dp (h:eG y ws L r M) (hN:Lies y ws L r M N) {c:Nat} (hc:c<ws.length):
  2*uL (ws.getD c []).length (fun i j=>one (iA (pO ws N c) (pI ws N c) (pO ws N c) (pI ws N c) i j=true))=cw (ws.getD c []).length (ws.getD c []).length (fc y (ws.getD c []) (ws.getD c []))+2*(((ws.getD c []).length / r c:Nat) - 1):=by
 rw[<-xY h hN hc]
 exact (zH (fun i j hi hj=>by rw[GD h hN hc hc hi hj]) (fun i hi=>aZ (by unfold iA;rw[vN];decide))).symm
end
theorem Dq {y:List Nat} {f g:Int->Nat} {a:Nat} (hy:Yd y) (hf:gi y f) (hg:gi y g) (h:f a=g a) (hn:f (a+1)≠g (a+1)):fR y g f a=!fR y f g a:=by
 have:dP y f (a+1)≠dP y g (a+1):=fun q=>hn (by
  unfold dP at q
  rw[show (a:Int)+1 - 1=a by omega, <-h]at q
  exact jq (hy.cl _ (hf.bo _)) (hf.bo _) (hg.bo _) q)
 unfold fR
 rw[<-decide_not]
 exact decide_eq_decide.mpr (by omega)
theorem xZ {y:List Nat} {f g:Int->Nat} {b:Nat} (hy:Yd y) (hf:gi y f) (hg:gi y g) (h:f (-(b:Int))=g (-(b:Int))) (hn:f (-(b:Int) - 1)≠g (-(b:Int) - 1)):fT y g f b=!fT y f g b:=by
 have:dP y f (-(b:Int))≠dP y g (-(b:Int)):=fun q=>hn (by
  unfold dP at q
  rw[<-h]at q
  have r1:=hf.red (-(b:Int))
  have r2:=hg.red (-(b:Int))
  have c1:=(cK (hy.cl _ (hf.bo (-(b:Int) - 1))) (hf.bo (-(b:Int))) (Ne.symm r1)).2.2
  have c2:=(cK (hy.cl _ (hg.bo (-(b:Int) - 1))) (hf.bo (-(b:Int))) (by rw[h];exact Ne.symm r2)).2.2
  have:=jq (hf.bo (-(b:Int))) (hy.cl _ (hf.bo (-(b:Int) - 1))) (hy.cl _ (hg.bo (-(b:Int) - 1))) (by rw[c1,c2,q])
  exact d_ (hy.lt _ (hf.bo _)) (hy.lt _ (hg.bo _)) this)
 unfold fT
 rw[<-decide_not]
 exact decide_eq_decide.mpr (by omega)
theorem HV {y:List Nat} {f g:Int->Nat} (hy:Yd y) (hf:gi y f) (hg:gi y g):jN y f g->jN y g f:=fun ⟨a,r,x⟩=>⟨a,r.sy,by
 rw[Dq hy hf hg (r.lF a (by omega) (by omega)) r.hi,xZ hy hf hg (r.lF _ (by omega) (by omega)) r.lo]
 exact fun q=>x (by simpa using q)⟩
theorem JR {y:List Nat} {a b p q:Nat} (hy:Yd y) (ha:a∈y) (hb:b∈y) (hp:p∈y) (hq:q∈y) (tF:a≠b) (N_:p≠q):ac y a b p q=ac y p q a b:=by
 unfold ac
 by_cases z:p=a\/p=b\/q=a\/q=b
 ·rw[if_pos z,if_pos (z.elim (fun z=> .inl z.symm) fun z=>z.elim (fun z=> .inr (.inr (.inl z.symm))) fun z=>z.elim (fun z=> .inr (.inl z.symm)) fun z=> .inr (.inr (.inr z.symm)))]
 ·have n1:a≠p:=fun q=>z (.inl q.symm)
  have n2:b≠p:=fun q=>z (.inr (.inl q.symm))
  have n3:a≠q:=fun q=>z (.inr (.inr (.inl q.symm)))
  have n4:b≠q:=fun q=>z (.inr (.inr (.inr q.symm)))
  rw[if_neg z,if_neg (fun z=>z.elim n1 fun z=>z.elim n3 fun z=>z.elim n2 n4)]
  rw[fi hy.nd ha hp hb n1 tF (Ne.symm n2),fi hy.nd ha hq hb n3 tF (Ne.symm n4),fi hy.nd hp ha hq (Ne.symm n1) N_ n3,fi hy.nd hp hb hq (Ne.symm n2) N_ n4]
  exact kX (b6 ha hb tF) (b6 hp hq N_) (b6 ha hp n1) (b6 ha hq n3) (b6 hb hp n2) (b6 hb hq n4)
theorem Dr {Q:Int->Prop} {P:Nat->Bool}: ∀{m:Nat},(∀j:Nat,j<m->(Q j↔P j=true))->sm m (fun j=>one (Q j))=((List.range m).filter P).length
 | 0,_=>rfl
 | m+1,h=>by
  show sm m _+one (Q m)=_
  rw[Dr (m:=m) fun j hj=>h j (by omega),Yf,YA,SD,bp (h m (by omega))]
  cases e:P m
  ·rw[Xu (by rw[e];decide),aZ (by decide)];simp
  ·rw[XC e,fq rfl];simp
section
variable {y w:List Nat}
end
section
variable {y w:List Nat}
end
section
variable {y:List Nat} {ws:List (List Nat)}
end
theorem zJ (n:Nat) (h:Int->Int->Int): ∀m:Nat,sm n (fun i=>sm m fun j=>h i j)=sm m fun j=>sm n fun i=>h i j
 | 0=>eA n
 | m+1=>by
  show cw n (m+1) h=sm m (fun j=>sm n fun i=>h i j)+sm n (fun i=>h i m)
  rw[tZ, <-zJ n h m]
  rfl
theorem js (h:Nat->Int): ∀n:Nat,((List.range n).map h).sum=sm n (fun i=>h i.toNat)
 | 0=>rfl
 | n+1=>by
  rw[Yf,WI,List.sum_append,js h n]
  show _=sm n _+h (((n:Nat):Int).toNat)
  rw[UA]
  simp
theorem zK (ws:List (List Nat)) (h:Nat×Nat->Int): ∀n:Nat,((vL ws n).map h).sum=sm n fun c=>sm (ws.getD c.toNat []).length fun i=>h (c.toNat,i.toNat)
 | 0=>rfl
 | n+1=>by
  unfold vL
  rw[WI,List.sum_append,zK ws h n,X5]
  show _+((List.range _).map fun i=>h (n,i)).sum=_
  rw[js]
  rfl
noncomputable def cl {α:Type} (p:α->α->Bool):List α->Nat
 | []=>0
 | x::r=>(r.filter (p x)).length+cl p r
theorem t5 {α:Type} (p:α->α->Bool) (m:List α): ∀l:List α,(cl p (l++m):Int)=cl p l+cl p m+(l.map fun x=>((m.filter (p x)).length:Int)).sum
 | []=>by show (cl p m:Int)=((0:Nat):Int)+cl p m+0;omega
 | a::l=>by
  show ((((l++m).filter (p a)).length+cl p (l++m):Nat):Int)=(((l.filter (p a)).length+cl p l:Nat):Int)+cl p m+(((a::l).map fun x=>((m.filter (p x)).length:Int)).sum)
  rw[YA,SD,Xl,Yx,XW,XW,t5 p m l,XW]
  omega
theorem Ds (p:Nat×Nat->Nat×Nat->Bool) (c:Nat): ∀n:Nat,(cl p ((List.range n).map fun i=>(c,i)):Int)=uL n (fun i j=>one (p (c,i.toNat) (c,j.toNat)=true))
 | 0=>rfl
 | n+1=>by
  rw[Yf,WI,t5,Ds p c n,X5]
  show _+((0:Nat):Int)+((List.range n).map fun i=>((([(c,n)]:List (Nat×Nat)).filter (p (c,i))).length:Int)).sum=uL n _+sm n _
  rw[js,Int.add_assoc]
  congr 1
  rw[show ((0:Nat):Int)=0 from rfl,Y5]
  refine aX fun i _=>?_
  show (((([(c,n)]:List (Nat×Nat)).filter (p (c,i))).length:Int))=one (p (c,((i:Nat):Int).toNat) (c,((n:Nat):Int).toNat)=true)
  rw[UA,UA]
  cases e:p (c,i) (c,n)
  ·rw[Xu (by rw[e];decide),aZ (by decide)];rfl
  ·rw[XC e,fq rfl];rfl
theorem zL (P:Nat×Nat->Bool) (c n:Nat):((((List.range n).map fun i=>(c,i)).filter P).length:Int)=sm n (fun j=>one (P (c,j.toNat)=true)):=by
 rw[List.filter_map,K4,Dr (P:=fun j=>P (c,j)) fun j _=>by rw[UA]]
 rfl
theorem Dt (ws:List (List Nat)) (p:Nat×Nat->Nat×Nat->Bool): ∀n:Nat,(cl p (vL ws n):Int)=sm n (fun c=>uL (ws.getD c.toNat []).length (fun i j=>one (p (c.toNat,i.toNat) (c.toNat,j.toNat)=true)))+uL n (fun c d=>cw (ws.getD c.toNat []).length (ws.getD d.toNat []).length fun i j=>one (p (c.toNat,i.toNat) (d.toNat,j.toNat)=true))
 | 0=>rfl
 | n+1=>by
  unfold vL
  rw[t5,Dt ws p n,Ds,zK]
  have u:((n:Nat):Int).toNat=n:=UA n
  show _+_+sm n _=(sm n _+uL (ws.getD ((n:Nat):Int).toNat []).length (fun i j=>one (p (((n:Nat):Int).toNat,i.toNat) (((n:Nat):Int).toNat,j.toNat)=true)))+(uL n _+sm n (fun c=>cw (ws.getD c.toNat []).length (ws.getD ((n:Nat):Int).toNat []).length fun i j=>one (p (c.toNat,i.toNat) (((n:Nat):Int).toNat,j.toNat)=true)))
  rw[u]
  have:sm n (fun c=>sm (ws.getD c.toNat []).length fun i=>(((((List.range (ws.getD n []).length).map fun i=>(n,i)).filter (p (c.toNat,i.toNat))).length:Nat):Int))=sm n (fun c=>cw (ws.getD c.toNat []).length (ws.getD n []).length fun i j=>one (p (c.toNat,i.toNat) (n,j.toNat)=true)):=aX fun c _=>aX fun i _=>zL _ _ _
  rw[this]
  omega
section
variable {y:List Nat} {ws:List (List Nat)} {L:Nat->Bool} {r:Nat->Nat} {M:Nat} {N:Nat->Nat->Nat->Nat}
noncomputable def HW (ws:List (List Nat)) (N:Nat->Nat->Nat->Nat) (o p:Nat×Nat):Bool:=iA (pO ws N o.1) (pI ws N o.1) (pO ws N p.1) (pI ws N p.1) o.2 p.2
end
def Lx (f g:Int->Nat):Prop:= ∃m:Nat,f m<g m/\ ∀l:Nat,l<m->f l=g l
theorem t6 {w:List Nat} (hw:w≠[]) {i k:Nat} (hi:i<=w.length) (hk:k<w.length):(dk w i)[k]? =some (rd w ((i:Int)+k)):=by
 rw[nP hi hk]
 unfold Fw
 have:=eN hw ((i:Int)+k)
 rw[<-this]
 congr 1
 have e:(((k+i)%w.length:Nat):Int)=((i:Int)+k)%w.length:=by rw[Y9,XW,Int.add_comm]
 omega
theorem Du {w u:List Nat} (hw:w≠[]) (hl:u.length=w.length) {i j:Nat} (hi:i<=w.length) (hj:j<=w.length):dk w i<dk u j↔Lx (sq w i) (sq u j):=by
 have hu:u≠[]:=fun z=>hw (by rw[z]at hl;exact XM.mp hl.symm)
 have g1: ∀{k:Nat} (hk:k<(dk w i).length),(dk w i)[k]=sq w i k:=fun {k} hk=>by
  have:=t6 hw hi (k:=k) (by rw[b4]at hk;exact hk)
  rw[Jd hk]at this
  exact Xa this
 have g2: ∀{k:Nat} (hk:k<(dk u j).length),(dk u j)[k]=sq u j k:=fun {k} hk=>by
  have:=t6 hu (i:=j) (k:=k) (by omega) (by rw[b4]at hk;exact hk)
  rw[Jd hk]at this
  exact Xa this
 rw[List.lt_iff_exists]
 constructor
 ·rintro (⟨_,h⟩ | ⟨m,h1,h2,h3,h4⟩)
  ·rw[b4,b4,hl]at h;omega
  ·refine ⟨m,by rw[<-g1 h1, <-g2 h2];exact h4,fun l yL=>?_⟩
   rw[<-g1 (by omega), <-g2 (by omega)]
   exact h3 l yL
 ·rintro ⟨m,h1,h2⟩
  have hp:=SE.mpr hw
  have hm:m<w.length:=by
   refine Classical.byContradiction fun z=>?_
   have d:=ZI m w.length
   have c1:=g7 (f:=sq w i) (p:=w.length) (fun k=>cX w i k) (m%w.length:Nat) (m / w.length)
   have c2:=g7 (f:=sq u j) (p:=w.length) (fun k=>by rw[<-hl];exact cX u j k) (m%w.length:Nat) (m / w.length)
   have e:((m%w.length:Nat):Int)+((m / w.length:Nat):Int)*(w.length:Nat)=m:=by
    rw[Int.mul_comm];exact_mod_cast d
   rw[e]at c1 c2
   rw[c1,c2,h2 (m%w.length) (by have:=YH m hp;omega)]at h1
   omega
  refine .inr ⟨m,by rw[b4];exact hm,by rw[b4,hl];exact hm,fun l yL=>?_,?_⟩
  ·rw[g1,g2];exact h2 l yL
  ·rw[g1,g2];exact h1
theorem i4 {w:List Nat} (hw:w≠[]): ∃i:Nat,i<w.length/\b9 w=dk w i:=by
 have hp:=SE.mpr hw
 rcases gY (iw w (w.length - 1)) w with h | h
 ·exact ⟨0,hp,by unfold b9;rw[h,kQ]⟩
 ·unfold iw at h
  obtain ⟨k,hk,e⟩:=Xr.mp h
  have:=XX.mp hk
  exact ⟨k+1,by omega,by unfold b9;exact e.symm⟩
theorem mY {w:List Nat} {i:Nat} (hi:i<w.length): ¬dk w i<b9 w:=by
 unfold b9
 refine gZ _ _ _ ?_
 cases i with
 | zero=>rw[kQ];exact Uz
 | succ i=>exact UB _ (Xr.mpr ⟨i,XX.mpr (by omega),rfl⟩)
noncomputable def leads (w:List Nat):Bool:=decide (b9 w<b9 (gv w))
theorem jt {v:List Nat} (h:v≠[]) (k:Int):sq (gv v) k=bq v (-1 - k):=by
 funext x
 unfold sq bq
 rw[l_ h]
 congr 2;omega
theorem oZ {v:List Nat} (h:v≠[]):gv v≠[]:=fun z=>h (XM.mp (by rw[<-cj v,z];rfl))
theorem rF {w:List Nat} (hw:w≠[]):leads w=true↔ ∃i:Int, ∀j:Int,Lx (sq w i) (bq w j):=by
 have hp:=SE.mpr hw
 have hl:=cj w
 have ht:=oZ hw
 unfold leads
 rw[decide_eq_true_iff]
 constructor
 ·intro h
  obtain ⟨i,hi,ei⟩:=i4 hw
  refine ⟨i,fun j=>?_⟩
  have hj:=bJ (n:=(gv w).length) (by rw[hl];exact hp) (-1 - j)
  have h2:b9 w<dk (gv w) (i0 (gv w).length (-1 - j)):=List.not_le.mp fun z=>by
   have:=List.lt_of_le_of_lt z h
   exact mY hj this
  rw[ei]at h2
  have h3:=(Du hw hl (by omega) (by omega)).mp h2
  rw[cC ht,jt hw,show -1 - (-1 - j)=j by omega]at h3
  exact h3
 ·rintro ⟨i,h⟩
  obtain ⟨j,hj,ej⟩:=i4 ht
  have h2:=h (-1 - j)
  rw[show (-1:Int) - (j:Int)= -1 - j by omega, <-jt hw, <-cC hw]at h2
  have hi:=bJ hp i
  have h3:=(Du hw hl (by omega) (by omega)).mpr h2
  rw[<-ej]at h3
  exact List.lt_of_le_of_lt (List.not_lt.mp (mY hi)) h3
theorem rG {w v:List Nat} (hw:w≠[]) (hv:v≠[]) {i j:Int} (h:cq w v i j):leads w=leads v:=by
 have e1: ∀k,sq w k=sq v (k - i+j):=fun k=>by
  funext x
  have:=h (k - i+x)
  unfold sq at this ⊢
  rw[show k+x=i+(k - i+x) by omega,this]
  congr 1;omega
 have e2: ∀k,bq w k=bq v (k - i+j):=fun k=>by rw[<-eZ, <-eZ,e1]
 rw[YT,rF hw,rF hv]
 constructor
 ·rintro ⟨a,h⟩
  refine ⟨a - i+j,fun b=>?_⟩
  have:=h (b - j+i)
  rwa [e1,e2,show b - j+i - i+j=b by omega]at this
 ·rintro ⟨a,h⟩
  refine ⟨a - j+i,fun b=>?_⟩
  rw[e1,e2,show a - j+i - i+j=a by omega]
  exact h _
theorem rH {y w:List Nat} (hy:Yd y) (hw:SW y w):leads (gv w)=!leads w:=by
 have hl:AllLt w:=fun c hc=>hy.lt c (hw.bo c hc)
 have ne:b9 w≠b9 (gv w):=fun z=>by
  obtain ⟨i,hi,ei⟩:=i4 hw.ne
  obtain ⟨j,hj,ej⟩:=i4 (oZ hw.ne)
  rw[cj]at hj
  have: ∀k:Nat,k<w.length->sq w i k=sq (gv w) j k:=fun k hk=>by
   have h1:=t6 hw.ne (i:=i) (k:=k) (by omega) hk
   have h2:=t6 (oZ hw.ne) (i:=j) (k:=k) (by rw[cj];omega) (by rw[cj];exact hk)
   rw[<-ei,z,ej,h2]at h1
   exact (Xa h1).symm
  refine tP hy hw i (-1 - j) ?_
  rw[<-jt hw.ne]
  have hp:=SE.mpr hw.ne
  refine fw (p:=w.length) (q:=w.length) hp hp (fun k=>cX w i k) (fun k=>by rw[<-cj w];exact cX (gv w) j k) fun n hn=>?_
  by_cases q:n<w.length
  ·exact this n q
  ·have c1:=cX w i ((n - w.length:Nat):Int)
   have c2:=cX (gv w) j ((n - w.length:Nat):Int)
   rw[show ((n - w.length:Nat):Int)+w.length=n by omega]at c1
   rw[cj,show ((n - w.length:Nat):Int)+w.length=n by omega]at c2
   rw[c1,c2]
   exact this _ (by omega)
 unfold leads
 rw[Gi hl, <-decide_not]
 refine decide_eq_decide.mpr ⟨fun h z=>?_,fun h=>?_⟩
 ·exact Y2 _ (List.lt_trans h z)
 ·exact List.not_le.mp fun z=>ne (List.le_antisymm z (List.not_lt.mp h))
theorem Bf {y w v:List Nat} (hy:Yd y) (hw:SW y w) (hv:SW y v) {i j:Int} (h: ∀k,sq w i k=bq v j k):leads v=!leads w:=by
 have:cq w (gv v) i (-1 - j):=fun k=>by rw[jt hv.ne,show -1 - (-1 - j)=j by omega];exact h k
 rw[rG hw.ne (oZ hv.ne) this,rH hy hv,Bool.not_not]
theorem Dv {w:List Nat} (hw:w≠[]) {d:Nat}:wK w d↔ ∀k:Int,rd w (k+d)=rd w k:=by
 have hp:=SE.mpr hw
 have fr: ∀i:Nat,Fw w i=some (rd w i):=fun i=>by
  unfold Fw
  rw[<-eN hw (i:Int)]
  congr 1
 constructor
 ·intro h k
  have:=h (i0 w.length k)
  rw[fr,fr]at this
  have:=Xa this
  rw[bT hw]at this
  rw[<-this, <-fj w (k+d), <-fj w (((i0 w.length k+d:Nat)):Int),XW,eB hp,Zp]
 ·intro h i
  rw[fr,fr,XW,h]
theorem gC {w:List Nat} (hw:w≠[]) {s:Nat} (h:bR w s):0<s/\ ∀i j:Int,cq w w i j↔(i - j)%(s:Int)=0:=by
 rcases h with ⟨z,_⟩ | h'
 ·exact absurd z hw
 have h:bR w s:= .inr h'
 obtain ⟨h1,h2,h3,_⟩:=h'
 have ps: ∀k:Int,rd w (k+s)=rd w k:=(Dv hw).mp ((fX hw h2).mp (tD h1 h2 h3))
 have pm: ∀(k t:Int),rd w (k+t*s)=rd w k:=fun k t=>by
  rcases Int.le_total 0 t with q | q
  ·obtain ⟨n,rfl⟩: ∃n:Nat,t=n:=⟨t.toNat,by omega⟩
   exact g7 ps k n
  ·obtain ⟨n,rfl⟩: ∃n:Nat,t= -(n:Int):=⟨(-t).toNat,by omega⟩
   have:=g7 ps (k+ -(n:Int)*s) n
   rw[<-this]
   congr 1
   rw[Int.neg_mul];omega
 refine ⟨h1,fun i j=>⟨fun p=>?_,fun p k=>?_⟩⟩
 ·have pd: ∀k:Int,rd w (k+(i - j))=rd w k:=fun k=>by
   have:=p (k - j)
   unfold sq at this
   rw[show i+(k - j)=k+(i - j) by omega,show j+(k - j)=k by omega]at this
   exact this
  have e:=ZM (i - j) s
  have hn:=X2 (i - j) (b:=(s:Int)) (by omega)
  have dz:=XS (i - j) (b:=(s:Int)) (by omega)
  refine Classical.byContradiction fun z=>?_
  obtain ⟨d,hd⟩: ∃d:Nat,(i - j)%(s:Int)=d:=⟨((i - j)%(s:Int)).toNat,by omega⟩
  refine bR.least h (j:=d) (by omega) (by omega) ((Dv hw).mpr fun k=>?_)
  have q:=pd k
  rw[<-e,hd,Int.mul_comm, <-Int.add_assoc,pm]at q
  exact q
 ·unfold sq
  have e:=ZM (i - j) s
  rw[p,Y5,Int.mul_comm]at e
  rw[show i+k=j+k+(i - j) by omega, <-e,pm]
theorem Dw {y:List Nat} {ws:List (List Nat)} {r:Nat->Nat} {M:Nat} (hy:Yd y) (hw: ∀c,c<ws.length->SW y (ws.getD c [])) (hr: ∀c,c<ws.length->bR (ws.getD c []) (r c)) (hM: ∀c d,c<ws.length->d<ws.length->(ws.getD c []).length+(ws.getD d []).length<=M):eG y ws (fun c=>leads (ws.getD c [])) r M:=
 ⟨hy,hw,hM,fun c d i j hc hd h=>rG (hw c hc).ne (hw d hd).ne h,fun c d i j hc hd h=>Bf hy (hw c hc) (hw d hd) h,fun c hc=>(gC (hw c hc).ne (hr c hc)).1,fun c hc=>(gC (hw c hc).ne (hr c hc)).2⟩
noncomputable def bs (y w v:List Nat) (i j:Int):Int:=one (ac y (aC (rd w (i - 1))) (rd w i) (aC (rd v (j - 1))) (rd v j)=true)+one (jN y (sq w i) (sq v j))+one (jN y (sq w i) (bq v j))
noncomputable def SS (y w v:List Nat):Int:=cw w.length v.length (bs y w v)
theorem Dx {y w v:List Nat} (hy:Yd y) (hw:SW y w) (hv:SW y v):cw w.length v.length (fc y w v)=SS y w v:=bz fun i j _ _=>by
 unfold fc bs
 rw[bp (zx (n:=w.length+v.length) hy (ba hw i) (ba hv j) fun z=>jo hw.ne hv.ne (fun k=>cX w i k) (fun k=>cX v j k) z),bp (zx (n:=w.length+v.length) hy (ba hw i) (fK hy hv j) fun z=>jo hw.ne hv.ne (fun k=>cX w i k) (fun k=>oW v j k) z)]
def Le (y:List Nat) (f g:Int->Nat):Prop:= ∃b,Run f g 0 b/\fR y f g 0≠fT y f g b
theorem JS {y:List Nat} {n m:Nat} {F G:Int->Int->Nat} (bF: ∀k,dy (F k)=F (k - 1)) (bG: ∀k,dy (G k)=G (k - 1)) (pF: ∀k,F (k+n)=F k) (pG: ∀k,G (k+m)=G k):cw n m (fun s t=>one (jN y (F s) (G t)))=cw n m fun s t=>one (Le y (F s) (G t)):=by
 have key: ∀s t:Int,one (jN y (F s) (G t))+one (∃a b,Run (F (s - 1)) (G (t - 1)) (a+1) b/\fR y (F (s - 1)) (G (t - 1)) (a+1)≠fT y (F (s - 1)) (G (t - 1)) b)=one (Le y (F s) (G t))+one (∃a b,Run (F s) (G t) (a+1) b/\fR y (F s) (G t) (a+1)≠fT y (F s) (G t) b):=fun s t=>by
  rw[<-bF, <-bG]
  generalize F s=f
  generalize G t=g
  by_cases X: ∃a b,Run f g a b/\fR y f g a≠fT y f g b
  ·obtain ⟨a,b,r,x⟩:=X
   have u: ∀{a' b'},Run f g a' b'->a'=a/\b'=b:=fun r'=>r'.one r
   have e1:one (jN y f g)+one (∃a b,Run (dy f) (dy g) (a+1) b/\fR y (dy f) (dy g) (a+1)≠fT y (dy f) (dy g) b)=1:=by
    cases b with
    | zero=>
     rw[fq ⟨a,r,x⟩,aZ (fun ⟨a',b',r',_⟩=>absurd (u r'.fd).2 (Y8 _))]
     rfl
    | succ b=>
     rw[aZ (fun ⟨a',r',_⟩=>absurd (u r').2.symm (Y8 _)),fq ⟨a,b,r.bk,by rw[kU,kW];exact x⟩]
     rfl
   have e2:one (Le y f g)+one (∃a b,Run f g (a+1) b/\fR y f g (a+1)≠fT y f g b)=1:=by
    cases a with
    | zero=>
     rw[fq ⟨b,r,x⟩,aZ (fun ⟨a',b',r',_⟩=>absurd (u r').1 (Y8 _))]
     rfl
    | succ a=>
     rw[aZ (fun ⟨b',r',_⟩=>absurd (u r').1.symm (Y8 _)),fq ⟨a,b,r,x⟩]
     rfl
   rw[e1,e2]
  ·rw[aZ (fun ⟨a,r,x⟩=>X ⟨a,0,r,x⟩),aZ (fun ⟨a,b,r,x⟩=>X ⟨a,b+1,r.fd,by rw[kU,kW]at x;exact x⟩),aZ (fun ⟨b,r,x⟩=>X ⟨0,b,r,x⟩),aZ (fun ⟨a,b,r,x⟩=>X ⟨a+1,b,r,x⟩)]
 have sh:=rD (n:=n) (m:=m) (h:=fun s t=>one (∃a b,Run (F s) (G t) (a+1) b/\fR y (F s) (G t) (a+1)≠fT y (F s) (G t) b)) (fun i j=>by rw[pF]) (fun i j=>by rw[pG])
 refine (Int.add_left_inj (cw n m (fun s t=>one (∃a b,Run (F s) (G t) (a+1) b/\fR y (F s) (G t) (a+1)≠fT y (F s) (G t) b)))).mp ?_
 rw[<-cS n m (fun s t=>one (Le y (F s) (G t))), <-sh, <-cS]
 exact bz fun i j _ _=>key i j
theorem Oe {y:List Nat} {f g:Int->Nat} (hy:Yd y) (hf:gi y f) (hg:gi y g):Le y f g↔jN y (jG g) (jG f):=by
 have a1: ∀b:Nat,fR y (jG g) (jG f) b=fT y f g b:=fun b=>by
  unfold fR fT
  rw[iX hy hf,iX hy hg]
  exact decide_eq_decide.mpr ⟨fun q=>by omega,fun q=>by omega⟩
 have a2:fT y (jG g) (jG f) 0=fR y f g 0:=by
  unfold fR fT
  have e1:=iX hy hf (-1)
  have e2:=iX hy hg (-1)
  rw[show (-1:Int)+1= -((0:Nat):Int) from rfl]at e1 e2
  rw[e1,e2]
  exact decide_eq_decide.mpr ⟨fun q=>by have:(y.length:Int) - dP y g 1<y.length - dP y f 1:=q;show dP y f 1<dP y g 1;omega,fun q=>by have:dP y f 1<dP y g 1:=q;show (y.length:Int) - dP y g 1<y.length - dP y f 1;omega⟩
 constructor
 ·rintro ⟨b,r,x⟩
  exact ⟨b,(r.rv hy hf hg).sy,by rw[a1,a2];exact Ne.symm x⟩
 ·rintro ⟨b,r,x⟩
  have r2:=r.rv hy (hg.rv hy) (hf.rv hy)
  rw[mX hy hf,mX hy hg]at r2
  rw[a1,a2]at x
  exact ⟨b,r2.sy,Ne.symm x⟩
theorem x3 {y:List Nat} {f g:Int->Nat} (hy:Yd y) (hf:gi y f) (hg:gi y g):jN y f g↔jN y g f:=⟨HV hy hf hg,HV hy hg hf⟩
theorem Of (w:List Nat) (k:Int):dy (sq w k)=sq w (k - 1):=by
 funext x
 unfold dy sq
 congr 1
 omega
theorem Og {y w:List Nat} (hy:Yd y) (h:SW y w) (i:Int):jG (bq w i)=sq w i:=by rw[<-eZ,mX hy (ba h i)]
theorem JT {y w v:List Nat} (hy:Yd y) (hw:SW y w) (hv:SW y v):cw w.length v.length (fun i j=>one (jN y (bq w i) (sq v j)))=cw w.length v.length fun i j=>one (jN y (sq w i) (bq v j)):=by
 have fb: ∀k,dy (bq v (-k))=bq v (-(k - 1)):=fun k=>by
  funext x
  unfold dy bq
  congr 2
  omega
 have fp: ∀k:Int,bq v (-(k+v.length))=bq v (-k):=fun k=>by rw[show -(k+(v.length:Int))= -k - v.length by omega,JN]
 have e:=JS (y:=y) (n:=w.length) (m:=v.length) (F:=sq w) (G:=fun k=>bq v (-k)) (Of w) fb (tN w) fp
 have n1: ∀H:Int->Int->Int,(∀i j,H i (j+v.length)=H i j)->cw w.length v.length (fun i j=>H i (-j))=cw w.length v.length H:=fun H P=>aX fun i _=>xV (h:=H i) fun k=>P i k
 rw[n1 (fun i j=>one (jN y (sq w i) (bq v j))) (fun i j=>by rw[me]),n1 (fun i j=>one (Le y (sq w i) (bq v j))) (fun i j=>by rw[me])]at e
 rw[e]
 exact bz fun i j _ _=>bp (by rw[Oe hy (ba hw i) (fK hy hv j),eZ,Og hy hv];exact x3 hy (fK hy hw i) (ba hv j))
theorem Bg {y w:List Nat} (hy:Yd y) (h:SW y w) (i:Int):aC (rd w (i - 1))∈y/\rd w i∈y/\aC (rd w (i - 1))≠rd w i:=⟨hy.cl _ (h.rd _),h.rd _,Ne.symm (h.red i)⟩
theorem Dy {y w v:List Nat} (hy:Yd y) (hw:SW y w) (hv:SW y v):SS y w v=SS y v w:=by
 have sw: ∀H:Int->Int->Int,cw v.length w.length (fun j i=>H i j)=cw w.length v.length H:=fun H=>zJ _ _ _
 have e: ∀u z:List Nat,SS y u z=cw u.length z.length (fun i j=>one (ac y (aC (rd u (i - 1))) (rd u i) (aC (rd z (j - 1))) (rd z j)=true))+cw u.length z.length (fun i j=>one (jN y (sq u i) (sq z j)))+cw u.length z.length (fun i j=>one (jN y (sq u i) (bq z j))):=fun u z=>by
  unfold SS bs
  rw[cS,cS]
 rw[e w v,e v w, <-JT hy hw hv, <-sw, <-sw, <-sw]
 congr 1
 ·congr 1
  ·exact bz fun j i _ _=>by
    obtain ⟨a1,a2,a3⟩:=Bg hy hw i
    obtain ⟨b1,b2,b3⟩:=Bg hy hv j
    rw[JR hy a1 a2 b1 b2 a3 b3]
  ·exact bz fun j i _ _=>bp (x3 hy (ba hw i) (ba hv j))
 ·exact bz fun j i _ _=>bp (x3 hy (fK hy hw i) (ba hv j))
theorem mi {w:List Nat} (σ:Nat->Nat) (h:w≠[]) (k:Int):rd (w.map σ) k=σ (rd w k):=by
 have hl:=SE.mpr h
 have h1:=X2 k (b:=(w.length:Int)) (by omega)
 have h2:=XS k (b:=(w.length:Int)) (by omega)
 have hi:(k%(w.length:Int)).toNat<w.length:=by omega
 unfold rd
 rw[K4,UC,UC,Xd,Jd hi]
 rfl
structure GF (y z:List Nat) (σ:Nat->Nat) (neg:Bool):Prop where
 yd:Yd y
 zd:Yd z
 Ta: ∀a∈y,σ a∈z
 inj: ∀a∈y, ∀b∈y,σ a=σ b->a=b
 Oh: ∀a∈y,σ (aC a)=aC (σ a)
 gr: ∀a∈y, ∀b∈y, ∀c∈y,a≠b->a≠c->b≠c->gr z (σ a) (σ b) (σ c)=(neg ^^ gr y a b c)
section
variable {y z w v:List Nat} {σ:Nat->Nat} {neg:Bool}
theorem GF.sw (T:GF y z σ neg) (h:SW y w):SW z (w.map σ):=⟨fun q=>h.ne (List.map_eq_nil_iff.mp q),fun c hc=>by
 obtain ⟨a,ha,rfl⟩:=Xr.mp hc
 exact T.Ta a (h.bo a ha),fun k=>by
 rw[mi σ h.ne,mi σ h.ne, <-T.Oh _ (h.rd _)]
 exact fun q=>h.red k (T.inj _ (h.rd _) _ (T.yd.cl _ (h.rd _)) q)⟩
theorem GF.bg (T:GF y z σ neg) {f g:Int->Nat} (hf:gi y f) (hg:gi y g) (Vb:gi z fun k=>σ (f k)) (FL:gi z fun k=>σ (g k)):jN z (fun k=>σ (f k)) (fun k=>σ (g k))↔jN y f g:=by
 have ne: ∀k,f k≠g k->σ (f k)≠σ (g k):=fun k h q=>h (T.inj _ (hf.bo k) _ (hg.bo k) q)
 have run: ∀{a b},Run (fun k=>σ (f k)) (fun k=>σ (g k)) a b↔Run f g a b:=fun {a b}=>⟨fun r=>⟨fun k h1 h2=>T.inj _ (hf.bo k) _ (hg.bo k) (r.lF k h1 h2),fun q=>r.hi (by show σ _=σ _;rw[q]),fun q=>r.lo (by show σ _=σ _;rw[q])⟩,fun r=>⟨fun k h1 h2=>by show σ _=σ _;rw[r.lF k h1 h2],ne _ r.hi,ne _ r.lo⟩⟩
 have key: ∀a,Run f g a 0->fR z (fun k=>σ (f k)) (fun k=>σ (g k)) a=(neg ^^ fR y f g a)/\fT z (fun k=>σ (f k)) (fun k=>σ (g k)) 0=(neg ^^ fT y f g 0):=fun a r=>by
  have h0:=r.zero
  have ha:=r.lF a (by omega) (by omega)
  have r1:=hf.red (a+1)
  have r2:=hg.red (a+1)
  rw[show (a:Int)+1 - 1=a by omega]at r1 r2
  have lo:f (-1)≠g (-1):=r.lo
  have r3:=hf.red 0
  have r4:=hg.red 0
  rw[Z2]at r3 r4
  constructor
  ·rw[tL (by show σ _=σ _;rw[ha]),tL ha]
   show My.gr z (aC (σ (f a))) _ _=_
   rw[<-T.Oh _ (hf.bo a)]
   exact T.gr _ (T.yd.cl _ (hf.bo a)) _ (hf.bo _) _ (hg.bo _) (Ne.symm r1) (by rw[ha];exact Ne.symm r2) r.hi
  ·rw[tK T.zd Vb FL (by show σ _=σ _;rw[h0]) (ne _ lo),tK T.yd hf hg h0 lo]
   show (!My.gr z (aC (σ (f (-1)))) (aC (σ (g (-1)))) (σ (f 0)))=_
   rw[<-T.Oh _ (hf.bo _), <-T.Oh _ (hg.bo _),T.gr _ (T.yd.cl _ (hf.bo _)) _ (T.yd.cl _ (hg.bo _)) _ (hf.bo 0) (fun q=>lo (d_ (T.yd.lt _ (hf.bo _)) (T.yd.lt _ (hg.bo _)) q)) (Ne.symm r3) (by rw[h0];exact Ne.symm r4)]
   cases neg<;>cases My.gr y (aC (f (-1))) (aC (g (-1))) (f 0)<;>rfl
 constructor
 ·rintro ⟨a,r,x⟩
  have r':=run.mp r
  obtain ⟨k1,k2⟩:=key a r'
  rw[k1,k2]at x
  exact ⟨a,r',fun q=>x (by rw[q])⟩
 ·rintro ⟨a,r,x⟩
  obtain ⟨k1,k2⟩:=key a r
  refine ⟨a,run.mpr r,?_⟩
  rw[k1,k2]
  exact fun q=>x (by cases neg<;>cases h1:fR y f g a<;>cases h2:fT y f g 0<;>simp[h1,h2]at q ⊢)
theorem GF.ac (T:GF y z σ neg) {a b p q:Nat} (ha:a∈y) (hb:b∈y) (hp:p∈y) (hq:q∈y) (ab:a≠b):ac z (σ a) (σ b) (σ p) (σ q)=ac y a b p q:=by
 have e: ∀{a b},a∈y->b∈y->(σ a=σ b↔a=b):=fun {a b} ha hb=>⟨T.inj a ha b hb,fun q=>by rw[q]⟩
 unfold My.ac
 have e4:(σ p=σ a\/σ p=σ b\/σ q=σ a\/σ q=σ b)↔(p=a\/p=b\/q=a\/q=b):=by rw[e hp ha,e hp hb,e hq ha,e hq hb]
 by_cases c:p=a\/p=b\/q=a\/q=b
 ·rw[if_pos c,if_pos (e4.mpr c)]
 ·rw[if_neg c,if_neg fun z=>c (e4.mp z)]
  have n1:a≠p:=fun q=>c (.inl q.symm)
  have n2:p≠b:=fun q=>c (.inr (.inl q))
  have n3:a≠q:=fun q=>c (.inr (.inr (.inl q.symm)))
  have n4:q≠b:=fun q=>c (.inr (.inr (.inr q)))
  rw[T.gr a ha p hp b hb n1 ab n2,T.gr a ha q hq b hb n3 ab n4]
  cases neg<;>cases My.gr y a p b<;>cases My.gr y a q b<;>rfl
theorem GF.same (T:GF y z σ neg) (hw:SW y w) (hv:SW y v):SS z (w.map σ) (v.map σ)=SS y w v:=by
 have Lf:=T.sw hw
 have O4:=T.sw hv
 have cm: ∀{u:List Nat} (hu:SW y u) (k:Int),aC (rd (u.map σ) k)=σ (aC (rd u k)):=fun {u} hu k=>by rw[mi σ hu.ne,T.Oh _ (hu.rd k)]
 have es: ∀{u:List Nat} (hu:SW y u) (i:Int),sq (u.map σ) i=fun k=>σ (sq u i k):=fun {u} hu i=>by
  funext k
  unfold sq
  exact mi σ hu.ne _
 have eb: ∀{u:List Nat} (hu:SW y u) (i:Int),bq (u.map σ) i=fun k=>σ (bq u i k):=fun {u} hu i=>by
  funext k
  unfold bq
  exact cm hu _
 unfold SS
 rw[K4,K4]
 refine bz fun i j _ _=>?_
 have b1:=T.bg (ba hw i) (ba hv j) (by rw[<-es hw];exact ba Lf i) (by rw[<-es hv];exact ba O4 j)
 have b2:=T.bg (ba hw i) (fK T.yd hv j) (by rw[<-es hw];exact ba Lf i) (by rw[<-eb hv];exact fK T.zd O4 j)
 obtain ⟨a1,a2,a3⟩:=Bg T.yd hw i
 obtain ⟨c1,c2,c3⟩:=Bg T.yd hv j
 unfold bs
 rw[cm hw,cm hv,mi σ hw.ne,mi σ hv.ne,T.ac a1 a2 c1 c2 a3,es hw,es hv,eb hv,bp b1,bp b2]
end
theorem o4 {i n:Nat} (h:i<n):(i+1)%n=if i+1=n then 0 else i+1:=by
 by_cases z:i+1=n
 ·rw[if_pos z,z,Nat.mod_self]
 ·rw[if_neg z];exact Yj (by omega)
noncomputable def qf (y:List Nat) (e:Nat):Nat:=y.getD ((y.idxOf e+1)%y.length) 0
theorem mj {y:List Nat} {e:Nat} (h:e∈y): ∃hk:(y.idxOf e+1)%y.length<y.length,qf y e=y[(y.idxOf e+1)%y.length]:=by
 have hp:=ZE h
 have hk:(y.idxOf e+1)%y.length<y.length:=YH _ hp
 exact ⟨hk,by unfold qf;rw[UC,Jd hk];rfl⟩
theorem nU {y:List Nat} {e:Nat} (h:e∈y):qf y e∈y:=by
 obtain ⟨hk,e2⟩:=mj h
 rw[e2];exact Xp hk
theorem zM {y:List Nat} {a b:Nat} (hn:y.Nodup) (ha:a∈y) (hb:b∈y) (e:qf y a=qf y b):a=b:=by
 obtain ⟨k1,e1⟩:=mj ha
 obtain ⟨k2,e2⟩:=mj hb
 rw[e1,e2]at e
 have ix:=C1 hn k1 k2 e
 have ia:=Uy ha
 have ib:=Uy hb
 rw[o4 ia,o4 ib]at ix
 have:y.idxOf a=y.idxOf b:=by split at ix<;>split at ix<;>omega
 have g1:=XF ia
 have g2:=XF ib
 rw[<-g1, <-g2]
 congr 1
theorem x4 {y:List Nat} {a:Nat} (hn:y.Nodup) (ha:a∈y) (h2:2<=y.length):qf y a≠a:=by
 obtain ⟨k1,e1⟩:=mj ha
 have ia:=Uy ha
 intro z
 rw[e1]at z
 have g1:=XF ia
 have ix:=C1 hn k1 ia (z.trans g1.symm)
 rw[o4 ia]at ix
 split at ix<;>omega
noncomputable def lH (y:List Nat) (e:Nat):Nat:=qf y (aC e)
theorem zN {y:List Nat} (h:Yd y) {e:Nat} (he:e∈y):lH y e∈y:=nU (h.cl e he)
theorem GG {y:List Nat} (h:Yd y) {a b:Nat} (ha:a∈y) (hb:b∈y) (e:lH y a=lH y b):a=b:=
 d_ (h.lt a ha) (h.lt b hb) (zM h.nd (h.cl a ha) (h.cl b hb) e)
def Path (f:Nat->Nat):List Nat->Nat->Prop
 | [],_=>True
 | a::r,z=>f a=r.headD z/\Path f r z
theorem vS (a b:List Nat) (z:Nat):(a++b).headD z=a.headD (b.headD z):=by cases a<;>rfl
theorem gD {f:Nat->Nat}: ∀{a b:List Nat} {z:Nat},Path f (a++b) z↔Path f a (b.headD z)/\Path f b z
 | [],b,z=>⟨fun h=>⟨trivial,h⟩,fun h=>h.2⟩
 | c::a,b,z=>by
  show (f c=(a++b).headD z/\Path f (a++b) z)↔(f c=a.headD (b.headD z)/\Path f a (b.headD z))/\Path f b z
  rw[vS,gD (a:=a),and_assoc]
theorem nV {f:Nat->Nat}: ∀{w:List Nat} {z k a b:Nat},Path f w z->w[k]? =some a->w[k+1]? =some b->b=f a
 | [],z,k,a,b,_,h,_=>by cases h
 | c::r,z,0,a,b,h,h1,h2=>by
  have e1:c=a:=by simpa using h1
  have e2:r[0]? =some b:=by simpa using h2
  cases r with
  | nil=>cases e2
  | cons d r=>
   have e3:d=b:=by simpa using e2
   have:=h.1
   rw[<-e3, <-e1]
   exact this.symm
 | c::r,z,k+1,a,b,h,h1,h2=>nV h.2 (by simpa using h1) (by simpa using h2)
structure qg (f:Nat->Nat) (w:List Nat):Prop where
 ne:w≠[]
 nd:w.Nodup
 pa:Path f w (w.headD 0)
theorem rJ {f:Nat->Nat} {c:Nat}: ∀{r s:List Nat},Path f r c->Path f s c->c∉r->c∉s->r.headD c=s.headD c->r=s
 | [],[],_,_,_,_,_=>rfl
 | [],b::s,_,_,_,hs,e=>absurd (show c=b from e) fun z=>hs (z▸Uz)
 | a::r,[],_,_,hr,_,e=>absurd (show a=c from e) fun z=>hr (z▸Uz)
 | a::r,b::s,h1,h2,hr,hs,e=>by
  have e':a=b:=e
  subst e'
  rw[rJ h1.2 h2.2 (fun z=>hr (UB _ z)) (fun z=>hs (UB _ z)) (h1.1.symm.trans h2.1)]
theorem qg.begun {f:Nat->Nat} {a b:List Nat} {c:Nat} (h:qg f (a++c::b)):qg f (c::b++a):=by
 refine ⟨by simp,(List.perm_append_comm.nodup_iff).mp h.nd,?_⟩
 have hp:=h.pa
 rw[vS]at hp
 rw[gD]at hp
 show Path f (c::b++a) c
 rw[gD]
 exact ⟨hp.2,hp.1⟩
theorem qg.one {f:Nat->Nat} {c:Nat} {r s:List Nat} (h:qg f (c::r)) (g:qg f (c::s)):r=s:=
 rJ h.pa.2 g.pa.2 (Xw.mp h.nd).1 (Xw.mp g.nd).1 (h.pa.1.symm.trans g.pa.1)
theorem qg.ring {f:Nat->Nat} {u v:List Nat} {c:Nat} (h:qg f u) (g:qg f v) (hu:c∈u) (hv:c∈v) (lu:AllLt u) (lv:AllLt v):bP u=bP v/\ ∀d,d∈u↔d∈v:=by
 obtain ⟨a,b,rfl⟩:=List.append_of_mem hu
 obtain ⟨a2,b2,rfl⟩:=List.append_of_mem hv
 have e:b++a=b2++a2:=h.begun.one g.begun
 constructor
 ·rw[lY lu.left lu.right,lY lv.left lv.right]
  show bP (c::(b++a))=bP (c::(b2++a2))
  rw[e]
 ·intro d
  have m1:d∈a++c::b↔d=c\/d∈b++a:=by simp only[WJ,WG];constructor<;>(intro z;rcases z with z | z | z<;>simp[z])
  have m2:d∈a2++c::b2↔d=c\/d∈b2++a2:=by simp only[WJ,WG];constructor<;>(intro z;rcases z with z | z | z<;>simp[z])
  rw[m1,m2,e]
theorem qg.shortest {y w:List Nat} (h:Yd y) (h2:2<=y.length) (o:qg (lH y) w) (hw: ∀c∈w,c∈y):core (red w)=w:=by
 have key: ∀{a b:Nat},a∈w->b=lH y a->a≠aC b:=fun {a b} ha e z=>by
  have hy:=hw a ha
  have e2:aC a=b:=by rw[z,aH (by rw[e];exact h.lt _ (zN h hy))]
  exact x4 h.nd (h.cl a hy) h2 (show lH y a=aC a by rw[e2,e])
 have hr:red w=w:=eX (xI fun k a b e1 e2=>key (W9 e1) (nV o.pa e1 e2))
 rw[hr]
 refine lX fun a m z e=>?_
 have hp:=o.pa
 rw[e]at hp
 have jF:Path (lH y) ((a::m)++[z]) a:=hp
 rw[gD]at jF
 have e3:lH y z=a:=jF.2.1
 have hz:z∈w:=by rw[e];simp
 intro q
 have Vc:=hw z hz
 exact x4 h.nd (h.cl z Vc) h2 (by show lH y z=aC z;rw[e3,q])
theorem qg.b9 {y w:List Nat} (h:Yd y) (h2:2<=y.length) (o:qg (lH y) w) (hw: ∀c∈w,c∈y):bP w=b9 w:=by rw[oQ,o.shortest h h2 hw]
structure Parts (y:List Nat) (ws:List (List Nat)):Prop where
 Bh: ∀w∈ws,qg (lH y) w/\ ∀c∈w,c∈y
 JU:ws.Pairwise fun u v=> ∀c,c∈u->c∉v
 all: ∀c∈y, ∃w∈ws,c∈w
structure Way (y w:List Nat):Prop where
 nd:w.Nodup
 bo: ∀c∈w,c∈y
 pa: ∀z,w≠[]->lH y (w.getLastD 0)=z->Path (lH y) w z
theorem eS (w:List Nat) (c d:Nat):(w++[c]).getLastD d=c:=by simp[List.getLastD_eq_getLast?]
theorem Way.more {y w:List Nat} (h:Yd y) (o:Way y w) (cP:w≠[]) (hb:lH y (w.getLastD 0)≠w.headD 0):Way y (w++[lH y (w.getLastD 0)]):=by
 obtain ⟨m,l,e⟩: ∃m l,w=m++[l]:=by
  rcases snoc_cases w with z | z
  ·exact absurd z cP
  ·exact z
 have hl:w.getLastD 0=l:=by rw[e,eS]
 rw[hl]at hb ⊢
 have Vd:l∈w:=by rw[e];simp
 have BP:=o.bo l Vd
 have hP:=o.pa (lH y l) cP (by rw[hl])
 have Rr:lH y l∉w:=fun z=>by
  -- Qy comes there a second time comes from B3 same one
  obtain ⟨i,hi,ei⟩:=List.mem_iff_getElem.mp z
  cases i with
  | zero=>
   apply hb
   cases w with
   | nil=>exact absurd rfl cP
   | cons a r=>exact ei.symm
  | succ i=>
   have e1:w[i]? =some w[i]:=Jd (by omega)
   have e2:w[i+1]? =some w[i+1]:=Jd hi
   have e3:=nV hP e1 e2
   rw[ei]at e3
   have e4:=GG h BP (o.bo _ (Xp _)) e3
   have hlen:w.length=m.length+1:=by rw[e];simp
   have e5:w[m.length]'(by omega)=l:=by simp[e]
   have:=C1 o.nd (by omega) (by omega) (e5.trans e4)
   omega
 refine ⟨?_,fun c hc=>?_,fun z _ hz=>?_⟩
 ·rw[X4]
  refine ⟨o.nd,Xw.mpr ⟨Xg,Yy⟩,fun a ha b j7 q=>?_⟩
  rw[O8.mp j7]at q
  exact Rr (q▸ha)
 ·rcases WJ.mp hc with q | q
  ·exact o.bo c q
  ·rw[O8.mp q];exact zN h BP
 ·rw[gD]
  rw[eS]at hz
  exact ⟨hP,hz,trivial⟩
theorem Way.one {y:List Nat} {c:Nat} (hc:c∈y):Way y [c]:=⟨Xw.mpr ⟨Xg,Yy⟩,fun d hd=>by rw[O8.mp hd];exact hc,fun z _ hz=>⟨hz,trivial⟩⟩
theorem Way.back {y w:List Nat} (o:Way y w) (cP:w≠[]) (hb:lH y (w.getLastD 0)=w.headD 0):qg (lH y) w:=⟨cP,o.nd,o.pa _ cP hb⟩
theorem Way.len {y w:List Nat} (o:Way y w):w.length<=y.length:=o.nd.length_le_of_subset fun c hc=>o.bo c hc
theorem Ck {a b:List Nat} (h:S a=S b):a=b:=by rw[<-eJ a,h,eJ]
noncomputable def tk (e:Nat):Key:=Sum.inr (S [e])
theorem JV {a b:Nat} (h:tk a=tk b):a=b:=by
 have:=Ck (Sum.inr.inj h)
 simpa using this
def mZ (_:PySem.W.Frag):Sp:=fun vs H Q _=> ∃(y:List Nat) (e:Nat),vs=[.str (S y), .str (S [e])]/\e∈y/\y.length<=1000/\Q (.str (S [qf y e])) H
theorem t9 {K:PySem.W.Frag} {vs:List V} {H:Hp} {Q:VK} {E:XK} (h:mZ K vs H Q E):vs.length=2:=by obtain ⟨c,_,rfl,_⟩:=h;rfl
def jO (_:PySem.W.Frag):Sp:=fun vs H Q _=> ∃(y:List Nat) (e:Nat),vs=[.str (S y), .str (S [e])]/\Yd y/\e∈y/\y.length<=100/\ ∀w,qg (lH y) w->(∀c∈w,c∈y)->aC e∈w->Q (.str (S w)) H
theorem o5 {K:PySem.W.Frag} {vs:List V} {H:Hp} {Q:VK} {E:XK} (h:jO K vs H Q E):vs.length=2:=by obtain ⟨c,_,rfl,_⟩:=h;rfl
def ju (y:List Nat) (L:List (List Nat)):Prop:= ∃ws,Parts y ws/\L.Perm (ws.map bP)/\L.Pairwise fun a b=> ¬b<a
theorem ju.lU {y:List Nat} {L:List (List Nat)} (a:ju y L):L.length<=y.length/\ ∀l∈L,l.length<=y.length:=by
 obtain ⟨ws,p,q,r⟩:=a
 constructor
 ·rw[q.length_eq,K4]
  have key: ∀(ws:List (List Nat)),(∀w∈ws,w≠[]/\w.Nodup/\ ∀c∈w,c∈y)->(ws.Pairwise fun u v=> ∀c,c∈u->c∉v)->ws.flatten.Nodup/\(∀c∈ws.flatten,c∈y)/\ws.length<=ws.flatten.length:=by
   intro ws
   induction ws with
   | nil=>intro _ _;exact ⟨Yy,fun _ h=>absurd h Xg,SA _⟩
   | cons w ws ih=>
    intro h d
    obtain ⟨h1,h2⟩:=Yk.mp d
    obtain ⟨i1,i2,i3⟩:=ih (fun u hu=>h u (UB _ hu)) h2
    obtain ⟨g1,g2,g3⟩:=h w Uz
    refine ⟨?_,fun c hc=>?_,?_⟩
    ·rw[Ye,X4]
     refine ⟨g2,i1,fun a ha b hb z=>?_⟩
     subst z
     obtain ⟨u,hu,Ve⟩:=List.mem_flatten.mp hb
     exact h1 u hu a ha Ve
    ·rw[Ye]at hc
     exact (WJ.mp hc).elim (g3 c) (i2 c)
    ·rw[Ye,SD,XB]
     have:=SE.mpr g1
     omega
  obtain ⟨k1,k2,k3⟩:=key ws (fun w hw=>⟨(p.Bh w hw).1.ne,(p.Bh w hw).1.nd,(p.Bh w hw).2⟩) p.JU
  exact Xt k3 (k1.length_le_of_subset fun c hc=>k2 c hc)
 ·intro l hl
  obtain ⟨w,hw,rfl⟩:=Xr.mp (q.mem_iff.mp hl)
  exact Xt (rk w) ((p.Bh w hw).1.nd.length_le_of_subset fun c hc=>(p.Bh w hw).2 c hc)
def zO (_:PySem.W.Frag):Sp:=fun vs H Q _=> ∃y:List Nat,vs=[.str (S y)]/\Yd y/\2<=y.length/\y.length<=8/\ ∀(q:Addr) (L:List (List Nat)) (H':Hp),ju y L->H q=none->H' q=some (.lst (dI L))->aq H H'->Q (.ref q) H'
theorem Dz {K:PySem.W.Frag} {vs:List V} {H:Hp} {Q:VK} {E:XK} (h:zO K vs H Q E):vs.length=1:=by obtain ⟨c,rfl,_⟩:=h;rfl
structure t_ (y:List Nat) (e:Nat) (w:List Nat) (pl:Nat):Prop where
 way:Way y w
 Lg:pl∈y
 no:w=[]->pl=e
 hd:w≠[]->w.headD 0=qf y e/\pl=aC (w.getLastD 0)
theorem Way.nil (y:List Nat):Way y []:=⟨Yy,fun _ h=>absurd h Xg,fun _ h _=>absurd rfl h⟩
theorem t_.start {y:List Nat} {e:Nat} (he:e∈y):t_ y e [] e:=⟨Way.nil y,he,fun _=>rfl,fun h=>absurd rfl h⟩
theorem Bi {w:List Nat} {c d:Nat} (h:w≠[]):(w++[c]).headD d=w.headD d:=by cases w with
 | nil=>exact absurd rfl h
 | cons a r=>rfl
theorem t_.turn {y w:List Nat} {e pl:Nat} (h:Yd y) (he:e∈y) (r:t_ y e w pl) (go:w=[]\/pl≠e):t_ y e (w++[qf y pl]) (aC (qf y pl)):=by
 have hm:=nU r.Lg
 by_cases z:w=[]
 ·have e1:=r.no z
  subst z
  exact ⟨Way.one hm,h.cl _ hm,fun q=>absurd q (by simp),fun _=>⟨by rw[<-e1];rfl,rfl⟩⟩
 ·obtain ⟨h1,h2⟩:=r.hd z
  have cP:=go.resolve_left z
  have e1:qf y pl=lH y (w.getLastD 0):=by rw[h2];rfl
  have hb:lH y (w.getLastD 0)≠w.headD 0:=fun q=>cP (zM h.nd r.Lg he (by rw[e1,q,h1]))
  rw[e1]
  refine ⟨r.way.more h z hb,h.cl _ (by rw[<-e1];exact hm),fun q=>absurd q (by simp),fun _=>⟨by rw[Bi z,h1],by rw[eS]⟩⟩
theorem t_.stop {y w:List Nat} {e:Nat} (h:Yd y) (r:t_ y e w e) (cP:w≠[]):qg (lH y) w/\aC e∈w:=by
 obtain ⟨h1,h2⟩:=r.hd cP
 have hl:w.getLastD 0∈w:=by
  rcases snoc_cases w with z | ⟨m,a,z⟩
  ·exact absurd z cP
  ·rw[z,eS];simp
 refine ⟨r.way.back cP ?_,?_⟩
 ·rw[h1];unfold lH;rw[<-h2]
 ·rw[h2,aH (h.lt _ (r.way.bo _ hl))];exact hl
structure h_ (y:List Nat) (i:Nat) (ws:List (List Nat)):Prop where
 Bh: ∀w∈ws,qg (lH y) w/\ ∀c∈w,c∈y
 JU:ws.Pairwise fun u v=> ∀c,c∈u->c∉v
 Rt: ∀e∈y.take i, ∃w∈ws,aC e∈w
 lU:ws.length<=i
theorem h_.start (y:List Nat):h_ y 0 []:=⟨fun _ h=>absurd h Xg,List.Pairwise.nil,fun _ h=>absurd h (by simp),SA _⟩
theorem h_.skip {y:List Nat} {i e:Nat} {ws:List (List Nat)} (r:h_ y i ws) (he:y[i]? =some e) (z: ∃w∈ws,aC e∈w):h_ y (i+1) ws:=
 ⟨r.Bh,r.JU,fun d hd=>by
  rw[<-take_snoc he]at hd
  rcases WJ.mp hd with q | q
  ·exact r.Rt d q
  ·rw[O8.mp q];exact z,Y1 r.lU⟩
theorem DA {y c:List Nat} {ws:List (List Nat)} {e:Nat} (h:Yd y) (Bh: ∀w∈ws,qg (lH y) w/\ ∀c∈w,c∈y) (JU:ws.Pairwise fun u v=> ∀c,c∈u->c∉v) (o:qg (lH y) c) (hc: ∀d∈c,d∈y) (he:e∈c) (no: ∀w∈ws,e∉w):(ws++[c]).Pairwise fun u v=> ∀c,c∈u->c∉v:=by
 rw[Ym]
 refine ⟨JU,List.pairwise_singleton _ _,fun u hu v hv d du dv=>?_⟩
 rw[O8.mp hv]at dv
 obtain ⟨ou,uy⟩:=Bh u hu
 exact no u hu (((ou.ring o du dv (fun d hd=>h.lt d (uy d hd)) (fun d hd=>h.lt d (hc d hd))).2 e).mpr he)
theorem h_.turn {y w:List Nat} {i e:Nat} {ws:List (List Nat)} (h:Yd y) (r:h_ y i ws) (he:y[i]? =some e) (no: ¬ ∃w∈ws,aC e∈w) (o:qg (lH y) w) (hw: ∀c∈w,c∈y) (hc:aC e∈w):h_ y (i+1) (ws++[w]):=by
 refine ⟨fun u hu=>?_,DA h r.Bh r.JU o hw hc fun u hu z=>no ⟨u,hu,z⟩,fun d hd=>?_,by rw[SD];exact Yi r.lU⟩
 ·rcases WJ.mp hu with q | q
  ·exact r.Bh u q
  ·rw[O8.mp q];exact ⟨o,hw⟩
 ·rw[<-take_snoc he]at hd
  rcases WJ.mp hd with q | q
  ·obtain ⟨u,hu,z⟩:=r.Rt d q
   exact ⟨u,X0 _ hu,z⟩
  ·rw[O8.mp q];exact ⟨w,by simp,hc⟩
theorem h_.done {y:List Nat} {ws:List (List Nat)} (h:Yd y) (r:h_ y y.length ws):Parts y ws:=⟨r.Bh,r.JU,fun c hc=>by
 obtain ⟨w,hw,z⟩:=r.Rt (aC c) (by rw[Yb];exact h.cl c hc)
 rw[aH (h.lt c hc)]at z
 exact ⟨w,hw,z⟩⟩
noncomputable def fA (y:List Nat):List Nat:=(y.filter aA).mergeSort fun a b=>decide (a<=b)
theorem jv (y:List Nat):(fA y).Perm (y.filter aA):=List.mergeSort_perm _ _
theorem vT (y:List Nat):(fA y).Pairwise (· <= ·):=
 (List.pairwise_mergeSort (le:=fun a b=>decide (a<=b)) (fun a b c h1 h2=>decide_eq_true (Xt (of_decide_eq_true h1) (of_decide_eq_true h2))) (fun a b=>by
  rcases Nat.le_total a b with z | z
  ·rw[decide_eq_true z];rfl
  ·rw[decide_eq_true z,Bool.or_true]) (y.filter aA)).imp fun z=>of_decide_eq_true z
theorem zP {y l:List Nat} (h:l.Perm (y.filter aA)) (p:l.Pairwise (· <= ·)):l=fA y:=A9 (h.trans (jv y).symm) p (vT y)
theorem DB {y:List Nat} (h:Yd y) {e:Nat} (he:e∈y):PyProof.Rows.lo1 e∈fA y:=by
 refine (jv y).mem_iff.mpr (Xk.mpr ?_)
 rcases h.lt e he with z | z
 ·rw[(aU e z).2.1];exact ⟨he,(aU e z).1⟩
 ·rw[(bE e z).2.1];exact ⟨h.cl e he,(aU _ (bE e z).2.2.2).1⟩
theorem i5 {y:List Nat} (h:Yd y):2*(fA y).length=y.length:=by rw[(jv y).length_eq];exact C7 h
structure Pr where
 t:Addr
 c:Nat
 i:Nat
noncomputable def rK (ps:List Pr):List V:=ps.map fun p=>V.ref p.t
theorem ua (ps:List Pr):(rK ps).length=ps.length:=by unfold rK;rw[K4]
theorem DC (a:List Pr) (p:Pr):rK a++[V.ref p.t]=rK (a++[p]):=by unfold rK;rw[WI];rfl
theorem GH (a:List Pr):(rK a).reverse=rK a.reverse:=by unfold rK;rw[YL]
theorem DD {ps:List Pr} {i:Nat} {x:V} (h:(rK ps)[i]? =some x): ∃p,ps[i]? =some p/\x=V.ref p.t:=by
 unfold rK at h
 rw[Xd]at h
 cases e:ps[i]? with
 | none=>rw[e]at h;cases h
 | some p=>rw[e]at h;cases h;exact ⟨p,rfl,rfl⟩
structure nk (H:Hp) (p:Pr):Prop where
 tp:H p.t=some (.tup [.int p.c, .int p.i])
 cz:p.c<1000
 iz:p.i<1000
theorem nk.same {H H':Hp} {p:Pr} (h:nk H p) (s:aq H H'):nk H' p:=⟨s _ _ h.tp,h.cz,h.iz⟩
structure Od where
 o:Addr
 ps:List Pr
structure Bj (H:Hp) (o:Od):Prop where
 tp:H o.o=some (.tup (rK o.ps))
 pr: ∀p∈o.ps,nk H p
 fw:o.ps.length<=100
theorem Bj.same {H H':Hp} {o:Od} (h:Bj H o) (s:aq H H'):Bj H' o:=⟨s _ _ h.tp,fun p hp=>(h.pr p hp).same s,h.fw⟩
noncomputable def GI (os:List Od):List V:=os.map fun o=>V.ref o.o
theorem DE (a:List Od) (p:Od):GI a++[V.ref p.o]=GI (a++[p]):=by unfold GI;rw[WI];rfl
theorem JW {os:List Od} {i:Nat} {o:Od} (h:os[i]? =some o):(GI os)[i]? =some (V.ref o.o):=by unfold GI;rw[Xd,h];rfl
structure x5 (H:Hp) (dr:Addr) (ws:List (List Nat)) (os:List Od):Prop where
 ex: ∃wt ot,H dr=some (.tup [.ref wt, .ref ot])/\H wt=some (.tup (dI ws))/\H ot=some (.tup (GI os))
 od: ∀o∈os,Bj H o
theorem x5.same {H H':Hp} {dr:Addr} {ws:List (List Nat)} {os:List Od} (h:x5 H dr ws os) (s:aq H H'):x5 H' dr ws os:=by
 obtain ⟨⟨wt,ot,h1,h2,h3⟩,g⟩:=h
 exact ⟨⟨wt,ot,s _ _ h1,s _ _ h2,s _ _ h3⟩,fun o ho=>(g o ho).same s⟩
noncomputable def x6 (y:List Nat) (os:List Od) (e:Nat):List Pr:=((os[(fA y).idxOf (PyProof.Rows.lo1 e)]?).map Od.ps).getD []
noncomputable def nW (y:List Nat) (os:List Od) (e:Nat):List Pr:=if isUp e=true then (x6 y os e).reverse else x6 y os e
theorem i6 {y:List Nat} {os:List Od} {e:Nat} (h:Yd y) (he:e∈y) (ho:2*os.length=y.length): ∃o∈os,os[(fA y).idxOf (PyProof.Rows.lo1 e)]? =some o/\x6 y os e=o.ps:=by
 have hi:=Uy (DB h he)
 have hl:=i5 h
 have Oi:(fA y).idxOf (PyProof.Rows.lo1 e)<os.length:=by omega
 exact ⟨os[(fA y).idxOf (PyProof.Rows.lo1 e)],Xp Oi,Jd Oi,by unfold x6;rw[Jd Oi];rfl⟩
structure Pt where
 t:Addr
 c:Nat
 i:Nat
 e:Nat
noncomputable def E9 (ps:List Pt):List V:=ps.map fun p=>V.ref p.t
theorem zQ (ps:List Pt):(E9 ps).length=ps.length:=by unfold E9;rw[K4]
theorem DF (a:List Pt) (p:Pt):E9 a++[V.ref p.t]=E9 (a++[p]):=by unfold E9;rw[WI];rfl
noncomputable def Pt.is (p:Pt):Nat×Nat×Nat:=(p.c,p.i,p.e)
structure qv (H:Hp) (p:Pt):Prop where
 tp:H p.t=some (.tup [.int p.c, .int p.i, .str (S [p.e])])
 cz:p.c<1000
 iz:p.i<1000
 ez:p.e<128
theorem qv.same {H H':Hp} {p:Pt} (h:qv H p) (s:aq H H'):qv H' p:=⟨s _ _ h.tp,h.cz,h.iz,h.ez⟩
theorem qv.upd {H:Hp} {p:Pt} {q:Addr} {o:HO} (h:qv H p) (n:p.t≠q):qv (L2.upd H q o) p:=⟨by rw[ay n];exact h.tp,h.cz,h.iz,h.ez⟩
noncomputable def ft (y:List Nat) (os:List Od) (e:Nat):List (Nat×Nat×Nat):=(nW y os e).map fun p=>(p.c,p.i,e)
noncomputable def kj (y:List Nat) (os:List Od):List (Nat×Nat×Nat):=y.flatMap (ft y os)
noncomputable def Pr.pair (p:Pr):Nat×Nat:=(p.c,p.i)
noncomputable def x8 (band l:Nat):Bool:=decide (l=band)||decide (l=aC band)
noncomputable def ie (band c:Nat) (w:List Nat) (n:Nat):List (Nat×Nat):=((List.range n).filter fun i=>x8 band (w.getD i 0)).map fun i=>(c,i)
noncomputable def cY (band:Nat) (ws:List (List Nat)) (n:Nat):List (Nat×Nat):=(List.range n).flatMap fun c=>ie band c (ws.getD c []) (ws.getD c []).length
theorem x9 {band c i l:Nat} {w:List Nat} (h:w[i]? =some l):ie band c w (i+1)=ie band c w i++if x8 band l=true then [(c,i)] else []:=by
 have e:w.getD i 0=l:=by rw[UC,h];rfl
 unfold ie
 rw[Yf,YA,WI]
 congr 1
 by_cases z:x8 band l=true
 ·rw[if_pos z,XC (by rw[e];exact z)];rfl
 ·rw[if_neg z,Xu (by rw[e];exact z)];rfl
theorem vU {band i:Nat} {ws:List (List Nat)} {w:List Nat} (h:ws[i]? =some w):cY band ws (i+1)=cY band ws i++ie band i w w.length:=by
 have e:ws.getD i []=w:=by rw[UC,h];rfl
 unfold cY
 rw[Yf,XU]
 congr 1
 rw[XE,Z6,Xy,e]
structure Oj (y:List Nat) (ws:List (List Nat)):Prop where
 lU:ws.length<=4
 all: ∀w∈ws,(∀c∈w,c∈y)/\w.length<=12
def vV (y:List Nat) (ws:List (List Nat)) (os:List Od):Prop:=os.length=(fA y).length/\ ∀(j:Nat) (o:Od) (b:Nat),os[j]? =some o->(fA y)[j]? =some b->(o.ps.map Pr.pair).Perm (cY b ws ws.length)
def jP (_:PySem.W.Frag):Sp:=fun vs H Q _=> ∃(y:List Nat) (dr:Addr) (ws:List (List Nat)) (os:List Od) (e:Nat),vs=[.str (S y), .ref dr, .str (S [e])]/\Yd y/\y.length<=8/\e∈y/\2*os.length=y.length/\x5 H dr ws os/\ ∀(q:Addr) (H':Hp),H q=none->H' q=some (.lst (rK (nW y os e)))->aq H H'->Q (.ref q) H'
theorem o6 {K:PySem.W.Frag} {vs:List V} {H:Hp} {Q:VK} {E:XK} (h:jP K vs H Q E):vs.length=3:=by obtain ⟨c,_,_,_,_,rfl,_⟩:=h;rfl
def rL (_:PySem.W.Frag):Sp:=fun vs H Q _=> ∃(y:List Nat) (dr:Addr) (ws:List (List Nat)) (os:List Od),vs=[.str (S y), .ref dr]/\Yd y/\y.length<=8/\2*os.length=y.length/\x5 H dr ws os/\ ∀(q:Addr) (ps:List Pt) (H':Hp),H q=none->H' q=some (.lst (E9 ps))->(∀p∈ps,qv H' p/\p.t≠q)->ps.map Pt.is=kj y os->ps.length<=800->aq H H'->Q (.ref q) H'
theorem x_ {K:PySem.W.Frag} {vs:List V} {H:Hp} {Q:VK} {E:XK} (h:rL K vs H Q E):vs.length=2:=by obtain ⟨c,_,_,_,rfl,_⟩:=h;rfl
theorem GJ {y:List Nat} {os:List Od} {e:Nat} {p:Pr} (h:Yd y) (he:e∈y) (ho:2*os.length=y.length) (hp:p∈nW y os e): ∃o∈os,p∈o.ps:=by
 obtain ⟨o,h1,h2,h3⟩:=i6 h he ho
 refine ⟨o,h1,?_⟩
 unfold nW at hp
 rw[h3]at hp
 split at hp
 ·exact Zw.mp hp
 ·exact hp
theorem GK {H:Hp} {y:List Nat} {os:List Od} {e:Nat} (h:Yd y) (he:e∈y) (ho:2*os.length=y.length) (hd: ∀o∈os,Bj H o):(nW y os e).length<=100:=by
 obtain ⟨o,h1,h2,h3⟩:=i6 h he ho
 have:=(hd o h1).fw
 unfold nW
 rw[h3]
 split
 ·rw[XA];exact this
 ·exact this
theorem nk.ts {H H':Hp} {p:Pr} (h:nk H p) (s:dY H H'):nk H' p:=⟨s _ _ h.tp,h.cz,h.iz⟩
theorem DG {band l:Nat} (hb:band∈aP) (hl:Lt l):decide (PyProof.Rows.lo1 l=band)=x8 band l:=by
 unfold x8
 rcases hl with h | h
 ·have e:=(aU l h).2.1
  have n:l≠aC band:=fun z=>lZ _ (aU band hb).2.2 (z▸h)
  rw[e,decide_eq_false n,Zt]
 ·have e:=(bE l h).2.1
  have n:l≠band:=fun z=>lZ l h (z▸hb)
  rw[e,decide_eq_false n,Zu]
  refine decide_eq_decide.mpr ⟨fun z=>by rw[<-z,aH (.inr h)],fun z=>by rw[z,aH (.inl hb)]⟩
theorem Vf {α:Type} {l:List α} (h:l.Nodup) {i j:Nat} (hi:i<l.length) (hj:j<l.length) (e:l[i]=l[j]):i=j:=by
 have hp:=Yt.mp h
 rcases Nat.lt_trichotomy i j with z | z | z
 ·exact absurd e (hp i j hi hj z)
 ·exact z
 ·exact absurd e.symm (hp j i hj hi z)
theorem rM {l:List (Nat×Nat×Nat)} (h:l.Nodup) {n:Nat} {p:Nat×Nat×Nat} (e:l[n]? =some p):l.idxOf p=n:=by
 obtain ⟨hn,e2⟩:=Je.mp e
 have hm:p∈l:=W9 e
 have hi:=Uy hm
 exact Vf h hi hn ((XF hi).trans e2.symm)
theorem o7 {α:Type} {f:Nat->List α} (g:α->Nat): ∀{l:List Nat},l.Nodup->(∀e∈l,(f e).Nodup)->(∀e∈l, ∀p∈f e,g p=e)->(l.flatMap f).Nodup
 | [],_,_,_=>Yy
 | a::l,hn,h1,h2=>by
  obtain ⟨n1,n2⟩:=Xw.mp hn
  rw[XE,X4]
  refine ⟨h1 a Uz,o7 g n2 (fun e he=>h1 e (UB _ he)) (fun e he=>h2 e (UB _ he)),fun x hx y hy z=>?_⟩
  subst z
  obtain ⟨e,he,Vg⟩:=XH.mp hy
  have g1:=h2 a Uz x hx
  have g2:=h2 e (UB _ he) x Vg
  exact n1 (by rw[<-g1,g2];exact he)
theorem DH (band c:Nat) (w:List Nat) (n:Nat):(ie band c w n).Nodup:=by
 unfold ie
 show (List.map _ _).Pairwise (· ≠ ·)
 rw[X9]
 exact (List.nodup_range.filter _).imp fun {i j} h z=>h (by cases z;rfl)
theorem rN (band:Nat) (ws:List (List Nat)) (n:Nat):(cY band ws n).Nodup:=
 o7 Prod.fst List.nodup_range (fun c _=>DH _ _ _ _) fun c _ p hp=>by
  unfold ie at hp
  obtain ⟨i,_,rfl⟩:=Xr.mp hp
  rfl
theorem yf {band c i n:Nat} {ws:List (List Nat)} (hc:c<n) (hi:i<(ws.getD c []).length) (hb:x8 band ((ws.getD c []).getD i 0)=true):(c,i)∈cY band ws n:=
 XH.mpr ⟨c,XX.mpr hc,Xr.mpr ⟨i,Xk.mpr ⟨XX.mpr hi,hb⟩,rfl⟩⟩
theorem vV.at {y:List Nat} {ws:List (List Nat)} {os:List Od} {e:Nat} (h:Yd y) (ho:vV y ws os) (he:e∈y):(((nW y os e).map Pr.pair)).Perm (cY (PyProof.Rows.lo1 e) ws ws.length):=by
 have hl:=i5 h
 have JX:=ho.1
 obtain ⟨o,o1,o2,o3⟩:=i6 (os:=os) h he (by omega)
 have hm:=DB h he
 have hb:(fA y)[(fA y).idxOf (PyProof.Rows.lo1 e)]? =some (PyProof.Rows.lo1 e):=by
  have hi:=Uy hm
  rw[Jd hi,XF hi]
 have p:=ho.2 _ o _ o2 hb
 unfold nW
 rw[o3]
 split
 ·rw[YL]
  exact (List.reverse_perm _).trans p
 ·exact p
theorem DI {y:List Nat} {ws:List (List Nat)} {os:List Od} (h:Yd y) (ho:vV y ws os):(kj y os).Nodup:=by
 refine o7 (fun p=>p.2.2) h.nd (fun e he=>?_) fun e _ p hp=>?_
 ·have hn:=(ho.at h he).nodup_iff.mpr (rN _ _ _)
  have e1:ft y os e=((nW y os e).map Pr.pair).map fun x=>(x.1,x.2,e):=by unfold ft;rw[X5];rfl
  rw[e1]
  show (List.map _ _).Pairwise (· ≠ ·)
  rw[X9]
  exact hn.imp fun {a b} g z=>g (by cases a;cases b;cases z;rfl)
 ·unfold ft at hp
  obtain ⟨x,_,rfl⟩:=Xr.mp hp
  rfl
theorem DJ {y:List Nat} {ws:List (List Nat)} {os:List Od} {c i l e:Nat} {w:List Nat} (h:Yd y) (ho:vV y ws os) (hw:ws[c]? =some w) (hl:w[i]? =some l) (BP:l∈y) (he:e=l\/e=aC l):(c,i,e)∈kj y os:=by
 have dz:=h.lt l BP
 have zR:e∈y:=by rcases he with rfl | rfl;exact BP;exact h.cl l BP
 have e1:PyProof.Rows.lo1 e=PyProof.Rows.lo1 l:=by
  rcases he with rfl | rfl
  ·rfl
  ·rcases dz with g | g
   ·rw[(bE _ (aU l g).2.2).2.1,(aU l g).2.1,aH (.inl g)]
   ·rw[(aU _ (bE l g).2.2.2).2.1,(bE l g).2.1]
 have hb:PyProof.Rows.lo1 l∈aP:=by
  rcases dz with g | g
  ·rw[(aU l g).2.1];exact g
  ·rw[(bE l g).2.1];exact (bE l g).2.2.2
 have Vh:x8 (PyProof.Rows.lo1 l) l=true:=by rw[<-DG hb dz];exact decide_eq_true rfl
 have d1:ws.getD c []=w:=by rw[UC,hw];rfl
 have d2:w.getD i 0=l:=by rw[UC,hl];rfl
 have hm:(c,i)∈(nW y os e).map Pr.pair:=by
  rw[(ho.at h zR).mem_iff,e1]
  exact yf (Je.mp hw).1 (by rw[d1];exact (Je.mp hl).1) (by rw[d1,d2];exact Vh)
 obtain ⟨p,hp,ep⟩:=Xr.mp hm
 refine XH.mpr ⟨e,zR,Xr.mpr ⟨p,hp,?_⟩⟩
 have e2:p.c=c:=congrArg Prod.fst ep
 have e3:p.i=i:=congrArg Prod.snd ep
 rw[e2,e3]
noncomputable def uc (p:Nat×Nat×Nat):List Key:=[Sum.inl (p.1:Int),Sum.inl (p.2.1:Int),Sum.inr (S [p.2.2])]
theorem DK {p q:Nat×Nat×Nat} (h:uc p=uc q):p=q:=by
 unfold uc at h
 injection h with h1 h2
 injection h2 with h2 h3
 injection h3 with h3 _
 have a1:(p.1:Int)=q.1:=Sum.inl.inj h1
 have a2:(p.2.1:Int)=q.2.1:=Sum.inl.inj h2
 have a3:[p.2.2]=[q.2.2]:=by
  have:=Sum.inr.inj h3
  rw[<-eJ [p.2.2],this,eJ]
 have a4:p.2.2=q.2.2:=by simpa using a3
 exact Prod.ext (by omega) (Prod.ext (by omega) a4)
def Nums (ps:List (Nat×Nat×Nat)) (aL:List (List Key×V)) (n:Nat):Prop:= ∀p∈ps.take n,cU aL (uc p)=some (.int (ps.idxOf p:Nat))
theorem Nums.put {ps:List (Nat×Nat×Nat)} {aL:List (List Key×V)} {n:Nat} {p:Nat×Nat×Nat} (h:Nums ps aL n) (hn:ps.Nodup) (e:ps[n]? =some p):Nums ps (putK aL (uc p) (.int (n:Nat))) (n+1):=fun r hr=>by
 rw[vn]
 by_cases z:r=p
 ·rw[if_pos (by rw[z]),z,rM hn e]
 ·rw[if_neg fun g=>z (DK g)]
  rw[<-take_snoc e]at hr
  exact h r ((WJ.mp hr).resolve_right fun g=>z (O8.mp g))
noncomputable def wL (n i:Nat):Nat:=if i=0 then n - 1 else i - 1
theorem yg {n i:Nat} (h:i<n):wL n i<n:=by unfold wL;split<;>omega
theorem zS {n i:Nat} (h:i<n):((i:Int) - 1)%(n:Int)=((wL n i:Nat):Int):=by
 unfold wL
 split
 ·rename_i z
  subst z
  have:((0:Nat):Int) - 1+(n:Int)=((n - 1:Nat):Int):=by omega
  rw[<-YB,this]
  exact Xv (by omega) (by omega)
 ·have:(i:Int) - 1=((i - 1:Nat):Int):=by omega
  rw[this]
  exact Xv (by omega) (by omega)
noncomputable abbrev C4:=Nat×Nat×Nat×Nat
noncomputable def gE (ps:List (Nat×Nat×Nat)) (c:Nat) (w:List Nat) (i:Nat):C4:=(c,i,ps.idxOf (c,wL w.length i,aC (w.getD (wL w.length i) 0)),ps.idxOf (c,i,w.getD i 0))
noncomputable def ml (ps:List (Nat×Nat×Nat)) (c:Nat) (w:List Nat) (n:Nat):List C4:=(List.range n).map (gE ps c w)
noncomputable def fZ (ps:List (Nat×Nat×Nat)) (ws:List (List Nat)) (n:Nat):List C4:=(List.range n).flatMap fun c=>ml ps c (ws.getD c []) (ws.getD c []).length
theorem vW (ps:List (Nat×Nat×Nat)) (c:Nat) (w:List Nat) (n:Nat):ml ps c w (n+1)=ml ps c w n++[gE ps c w n]:=by unfold ml;rw[Yf,WI];rfl
theorem ud {ps:List (Nat×Nat×Nat)} {ws:List (List Nat)} {i:Nat} {w:List Nat} (h:ws[i]? =some w):fZ ps ws (i+1)=fZ ps ws i++ml ps i w w.length:=by
 have e:ws.getD i []=w:=by rw[UC,h];rfl
 unfold fZ
 rw[Yf,XU]
 congr 1
 rw[XE,Z6,Xy,e]
structure Q4 where
 t:Addr
 v:C4
noncomputable def nq (qs:List Q4):List V:=qs.map fun q=>V.ref q.t
theorem zT (qs:List Q4):(nq qs).length=qs.length:=by unfold nq;rw[K4]
theorem DL (a:List Q4) (q:Q4):nq a++[V.ref q.t]=nq (a++[q]):=by unfold nq;rw[WI];rfl
theorem JY {qs:List Q4} {i:Nat} {x:V} (h:(nq qs)[i]? =some x): ∃q,qs[i]? =some q/\x=V.ref q.t:=by
 unfold nq at h
 rw[Xd]at h
 cases e:qs[i]? with
 | none=>rw[e]at h;cases h
 | some p=>rw[e]at h;cases h;exact ⟨p,rfl,rfl⟩
def qw (H:Hp) (q:Q4):Prop:=H q.t=some (.tup [.int q.v.1, .int q.v.2.1, .int q.v.2.2.1, .int q.v.2.2.2])
theorem qw.ts {H H':Hp} {q:Q4} (h:qw H q) (s:dY H H'):qw H' q:=s _ _ h
noncomputable def fL (y:List Nat) (ws:List (List Nat)) (os:List Od):List C4:=fZ (kj y os) ws ws.length
theorem Ol {y:List Nat} {os:List Od} {p:Pt} {ps:List Pt} (h:ps.map Pt.is=kj y os) {i:Nat} (hi:ps[i]? =some p):(kj y os)[i]? =some p.is:=by rw[<-h,Xd,hi];rfl
def gF (_:PySem.W.Frag):Sp:=fun vs H Q _=> ∃(w:List Nat) (c i:Nat),vs=[.str (S w), .int c, .int i]/\(∀l∈w,l<128)/\i<w.length/\w.length<=1000/\ ∀(t t1 t2:Addr) (H':Hp),H' t=some (.tup [.ref t1, .ref t2])->H' t1=some (.tup ((uc (c,wL w.length i,aC (w.getD (wL w.length i) 0))).map kV))->H' t2=some (.tup ((uc (c,i,w.getD i 0)).map kV))->aq H H'->Q (.ref t) H'
theorem kY {K:PySem.W.Frag} {vs:List V} {H:Hp} {Q:VK} {E:XK} (h:gF K vs H Q E):vs.length=3:=by obtain ⟨c,_,_,rfl,_⟩:=h;rfl
def o8 (_:PySem.W.Frag):Sp:=fun vs H Q _=> ∃(y:List Nat) (dr:Addr) (ws:List (List Nat)) (os:List Od),vs=[.str (S y), .ref dr]/\Yd y/\y.length<=8/\Oj y ws/\vV y ws os/\x5 H dr ws os/\ ∀(q:Addr) (qs:List Q4) (H':Hp),H q=none->H' q=some (.lst (nq qs))->(∀x∈qs,qw H' x)->qs.map Q4.v=fL y ws os->aq H H'->Q (.ref q) H'
theorem vX {K:PySem.W.Frag} {vs:List V} {H:Hp} {Q:VK} {E:XK} (h:o8 K vs H Q E):vs.length=2:=by obtain ⟨c,_,_,_,rfl,_⟩:=h;rfl
theorem GL {y:List Nat} {os:List Od} {i m e:Nat} {p:Pr} (he:y[i]? =some e) (hp:(nW y os e)[m]? =some p):(kj y os)[((y.take i).flatMap (ft y os)).length+m]? =some (p.c,p.i,e):=by
 obtain ⟨hi,e1⟩:=Je.mp he
 have hy:y=y.take i++e::y.drop (i+1):=by
  rw[<-e1, <-X1 hi,XT]
 have h1:kj y os=(y.take i).flatMap (ft y os)++(ft y os e++(y.drop (i+1)).flatMap (ft y os)):=by
  unfold kj
  conv=>lhs;arg 2;rw[hy]
  rw[XU,XE]
 have h2:(ft y os e)[m]? =some (p.c,p.i,e):=by unfold ft;rw[Xd,hp];rfl
 rw[h1,XY (Nat.le_add_right _ _),Nat.add_sub_cancel_left,XG (Je.mp h2).1]
 exact h2
structure DM (y:List Nat) (ws:List (List Nat)) (L:Nat->Bool) (r:Nat->Nat) (M:Nat) (os:List Od):Prop where
 ok:vV y ws os
 asc: ∀o∈os,(o.ps.map Pr.pair).Pairwise fun s t=>bI (cB y ws L r M s.1 s.2) (cB y ws L r M t.1 t.2)=true
theorem yh: ∀c∈aP++j8,PyProof.Rows.lo1 (aC c)=PyProof.Rows.lo1 c/\isUp c=!aA c:=by decide+kernel
theorem Bk {α:Type} {y:List Nat} (F:Nat->List α) {k k' e:Nat} (he:y[k]? =some e) (h:k<k'):((y.take k).flatMap F).length+(F e).length<=((y.take k').flatMap F).length:=by
 have e1:(y.take k').take (k+1)=y.take (k+1):=by rw[List.take_take,X6 (by omega)]
 have e2:y.take k'=y.take (k+1)++(y.take k').drop (k+1):=by rw[<-e1,XT]
 rw[e2,XU,SD, <-take_snoc he,XU,SD]
 simp
theorem mq {y:List Nat} {ws:List (List Nat)} {os:List Od} (hy:Yd y) (ho:vV y ws os) (hs: ∀c,c<ws.length->SW y (ws.getD c [])) {c i e:Nat} (hc:c<ws.length) (hi:i<(ws.getD c []).length) (he:e=rd (ws.getD c []) i\/e=aC (rd (ws.getD c []) i)):
  e∈y/\ ∃(m:Nat) (p:Pr),(nW y os e)[m]? =some p/\p.pair=(c,i)/\(kj y os).idxOf (c,i,e)=((y.take (y.idxOf e)).flatMap (ft y os)).length+m:=by
 have hw:=hs c hc
 have ey:e∈y:=he.elim (fun z=>z▸hw.rd _) fun z=>z▸hy.cl _ (hw.rd _)
 have rO:=DJ hy ho (c:=c) (i:=i) (l:=rd (ws.getD c []) i) (e:=e) (w:=ws.getD c []) (by rw[UC,Jd hc];rfl) (g6 hi) (hw.rd _) he
 unfold kj at rO
 obtain ⟨e',BO,hp⟩:=XH.mp rO
 unfold ft at hp
 obtain ⟨p,nX,jF⟩:=Xr.mp hp
 obtain ⟨q1,Tb⟩:=Prod.mk.inj jF
 obtain ⟨q2,q3⟩:=Prod.mk.inj Tb
 clear Tb
 subst q3
 obtain ⟨m,hm,em⟩:=YS nX
 have Lh:(nW y os e')[m]? =some p:=by rw[Jd hm,em]
 refine ⟨ey,m,p,Lh,by unfold Pr.pair;rw[q1,q2],?_⟩
 have hk:y[y.idxOf e']? =some e':=by rw[Jd (Uy ey),XF]
 have:=GL (os:=os) hk Lh
 rw[q1,q2]at this
 exact rM (DI hy ho) this
theorem DN (y:List Nat) (os:List Od) (e:Nat):(ft y os e).length=(nW y os e).length:=by unfold ft;rw[K4]
theorem DO {l:List Pr} {y:List Nat} {ws:List (List Nat)} {L:Nat->Bool} {r:Nat->Nat} {M:Nat} (h:(l.map Pr.pair).Pairwise fun s t=>bI (cB y ws L r M s.1 s.2) (cB y ws L r M t.1 t.2)=true) {m n c i d j:Nat} {p q:Pr} (hp:l[m]? =some p) (hq:l[n]? =some q) (ep:p.pair=(c,i)) (eq:q.pair=(d,j)) (cP:(c,i)≠(d,j)):
  m≠n/\decide (m<n)=bI (cB y ws L r M c i) (cB y ws L r M d j):=by
 have Pl:m≠n:=fun z=>cP (by rw[z,hq]at hp;rw[<-ep, <-eq,Xa hp])
 obtain ⟨hm,em⟩:=Je.mp hp
 obtain ⟨hn,en⟩:=Je.mp hq
 refine ⟨Pl,?_⟩
 have key:=Yt.mp h
 by_cases z:m<n
 ·have:=key m n (by rw[K4];exact hm) (by rw[K4];exact hn) z
  rw[Zx,Zx,em,en,ep,eq]at this
  rw[decide_eq_true z]
  exact this.symm
 ·have:=key n m (by rw[K4];exact hn) (by rw[K4];exact hm) (by omega)
  rw[Zx,Zx,em,en,ep,eq]at this
  rw[decide_eq_false z]
  exact (md this).1.symm
theorem zU {α:Type} {l:List α} {m:Nat} {p:α} (h:l.reverse[m]? =some p):m<l.length/\l[l.length - 1 - m]? =some p:=by
 obtain ⟨hm,_⟩:=Je.mp h
 rw[XA]at hm
 rw[Y7 hm]at h
 exact ⟨hm,h⟩
theorem lies_of {y:List Nat} {ws:List (List Nat)} {L:Nat->Bool} {r:Nat->Nat} {M:Nat} {os:List Od} (hy:Yd y) (hs: ∀c,c<ws.length->SW y (ws.getD c [])) (h:DM y ws L r M os):Lies y ws L r M fun c i e=>(kj y os).idxOf (c,i,e):=by
 have ol:2*os.length=y.length:=by rw[h.ok.1];exact i5 hy
 refine ⟨fun c i d j e e' hc hd hi hj he BO dz=>?_,fun c i d j x hc hd hi hj cP hx ND Vi=>?_⟩
 ·obtain ⟨ey,m,p,hm,_,e1⟩:=mq hy h.ok hs hc hi he
  obtain ⟨WL,m',p',Lh,_,e2⟩:=mq hy h.ok hs hd hj BO
  rw[e1,e2]
  have hk:y[y.idxOf e]? =some e:=by rw[Jd (Uy ey),XF]
  have:=Bk (ft y os) hk dz
  rw[DN]at this
  have E5:=(Je.mp hm).1
  omega
 ·have lc:Lt (rd (ws.getD c []) i):=hy.lt _ ((hs c hc).rd _)
  have ld:Lt (rd (ws.getD d []) j):=hy.lt _ ((hs d hd).rd _)
  have vi:(x=rd (ws.getD c []) i\/x=aC (rd (ws.getD c []) i))/\(aC x=rd (ws.getD c []) i\/aC x=aC (rd (ws.getD c []) i))/\Lt x:=by
   rcases ND with z | z
   ·exact ⟨.inl z.symm, .inr (by rw[z]),z▸lc⟩
   ·have Vj:x<128/\x∈aP:=by
     have h9:97<=x/\x<=122:=by unfold aA at hx;simpa using hx
     refine ⟨by omega,?_⟩
     have: ∀k,k<26->k+97∈aP:=by decide
     have h8:=this (x - 97) (by omega)
     rwa [show x - 97+97=x by omega]at h8
    have lx:Lt x:= .inl Vj.2
    exact ⟨.inr (by rw[z,aH lx]), .inl z.symm,lx⟩
  have lx:=vi.2.2
  have vj:(x=rd (ws.getD d []) j\/x=aC (rd (ws.getD d []) j))/\(aC x=rd (ws.getD d []) j\/aC x=aC (rd (ws.getD d []) j)):=by
   rcases Vi with z | z
   ·exact ⟨.inl z.symm, .inr (by rw[z])⟩
   ·exact ⟨.inr (by rw[z,aH lx]), .inl z.symm⟩
  obtain ⟨xy,m,p,hm,ep,e1⟩:=mq hy h.ok hs hc hi vi.1
  obtain ⟨_,n,q,hn,eq,e2⟩:=mq hy h.ok hs hd hj vj.1
  obtain ⟨_,m',p',Lh,MN,Ct⟩:=mq hy h.ok hs hc hi vi.2.1
  obtain ⟨_,n',q',OY,Vk,JZ⟩:=mq hy h.ok hs hd hj vj.2
  obtain ⟨o,Tc,_,eo⟩:=i6 hy xy ol
  have Vl:isUp x=false:=by rw[(yh x lx.mem).2,hx];rfl
  have up1:isUp (aC x)=true:=by rw[(yh _ lx.aC.mem).2,fz x lx.mem,hx];rfl
  have s0:nW y os x=o.ps:=by unfold nW;rw[Vl,if_neg (by decide),eo]
  have s1:nW y os (aC x)=o.ps.reverse:=by
   unfold nW
   rw[up1,if_pos rfl]
   have:x6 y os (aC x)=x6 y os x:=by unfold x6;rw[(yh x lx.mem).1]
   rw[this,eo]
  rw[s0]at hm hn
  rw[s1]at Lh OY
  obtain ⟨b1,E5⟩:=zU Lh
  obtain ⟨b2,w4⟩:=zU OY
  have k1:=DO (h.asc o Tc) hm hn ep eq cP
  have k2:=DO (h.asc o Tc) E5 w4 MN Vk cP
  rw[e1,e2,Ct,JZ]
  refine ⟨by omega,by omega,?_,?_⟩
  ·rw[<-k1.2];exact decide_eq_decide.mpr (by omega)
  ·rw[<-k2.2];exact decide_eq_decide.mpr (by omega)
noncomputable def nY (st:Nat->Nat) (T R:List Nat):List Nat:=T.filter fun x=>R.any fun e=>decide (st e=x)
noncomputable def Bl (st:Nat->Nat) (T R:List Nat) (p:Nat):Nat:=if st p=p then 0 else ((nY st T (p::R)).filter fun x=>decide (st p<x)).length
noncomputable def E_ (st:Nat->Nat):List Nat->List Nat->Nat
 | _,[]=>0
 | T,p::R=>Bl st T R p+E_ st (T++[p]) R
structure DP (ch:List (Nat×Nat)) (st:Nat->Nat) (P:List Nat):Prop where
 lt: ∀x∈ch,x.1<x.2
 nd:(ch.flatMap fun x=>[x.1,x.2]).Nodup
 pm:P.Perm (ch.flatMap fun x=>[x.1,x.2])
 up:P.Pairwise (· < ·)
 st: ∀x∈ch,st x.1=x.1/\st x.2=x.1
section
variable {ch:List (Nat×Nat)} {st:Nat->Nat} {P:List Nat}
theorem DP.pt (h:DP ch st P) {p:Nat} (hp:p∈P): ∃x∈ch,p=x.1\/p=x.2:=by
 obtain ⟨x,hx,e⟩:=XH.mp (h.pm.mem_iff.mp hp)
 exact ⟨x,hx,by simpa using e⟩
theorem DP.in1 (h:DP ch st P) {x:Nat×Nat} (hx:x∈ch):x.1∈P/\x.2∈P:=⟨h.pm.mem_iff.mpr (XH.mpr ⟨x,hx,by simp⟩),h.pm.mem_iff.mpr (XH.mpr ⟨x,hx,by simp⟩)⟩
theorem vY: ∀{ch:List (Nat×Nat)},(ch.flatMap fun x=>[x.1,x.2]).Nodup-> ∀x∈ch, ∀z∈ch,(x.1=z.1\/x.2=z.2\/x.1=z.2)->x=z
 | [],_,x,hx,_,_,_=>absurd hx Xg
 | a::r,nd,x,hx,z,hz,e=>by
  rw[XE,X4]at nd
  obtain ⟨n1,n2,n3⟩:=nd
  have inr: ∀z∈r,z.1∈r.flatMap (fun x=>[x.1,x.2])/\z.2∈r.flatMap (fun x=>[x.1,x.2]):=fun z hz=>⟨XH.mpr ⟨z,hz,by simp⟩,XH.mpr ⟨z,hz,by simp⟩⟩
  have a12:a.1≠a.2:=by
   rw[Xw]at n1
   simpa using n1.1
  rcases WG.mp hx with rfl | yV<;>rcases WG.mp hz with rfl | Li
  ·rfl
  ·exfalso
   rcases e with e | e | e
   ·exact n3 x.1 (by simp) z.1 (inr z Li).1 e
   ·exact n3 x.2 (by simp) z.2 (inr z Li).2 e
   ·exact n3 x.1 (by simp) z.2 (inr z Li).2 e
  ·exfalso
   rcases e with e | e | e
   ·exact n3 z.1 (by simp) x.1 (inr x yV).1 e.symm
   ·exact n3 z.2 (by simp) x.2 (inr x yV).2 e.symm
   ·exact n3 z.2 (by simp) x.1 (inr x yV).1 e.symm
  ·exact vY n2 x yV z Li e
theorem DQ (h:DP ch st P) {T R:List Nat} {p:Nat} (e:P=T++p::R) (hs:st p=p):nY st (T++[p]) R=nY st T (p::R)++[p]:=by
 obtain ⟨x,hx,hp⟩:=h.pt (p:=p) (by rw[e];simp)
 have J0:p=x.1:=hp.elim id fun z=>by rw[z,(h.st x hx).2]at hs;rw[z, <-hs]
 have up:=h.up
 rw[e,Ym,Yk]at up
 obtain ⟨u1,⟨u2,u3⟩,u4⟩:=up
 have hR:x.2∈R:=by
  have:=(h.in1 hx).2
  rw[e]at this
  rcases WJ.mp this with q | q
  ·have:=u4 _ q p Uz
   have:=h.lt x hx
   omega
  ·rcases WG.mp q with q | q
   ·have:=h.lt x hx
    omega
   ·exact q
 unfold nY
 rw[YA]
 congr 1
 ·refine ZY fun z hz=>?_
  rw[Yq,decide_eq_false (fun q=>by have:=u4 z hz p Uz;omega),Zu]
 ·have:(R.any fun e=>decide (st e=p))=true:=List.any_eq_true.mpr ⟨x.2,hR,decide_eq_true (by rw[(h.st x hx).2,J0])⟩
  rw[XC (p:=fun x=>R.any fun e=>decide (st e=x)) this]
  rfl
theorem erase_filter {s:Nat} {p q:Nat->Bool}: ∀{T:List Nat},T.Nodup->q s=true->p s=false->(∀x,x≠s->q x=p x)->(T.filter q).erase s=T.filter p
 | [],_,_,_,_=>rfl
 | a::T,nd,hq,hp,h=>by
  rw[Xw]at nd
  by_cases z:a=s
  ·subst z
   rw[XC hq,List.erase_cons_head,Xu (by rw[hp];decide)]
   exact ZY fun x hx=>h x fun q=>nd.1 (q▸hx)
  ·have ih:=erase_filter nd.2 hq hp h
   cases e:p a
   ·rw[Xu (by rw[h a z,e];decide),Xu (by rw[e];decide)]
    exact ih
   ·rw[XC (by rw[h a z,e]),XC e,List.erase_cons_tail (by simpa using z),ih]
theorem J1 (h:DP ch st P) {T R:List Nat} {p:Nat} (e:P=T++p::R) (hs:st p≠p):nY st (T++[p]) R=(nY st T (p::R)).erase (st p)/\st p∈nY st T (p::R):=by
 obtain ⟨x,hx,hp⟩:=h.pt (p:=p) (by rw[e];simp)
 have J0:p=x.2:=hp.elim (fun z=>absurd (by rw[z,(h.st x hx).1]) hs) id
 have mO:st p=x.1:=by rw[J0,(h.st x hx).2]
 have up:=h.up
 rw[e,Ym,Yk]at up
 obtain ⟨u1,⟨u2,u3⟩,u4⟩:=up
 have only: ∀z∈R,st z≠x.1:=fun z hz q=>by
  obtain ⟨v,hv,NQ⟩:=h.pt (p:=z) (by rw[e];simp[hz])
  have WM:=u2 z hz
  rcases NQ with r | r
  ·rw[r,(h.st v hv).1]at q
   have:=vY h.nd v hv x hx (.inl q)
   subst this
   have:=h.lt v hv
   omega
  ·rw[r,(h.st v hv).2]at q
   have:=vY h.nd v hv x hx (.inl q)
   subst this
   omega
 have none: ∀z∈R,st z≠p:=fun z hz q=>by
  obtain ⟨v,hv,NQ⟩:=h.pt (p:=z) (by rw[e];simp[hz])
  have:st z=v.1:=NQ.elim (fun r=>by rw[r,(h.st v hv).1]) fun r=>by rw[r,(h.st v hv).2]
  rw[this,J0]at q
  have:=vY h.nd v hv x hx (.inr (.inr q))
  subst this
  have:=h.lt v hv
  omega
 have hT:x.1∈T:=by
  have:=(h.in1 hx).1
  rw[e]at this
  have l:=h.lt x hx
  rcases WJ.mp this with q | q
  ·exact q
  ·rcases WG.mp q with q | q
   ·omega
   ·have:=u2 _ q
    omega
 have nd:T.Nodup:=Z1 (fun h=>Xm h) u1
 have hq:((p::R).any fun e=>decide (st e=x.1))=true:=by rw[Yq,decide_eq_true mO];rfl
 refine ⟨?_,?_⟩
 ·rw[mO]
  unfold nY
  rw[YA,Xu (by
   rw[Bool.not_eq_true,Z0]
   exact fun z hz=>by simpa using none z hz),List.filter_nil,Xy]
  refine (erase_filter nd hq ?_ fun z hz=>?_).symm
  ·rw[Z0]
   exact fun z hz=>by simpa using only z hz
  ·rw[Yq,decide_eq_false (by rw[mO];exact Ne.symm hz),Zu]
 ·rw[mO]
  exact Xk.mpr ⟨hT,hq⟩
noncomputable def jw (x z:Nat×Nat):Bool:=decide (x.1<z.1)&&(decide (z.1<x.2)&&decide (x.2<z.2))
theorem DR (h:DP ch st P) {T R:List Nat} {x:Nat×Nat} (hx:x∈ch) (e:P=T++x.2::R):Bl st T R x.2=(ch.filter (jw x)).length:=by
 have l:=h.lt x hx
 have mO:=(h.st x hx).2
 have up:=h.up
 rw[e,Ym,Yk]at up
 obtain ⟨u1,⟨u2,u3⟩,u4⟩:=up
 unfold Bl
 rw[if_neg (by omega),mO, <-K4 (as:=ch.filter (jw x)) (f:=Prod.fst)]
 refine List.Perm.length_eq ((List.perm_ext_iff_of_nodup ?_ ?_).mpr fun a=>?_)
 ·exact (Z1 (fun h=>Xm h) ((u1.filter _).filter _))
 ·have nd:(ch.map Prod.fst).Nodup:=by
   have: ∀{ch:List (Nat×Nat)},(ch.flatMap fun x=>[x.1,x.2]).Nodup->(ch.map Prod.fst).Nodup:=fun {ch}=>by
    induction ch with
    | nil=>exact fun _=>List.Pairwise.nil
    | cons a r ih=>
     intro nd
     rw[XE,X4]at nd
     rw[Xl,Xw]
     refine ⟨fun q=>?_,ih nd.2.1⟩
     obtain ⟨z,hz,ez⟩:=Xr.mp q
     exact nd.2.2 a.1 (by simp) z.1 (XH.mpr ⟨z,hz,by simp⟩) ez.symm
   exact this h.nd
  exact List.Nodup.sublist (List.Sublist.map _ List.filter_sublist) nd
 ·rw[Xk,Xr]
  unfold nY
  rw[Xk,decide_eq_true_iff,List.any_eq_true]
  constructor
  ·rintro ⟨⟨a1,p,hp,ep⟩,a2⟩
   have ep:=of_decide_eq_true ep
   obtain ⟨z,hz,Ru⟩:=h.pt (p:=p) (by rw[e];exact Xj _ hp)
   have:st p=z.1:=Ru.elim (fun r=>by rw[r,(h.st z hz).1]) fun r=>by rw[r,(h.st z hz).2]
   rw[this]at ep
   have ax:=u4 a a1 x.2 Uz
   have pz:p=z.2:=Ru.elim (fun r=>by
    have:=u4 a a1 p hp
    omega) id
   have px:x.2<p:=by
    rcases WG.mp hp with q | q
    ·rw[q]at pz
     have:=vY h.nd x hx z hz (.inr (.inl pz))
     subst this
     omega
    ·exact u2 p q
   refine ⟨z,Xk.mpr ⟨hz,?_⟩,ep⟩
   unfold jw
   rw[XZ,XZ,decide_eq_true_iff,decide_eq_true_iff,decide_eq_true_iff]
   omega
  ·rintro ⟨z,hz,rfl⟩
   obtain ⟨hz,q⟩:=Xk.mp hz
   unfold jw at q
   rw[XZ,XZ,decide_eq_true_iff,decide_eq_true_iff,decide_eq_true_iff]at q
   have i1:=(h.in1 hz).1
   have i2:=(h.in1 hz).2
   rw[e]at i1 i2
   refine ⟨⟨?_,z.2,?_,decide_eq_true (h.st z hz).2⟩,q.1⟩
   ·rcases WJ.mp i1 with r | r
    ·exact r
    ·rcases WG.mp r with r | r
     ·omega
     ·have:=u2 _ r;omega
   ·rcases WJ.mp i2 with r | r
    ·have:=u4 _ r x.2 Uz;omega
    ·exact r
theorem DS (h:DP ch st P): ∀(R T:List Nat),P=T++R->E_ st T R=(R.map fun p=>if st p=p then 0 else (ch.filter (jw (st p,p))).length).sum
 | [],_,_=>rfl
 | p::R,T,e=>by
  rw[Xl,Yx, <-DS h R (T++[p]) (by rw[e];simp)]
  show Bl st T R p+_=_
  congr 1
  by_cases z:st p=p
  ·rw[if_pos z];unfold Bl;rw[if_pos z]
  ·rw[if_neg z]
   obtain ⟨x,hx,hp⟩:=h.pt (p:=p) (by rw[e];simp)
   have J0:p=x.2:=hp.elim (fun q=>absurd (by rw[q,(h.st x hx).1]) z) id
   have mO:st p=x.1:=by rw[J0,(h.st x hx).2]
   rw[mO]
   subst J0
   exact DR h hx e
theorem J2 (h:DP ch st P):E_ st [] P=(ch.map fun x=>(ch.filter (jw x)).length).sum:=by
 rw[DS h P [] rfl,(h.pm.map _).sum_nat]
 have: ∀l:List (Nat×Nat),(∀x∈l,x∈ch)->(((l.flatMap fun x=>[x.1,x.2]).map fun p=>if st p=p then 0 else (ch.filter (jw (st p,p))).length).sum)=(l.map fun x=>(ch.filter (jw x)).length).sum:=fun l hl=>by
  induction l with
  | nil=>rfl
  | cons a r ih=>
   have ha:=h.st a (hl a Uz)
   have la:=h.lt a (hl a Uz)
   rw[XE,WI,List.sum_append_nat,ih fun x hx=>hl x (UB _ hx),Xl,Yx]
   congr 1
   show (if st a.1=a.1 then 0 else _)+((if st a.2=a.2 then 0 else (ch.filter (jw (st a.2,a.2))).length)+0)=_
   rw[if_pos ha.1,if_neg (by omega),ha.2,ZC,Nat.add_zero]
 exact this ch fun x hx=>hx
theorem Bm {α:Type} (X:α->α->Bool) (hd: ∀x,X x x=false) (ha: ∀x z,X x z=true->X z x=false): ∀l:List α,(l.map fun x=>(l.filter (X x)).length).sum=cl (fun x z=>X x z||X z x) l:=fun l=>by
 have key: ∀(a:α) (l:List α),((l.filter fun z=>X a z||X z a)).length=(l.filter (X a)).length+(l.map fun z=>if X z a=true then 1 else 0).sum:=fun a l=>by
  induction l with
  | nil=>rfl
  | cons b r ih=>
   have:=ha a b
   simp only[List.filter_cons,Xl,Yx]
   cases e1:X a b<;>cases e2:X b a
   ·simp[ih]
   ·simp[ih];omega
   ·simp[ih];omega
   ·rw[this e1]at e2;cases e2
 induction l with
 | nil=>rfl
 | cons a r ih=>
  show (((a::r).map fun x=>((a::r).filter (X x)).length).sum)=(r.filter fun z=>X a z||X z a).length+cl _ r
  rw[Xl,Yx,Xu (by rw[hd a];decide),key a r, <-ih]
  have e: ∀l:List α,(l.map fun x=>((a::r).filter (X x)).length).sum=(l.map fun z=>if X z a=true then 1 else 0).sum+(l.map fun x=>(r.filter (X x)).length).sum:=fun l=>by
   induction l with
   | nil=>rfl
   | cons b l Vm=>
    rw[Xl,Yx,Vm,Xl,Yx,Xl,Yx]
    cases e1:X b a
    ·rw[Xu (by rw[e1];decide)]
     simp;omega
    ·rw[XC e1]
     simp;omega
  rw[e r]
  omega
theorem Om (h:DP ch st P):E_ st [] P=cl (fun x z=>jw x z||jw z x) ch:=by
 rw[J2 h,Bm]
 ·intro x;unfold jw;rw[decide_eq_false (XN _)];rfl
 ·intro x z q
  unfold jw at q ⊢
  rw[XZ,XZ,decide_eq_true_iff,decide_eq_true_iff,decide_eq_true_iff]at q
  rw[decide_eq_false (by omega)]
  rfl
end
noncomputable def HX (p q:Nat):Int:=if (q:Int)<p then q else p
noncomputable def dF (cs:List C4):List Nat:=cs.flatMap fun x=>[x.2.2.1,x.2.2.2]
noncomputable def fU (cs:List C4):List (Key×V):=cs.flatMap fun x=>[(Sum.inl (x.2.2.1:Int),V.int (HX x.2.2.1 x.2.2.2)),(Sum.inl (x.2.2.2:Int),V.int (HX x.2.2.1 x.2.2.2))]
noncomputable def jQ (cs:List C4):List (Nat×Nat):=cs.map fun x=>(min x.2.2.1 x.2.2.2,max x.2.2.1 x.2.2.2)
theorem gG: ∀cs:List C4,(fU cs).map (·.1)=(dF cs).map fun n:Nat=>(Sum.inl (n:Int):Key)
 | []=>rfl
 | x::r=>by
  unfold fU dF
  rw[XE,XE,WI,WI]
  exact congrArg _ (gG r)
theorem vZ {aL:List (Key×V)} {k:Key} (h:k∉aL.map (·.1)):cU aL k=none:=by
 induction aL with
 | nil=>rfl
 | cons a r ih=>
  rw[Xl,WG,not_or]at h
  rw[cn (fun e=>h.1 e.symm),ih h.2]
theorem DT {aL:List (Key×V)} (nd:(aL.map (·.1)).Nodup) {k:Key} {v:V} (h:(k,v)∈aL):cU aL k=some v:=by
 induction aL with
 | nil=>exact absurd h Xg
 | cons a r ih=>
  rw[Xl,Xw]at nd
  rcases WG.mp h with e | e
  ·subst e;exact cG rfl
  ·rw[cn (fun z=>nd.1 (Xr.mpr ⟨_,e,z.symm⟩))]
   exact ih nd.2 e
theorem J3: ∀{l:List Nat},l.Nodup->(l.map fun n:Nat=>(Sum.inl (n:Int):Key)).Nodup:=fun {l} h=>X9.mpr (h.imp fun tF z=>tF (by have:=Sum.inl.inj z;omega))
noncomputable def ins (l:List Nat):List V:=l.map fun n=>V.int (n:Nat)
theorem kZ (l:List Nat):(ins l).length=l.length:=by unfold ins;rw[K4]
theorem DU (l:List Nat) (n:Nat):ins l++[V.int (n:Nat)]=ins (l++[n]):=by unfold ins;rw[WI];rfl
theorem DV {l:List Nat} {i n:Nat} (h:l[i]? =some n):(ins l)[i]? =some (V.int (n:Nat)):=by unfold ins;rw[Xd,h];rfl
def ig (_:PySem.W.Frag):Sp:=fun vs H Q _=> ∃(a:Addr) (qs:List Q4),vs=[.ref a]/\H a=some (.lst (nq qs))/\(∀x∈qs,qw H x)/\qs.length<=1000/\(dF (qs.map Q4.v)).Nodup/\ ∀d H',H d=none->H' d=some (.dK (fU (qs.map Q4.v)))->aq H H'->Q (.ref d) H'
theorem mr {K:PySem.W.Frag} {vs:List V} {H:Hp} {Q:VK} {E:XK} (h:ig K vs H Q E):vs.length=1:=by obtain ⟨_,_,rfl,_⟩:=h;rfl
def k_ (_:PySem.W.Frag):Sp:=fun vs H Q _=> ∃(a:Addr) (l:List Nat) (p:Nat),vs=[.ref a, .int p]/\H a=some (.lst (ins l))/\l.Pairwise (· < ·)/\p∈l/\l.length<=100000/\Q (.int (l.idxOf p:Nat)) H
theorem qx {K:PySem.W.Frag} {vs:List V} {H:Hp} {Q:VK} {E:XK} (h:k_ K vs H Q E):vs.length=2:=by obtain ⟨_,_,_,rfl,_⟩:=h;rfl
def f_ (_:PySem.W.Frag):Sp:=fun vs H Q _=> ∃(a:Addr) (qs:List Q4),vs=[.ref a]/\H a=some (.lst (nq qs))/\(∀x∈qs,qw H x)/\qs.length<=24/\(dF (qs.map Q4.v)).Nodup/\ ∀H',aq H H'->Q (.int (cl (fun x z=>jw x z||jw z x) (jQ (qs.map Q4.v)):Nat)) H'
theorem kc {K:PySem.W.Frag} {vs:List V} {H:Hp} {Q:VK} {E:XK} (h:f_ K vs H Q E):vs.length=1:=by obtain ⟨_,_,rfl,_⟩:=h;rfl
theorem Bn (cs:List C4) (x:C4):dF (cs++[x])=dF cs++[x.2.2.1,x.2.2.2]:=by unfold dF;rw[XU,Y3]
theorem Bo (cs:List C4) (x:C4):fU (cs++[x])=fU cs++[(Sum.inl (x.2.2.1:Int),V.int (HX x.2.2.1 x.2.2.2)),(Sum.inl (x.2.2.2:Int),V.int (HX x.2.2.1 x.2.2.2))]:=by unfold fU;rw[XU,Y3]
theorem v7 (cs:List C4):(fU cs).length=2*cs.length:=by
 induction cs with
 | nil=>rfl
 | cons x r ih=>
  unfold fU at ih ⊢
  rw[XE,SD,ih,XB]
  show 2+2*r.length=2*(r.length+1)
  omega
theorem GN {cs:List C4} {x:C4} (nd:(dF (cs++[x])).Nodup):putK (putK (fU cs) (Sum.inl (x.2.2.1:Int)) (V.int (HX x.2.2.1 x.2.2.2))) (Sum.inl (x.2.2.2:Int)) (V.int (HX x.2.2.1 x.2.2.2))=fU (cs++[x]):=by
 rw[Bn,X4]at nd
 obtain ⟨n1,n2,n3⟩:=nd
 have k: ∀n:Nat,n∉dF cs->(Sum.inl (n:Int):Key)∉(fU cs).map (·.1):=fun n hn z=>by
  rw[gG]at z
  obtain ⟨m,hm,e⟩:=Xr.mp z
  have:m=n:=by have:=Sum.inl.inj e;omega
  exact hn (this▸hm)
 have h1:x.2.2.1∉dF cs:=fun z=>n3 _ z _ (by simp) rfl
 have h2:x.2.2.2∉dF cs:=fun z=>n3 _ z _ (by simp) rfl
 have h3:x.2.2.1≠x.2.2.2:=by
  rw[Xw]at n2
  simpa using n2.1
 rw[vp _ (vZ (k _ h1)),vp,Bo,Xx]
 ·rfl
 ·refine vZ fun z=>?_
  rw[WI,WJ]at z
  rcases z with z | z
  ·exact k _ h2 z
  ·have:=Sum.inl.inj (O8.mp z)
   omega
noncomputable def cD (cs:List C4) (p:Nat):Nat:=(((cU (fU cs) (Sum.inl (p:Int))).map fun v=>match v with | .int i=>i.toNat | _=>0).getD 0)
theorem DW (p q:Nat):HX p q=(min p q:Nat):=by unfold HX;split<;>omega
theorem HY {cs:List C4} (nd:(dF cs).Nodup) {x:C4} (hx:x∈cs):(cU (fU cs) (Sum.inl (x.2.2.1:Int))=some (.int (min x.2.2.1 x.2.2.2:Nat))/\cU (fU cs) (Sum.inl (x.2.2.2:Int))=some (.int (min x.2.2.1 x.2.2.2:Nat)))/\cD cs x.2.2.1=min x.2.2.1 x.2.2.2/\cD cs x.2.2.2=min x.2.2.1 x.2.2.2:=by
 have kn:((fU cs).map (·.1)).Nodup:=by rw[gG];exact J3 nd
 have e1:cU (fU cs) (Sum.inl (x.2.2.1:Int))=some (.int (min x.2.2.1 x.2.2.2:Nat)):=by
  rw[<-DW]
  exact DT kn (XH.mpr ⟨x,hx,by simp⟩)
 have e2:cU (fU cs) (Sum.inl (x.2.2.2:Int))=some (.int (min x.2.2.1 x.2.2.2:Nat)):=by
  rw[<-DW]
  exact DT kn (XH.mpr ⟨x,hx,by simp⟩)
 refine ⟨⟨e1,e2⟩,?_,?_⟩
 ·unfold cD;rw[e1];exact UA _
 ·unfold cD;rw[e2];exact UA _
theorem zV (cs:List C4):((jQ cs).flatMap fun x=>[x.1,x.2]).Perm (dF cs):=by
 induction cs with
 | nil=>exact .nil
 | cons x r ih=>
  unfold jQ dF at ih ⊢
  rw[Xl,XE,XE]
  refine List.Perm.append ?_ ih
  show [min x.2.2.1 x.2.2.2,max x.2.2.1 x.2.2.2].Perm [x.2.2.1,x.2.2.2]
  by_cases z:x.2.2.1<=x.2.2.2
  ·rw[X6 z,YJ z]
  ·rw[X7 (by omega),YD (by omega)]
   exact List.Perm.swap _ _ _
theorem J4 {cs:List C4} {P:List Nat} (nd:(dF cs).Nodup) (hp:P.Perm (dF cs)) (up:P.Pairwise (· < ·)):DP (jQ cs) (cD cs) P:=by
 refine ⟨fun x hx=>?_,((zV cs).nodup_iff).mpr nd,hp.trans (zV cs).symm,up,fun x hx=>?_⟩
 ·obtain ⟨c,hc,rfl⟩:=Xr.mp hx
  have cP:c.2.2.1≠c.2.2.2:=fun z=>by
   have: ∀{cs:List C4},(dF cs).Nodup-> ∀c∈cs,c.2.2.1≠c.2.2.2:=fun {cs}=>by
    induction cs with
    | nil=>exact fun _ _ h=>absurd h Xg
    | cons a r ih=>
     intro nd c hc
     unfold dF at nd
     rw[XE,X4]at nd
     rcases WG.mp hc with e | e
     ·subst e
      have:=nd.1
      rw[Xw]at this
      simpa using this.1
     ·exact ih nd.2.1 c e
   exact this nd c hc z
  show min c.2.2.1 c.2.2.2<max c.2.2.1 c.2.2.2
  omega
 ·obtain ⟨c,hc,rfl⟩:=Xr.mp hx
  obtain ⟨_,e1,e2⟩:=HY nd hc
  show cD cs (min c.2.2.1 c.2.2.2)=min c.2.2.1 c.2.2.2/\cD cs (max c.2.2.1 c.2.2.2)=min c.2.2.1 c.2.2.2
  by_cases z:c.2.2.1<=c.2.2.2
  ·rw[X6 z,YJ z]at*
   exact ⟨e1,e2⟩
  ·rw[X7 (by omega),YD (by omega)]at*
   exact ⟨e2,e1⟩
theorem DX {l:List Nat} {p:Nat} (h:p∈l):l.eraseIdx (l.idxOf p)=l.erase p:=(List.erase_eq_eraseIdx_of_idxOf rfl).symm
theorem behind {l:List Nat} (up:l.Pairwise (· < ·)) {p:Nat} (h:p∈l):(l.erase p).length - l.idxOf p=(l.filter fun x=>decide (p<x)).length:=by
 induction l with
 | nil=>exact absurd h Xg
 | cons a r ih=>
  rw[Yk]at up
  by_cases z:a=p
  ·subst z
   rw[List.erase_cons_head,List.idxOf_cons_self,Xu (by simp),List.filter_eq_self.mpr (fun x hx=>decide_eq_true (up.1 x hx))]
   rfl
  ·have hr:=(WG.mp h).resolve_left (Ne.symm z)
   rw[List.erase_cons_tail (by simpa using z),j_,if_neg z,Xu (by
    have:=up.1 p hr
    simp;omega), <-ih up.2 hr,XB]
   omega
theorem J5 {st:Nat->Nat} {P T R:List Nat} (h:P.Pairwise (· < ·)) (e:P=T++R) (R':List Nat):(nY st T R').Pairwise (· < ·):=by
 rw[e,Ym]at h
 exact h.1.filter _
theorem GO {st:Nat->Nat} {T R:List Nat}:(nY st T R).length<=T.length:=X_ _ _
theorem J6 {cs:List C4} (nd:(dF cs).Nodup) {p:Nat} (hp:p∈dF cs):cU (fU cs) (Sum.inl (p:Int))=some (.int (cD cs p:Nat)):=by
 unfold dF at hp
 obtain ⟨x,hx,e⟩:=XH.mp hp
 obtain ⟨⟨e1,e2⟩,e3,e4⟩:=HY nd hx
 have e':p=x.2.2.1\/p=x.2.2.2:=by simpa using e
 rcases e' with rfl | rfl
 ·rw[e1,e3]
 ·rw[e2,e4]
theorem yi {ms:List Int} {l:List Nat} (nd:l.Nodup) (hp:ms.Perm (l.map fun n:Nat=>(n:Int))) (hw:ms.Pairwise fun a b=> ¬b<a): ∃P:List Nat,ms.map V.int=ins P/\P.Perm l/\P.Pairwise (· < ·):=by
 have rO: ∀m∈ms, ∃n:Nat,m=n:=fun m hm=>by
  obtain ⟨n,_,rfl⟩:=Xr.mp (hp.mem_iff.mp hm)
  exact ⟨n,rfl⟩
 have e1:ms=(ms.map Int.toNat).map fun n:Nat=>(n:Int):=by
  rw[X5]
  refine (Zm ms).symm.trans (Zg fun m hm=>?_)
  obtain ⟨n,rfl⟩:=rO m hm
  exact (congrArg _ (UA n)).symm
 have p1:(ms.map Int.toNat).Perm l:=by
  have:=hp.map Int.toNat
  rw[X5]at this
  have e2:l.map (Int.toNat ∘ fun n:Nat=>(n:Int))=l:=(Zg fun n _=>UA n).trans (Zm l)
  rwa [e2]at this
 refine ⟨ms.map Int.toNat,?_,p1,?_⟩
 ·unfold ins
  conv=>lhs;rw[e1]
  rw[X5]
  rfl
 ·have Pe:(ms.map Int.toNat).Nodup:=p1.nodup_iff.mpr nd
  have Oo:(ms.map Int.toNat).Pairwise fun a b=> ¬b<a:=by
   rw[e1,X9]at hw
   exact hw.imp fun h z=>h (by omega)
  refine Z1 (fun {a b} h=>?_) (List.Pairwise.and Oo Pe)
  have:=h.1
  have:=h.2
  omega
theorem DY {st:Nat->Nat} {P:List Nat} {k p:Nat} (h:P[k]? =some p):E_ st (P.take k) (P.drop k)=Bl st (P.take k) (P.drop (k+1)) p+E_ st (P.take (k+1)) (P.drop (k+1)):=by
 obtain ⟨hk,e⟩:=Je.mp h
 rw[X1 hk,e]
 show Bl st _ _ p+E_ st (P.take k++[p]) _=_
 rw[take_snoc h]
theorem Oq {n k:Nat} (h:k<n):seqIndex? (k:Int) n=some k:=by
 unfold seqIndex?
 simp
 omega
theorem rP: ∀(l:List Nat) (k:Nat),(ins l).eraseIdx k=ins (l.eraseIdx k)
 | [],_=>rfl
 | _::_,0=>rfl
 | a::l,k+1=>congrArg (V.int (a:Nat):: ·) (rP l k)
noncomputable def cst (y w:List Nat) (i:Int):Int:=ni y (aC (rd w (i - 1))) (rd w i)
theorem DZ (y w:List Nat) (p k:Int):dP y (sq w p) k=cst y w (p+k):=by
 unfold dP cst sq
 rw[show p+(k - 1)=p+k - 1 by omega]
noncomputable def wM (n:Int):Nat:=(48+n).toNat
noncomputable def stx (y w:List Nat):List Nat:=(List.range w.length).map fun i:Nat=>wM (cst y w i)
theorem di (y w:List Nat):(stx y w).length=w.length:=by unfold stx;rw[K4,Zn]
theorem J9: ∀n:Nat,n<10->dg n=[48+n]:=by decide+kernel
noncomputable def i7 (lg n:Nat):Nat:=3+lg / max n 1
noncomputable def mw (y u:List Nat) (lg r:Nat):List (Str×V):=dQ "backward" (.str (S (dH (i7 lg u.length) (stx y u).reverse))) (dQ "onward" (.str (S (dH (i7 lg u.length) (stx y u)))) (dQ "leads" (.bl (leads u)) (dQ "root_size" (.int r) (dQ "size" (.int u.length) []))))
noncomputable def HZ (t w:Addr) (p:Nat):List (Str×V):=dQ "place" (.int p) (dQ "way" (.ref w) (dQ "strand" (.ref t) []))
section
variable {y u:List Nat} {lg r:Nat} {t w:Addr} {p:Nat}
theorem zW:(mw y u lg r).lookup ("size":Str)=some (.int u.length):=by
 unfold mw
 rw[aK,if_neg (by decide+kernel),aK,if_neg (by decide+kernel),aK,if_neg (by decide+kernel),aK,if_neg (by decide+kernel),aK,if_pos rfl]
theorem nZ:(mw y u lg r).lookup ("root_size":Str)=some (.int r):=by
 unfold mw
 rw[aK,if_neg (by decide+kernel),aK,if_neg (by decide+kernel),aK,if_neg (by decide+kernel),aK,if_pos rfl]
theorem D0:(mw y u lg r).lookup ("leads":Str)=some (.bl (leads u)):=by
 unfold mw
 rw[aK,if_neg (by decide+kernel),aK,if_neg (by decide+kernel),aK,if_pos rfl]
theorem Ot:(mw y u lg r).lookup ("onward":Str)=some (.str (S (dH (i7 lg u.length) (stx y u)))):=by
 unfold mw
 rw[aK,if_neg (by decide+kernel),aK,if_pos rfl]
theorem GP:(mw y u lg r).lookup ("backward":Str)=some (.str (S (dH (i7 lg u.length) (stx y u).reverse))):=by
 unfold mw
 rw[aK,if_pos rfl]
theorem lh:(HZ t w p).lookup ("place":Str)=some (.int p):=by unfold HZ;rw[aK,if_pos rfl]
theorem mz:(HZ t w p).lookup ("way":Str)=some (.ref w):=by unfold HZ;rw[aK,if_neg (by decide+kernel),aK,if_pos rfl]
theorem rQ:(HZ t w p).lookup ("strand":Str)=some (.ref t):=by unfold HZ;rw[aK,if_neg (by decide+kernel),aK,if_neg (by decide+kernel),aK,if_pos rfl]
end
theorem cZ (f:Str) (v:V): ∀fs:List (Str×V),(dQ f v fs).length<=fs.length+1
 | []=>SA _
 |(g,x)::r=>by
  unfold dQ
  split
  ·exact Yp _
  ·exact Yi (cZ f v r)
structure Sn where
 a:Addr
 t:Addr
 wy:Addr
 c:Nat
 i:Nat
 u:List Nat
 p:Nat
 r:Nat
structure Bp (H:Hp) (C a:Addr) (y u:List Nat) (lg r:Nat):Prop where
 ob: ∃dx,H a=some (.ins C dx (mw y u lg r))
 sw:SW y u
 uz:u.length<=lg
 lz:lg<=1000
 rt:bR u r
theorem Bp.same {H H':Hp} {C a:Addr} {y u:List Nat} {lg r:Nat} (h:Bp H C a y u lg r) (s:aq H H'):Bp H' C a y u lg r:=by
 obtain ⟨dx,e⟩:=h.ob
 exact ⟨⟨dx,s _ _ e⟩,h.sw,h.uz,h.lz,h.rt⟩
structure i8 (H:Hp) (CW CS:Addr) (y:List Nat) (lg:Nat) (s:Sn):Prop where
 ob: ∃dx,H s.a=some (.ins CS dx (HZ s.t s.wy s.p))
 st:H s.t=some (.tup [.int s.c, .int s.i])
 wy:Bp H CW s.wy y s.u lg s.r
 pz:s.p<s.u.length
theorem i8.same {H H':Hp} {CW CS:Addr} {y:List Nat} {lg:Nat} {s:Sn} (h:i8 H CW CS y lg s) (sm:aq H H'):i8 H' CW CS y lg s:=by
 obtain ⟨dx,e⟩:=h.ob
 exact ⟨⟨dx,sm _ _ e⟩,sm _ _ h.st,h.wy.same sm,h.pz⟩
noncomputable def BQ (y:List Nat) (lg:Nat) (s:Sn):List Nat:=(dH (i7 lg s.u.length) (stx y s.u)).drop (s.p+1)
noncomputable def BR (y:List Nat) (lg:Nat) (s:Sn):List Nat:=(dH (i7 lg s.u.length) (stx y s.u).reverse).drop (s.u.length - 1 - s.p)
noncomputable def seg (l:List Nat) (x z:Nat):List Nat:=(l.drop x).take (z - x)
def ik (_:PySem.W.Frag):Sp:=fun vs H Q _=> ∃(y w:List Nat) (i:Nat),vs=[.str (S y), .str (S w), .int i]/\Yd y/\y.length<=8/\SW y w/\w.length<=1000/\i<w.length/\ ∀(n:Nat) H',cst y w i=n->n<8->aq H H'->Q (.int n) H'
theorem mB {K:PySem.W.Frag} {vs:List V} {H:Hp} {Q:VK} {E:XK} (h:ik K vs H Q E):vs.length=3:=by obtain ⟨_,_,_,rfl,_⟩:=h;rfl
def v8 (_:PySem.W.Frag) (C:Addr):Sp:=fun vs H Q _=> ∃(x dx:Addr) (y w:List Nat) (lg:Nat),vs=[.ref x, .str (S y), .str (S w), .int lg]/\H x=some (.ins C dx [])/\Yd y/\y.length<=8/\SW y w/\w.length<=lg/\lg<=1000/\ ∀(r:Nat) H',bR w r->H' x=some (.ins C dx (mw y w lg r))->aW x H H'->Q .fE H'
theorem Bq {K:PySem.W.Frag} {C:Addr} {vs:List V} {H:Hp} {Q:VK} {E:XK} (h:v8 K C vs H Q E):vs.length=4:=by obtain ⟨_,_,_,_,_,rfl,_⟩:=h;rfl
def rR (_:PySem.W.Frag) (C:Addr):Sp:=fun vs H Q _=> ∃(x dx t w:Addr) (p:Nat),vs=[.ref x, .ref t, .ref w, .int p]/\H x=some (.ins C dx [])/\ ∀H',H' x=some (.ins C dx (HZ t w p))->aW x H H'->Q .fE H'
theorem yj {K:PySem.W.Frag} {C:Addr} {vs:List V} {H:Hp} {Q:VK} {E:XK} (h:rR K C vs H Q E):vs.length=4:=by obtain ⟨_,_,_,_,_,rfl,_⟩:=h;rfl
def fM (_:PySem.W.Frag) (CW CS:Addr):Sp:=fun vs H Q _=> ∃(y:List Nat) (lg:Nat) (s:Sn) (x z:Nat),vs=[.ref s.a, .int x, .int z]/\y.length<=8/\i8 H CW CS y lg s/\x<=z/\Q (.str (S (seg (BQ y lg s) x z))) H
theorem ny {K:PySem.W.Frag} {CW CS:Addr} {vs:List V} {H:Hp} {Q:VK} {E:XK} (h:fM K CW CS vs H Q E):vs.length=3:=by obtain ⟨_,_,_,_,_,rfl,_⟩:=h;rfl
def gj (_:PySem.W.Frag) (CW CS:Addr):Sp:=fun vs H Q _=> ∃(y:List Nat) (lg:Nat) (s:Sn) (x z:Nat),vs=[.ref s.a, .int x, .int z]/\y.length<=8/\i8 H CW CS y lg s/\x<=z/\Q (.str (S (seg (BR y lg s) x z))) H
theorem o9 {K:PySem.W.Frag} {CW CS:Addr} {vs:List V} {H:Hp} {Q:VK} {E:XK} (h:gj K CW CS vs H Q E):vs.length=3:=by obtain ⟨_,_,_,_,_,rfl,_⟩:=h;rfl
theorem GQ {l:List Nat} {a b:Nat} (h:a<=b):cut l (some (a:Int)) (some (b:Int))=(l.drop a).take (b - a):=by
 unfold cut
 rw[HT.fV,HT.fV]
 by_cases z:a<=l.length
 ·rw[X6 z]
  by_cases z2:b<=l.length
  ·rw[X6 z2]
  ·rw[X7 (by omega),Xo (by rw[Xn];omega),Xo (by rw[Xn];omega)]
 ·rw[X7 (by omega),X7 (by omega),X8 (SA _),X8 (by omega)]
  simp
theorem zX {l:List Nat} {f x z:Nat} (h:x<=z):cut l (some ((f:Int)+x)) (some ((f:Int)+z))=seg (l.drop f) x z:=by
 rw[show (f:Int)+x=((f+x:Nat):Int) by omega,show (f:Int)+z=((f+z:Nat):Int) by omega,GQ (by omega)]
 unfold seg
 rw[List.drop_drop,show f+z - (f+x)=z - x by omega]
theorem lj {lg n:Nat} (h:1<=n):n*i7 lg n<=3*n+lg/\2*n+lg<n*i7 lg n:=by
 unfold i7
 rw[YD h,Nat.mul_add]
 have h1:=Ze lg n
 have h2:=YH lg (show 0<n by omega)
 omega
theorem rS (m:Nat) (l:List Nat):(dH m l).length=l.length*m:=by
 unfold dH
 rw[List.length_flatten,List.map_replicate,List.sum_replicate_nat,Yw]
theorem SW.bP {y w:List Nat} (hy:Yd y) (h:SW y w):My.bP w=b9 w:=by unfold My.bP;rw[h.core hy]
theorem ue (l:List Nat) (x z j:Nat):(seg l x z)[j]? =if j<z - x then l[x+j]? else none:=by
 unfold seg
 rw[YU]
 split
 ·rw[Yl]
 ·rfl
theorem yk {l m:List Nat} {x z:Nat}:seg l x (x+z)=seg m x (x+z)↔ ∀k,x<=k->k<x+z->l[k]? =m[k]?:= by
 constructor
 ·intro h k h1 h2
  have:=congrArg (·[k - x]?) h
  simp only[ue]at this
  rwa [if_pos (by omega),if_pos (by omega),show x+(k - x)=k by omega]at this
 ·intro h
  refine ZZ fun j=>?_
  rw[ue,ue]
  by_cases z':j<x+z - x
  ·rw[if_pos z',if_pos z',h (x+j) (by omega) (by omega)]
  ·rw[if_neg z',if_neg z']
noncomputable def J_ (b:Bool) (y:List Nat) (lg:Nat) (s:Sn):List Nat:=if b=true then BQ y lg s else BR y lg s
def i9 (l m:List Nat) (n:Nat):Prop:= ∀k,k<n->l[k]? =m[k]?
def o_ (_:PySem.W.Frag) (CW CS fa fb:Addr):Sp:=fun vs H Q _=> ∃(y:List Nat) (lg:Nat) (s t:Sn) (b:Bool) (en:Nat),vs=[.ref (if b=true then fa else fb), .ref s.a, .ref t.a, .int en]/\y.length<=8/\i8 H CW CS y lg s/\i8 H CW CS y lg t/\en<=100000/\ ∀m:Nat,i9 (J_ b y lg s) (J_ b y lg t) m->(en<=m\/(J_ b y lg s)[m]?≠ (J_ b y lg t)[m]?)->Q (.int m) H
theorem v9 {K:PySem.W.Frag} {CW CS fa fb:Addr} {vs:List V} {H:Hp} {Q:VK} {E:XK} (h:o_ K CW CS fa fb vs H Q E):vs.length=4:=by obtain ⟨_,_,_,_,_,_,rfl,_⟩:=h;rfl
theorem i9.more {l m:List Nat} {x z:Nat} (h:i9 l m x) (e:seg l x (x+z)=seg m x (x+z)):i9 l m (x+z):=fun k hk=>by
 by_cases q:k<x
 ·exact h k q
 ·exact yk.mp e k (by omega) hk
theorem D1 {l m:List Nat} {x z:Nat} (h:seg l x (x+z)≠seg m x (x+z)): ∃k,x<=k/\k<x+z/\l[k]?≠ m[k]?:= Classical.byContradiction fun q=>h (yk.mpr fun k h1 h2=>Classical.byContradiction fun r=>q ⟨k,h1,h2,r⟩)
noncomputable def yl (s:Sn):Int×Int:=if leads s.u=true then ((s.c:Int),((s.p / s.r:Nat):Int)) else (-(s.c:Int), -(((s.u.length - 1 - s.p) / s.r:Nat):Int))
def ph (_:PySem.W.Frag) (CW CS:Addr):Sp:=fun vs H Q _=> ∃(y:List Nat) (lg:Nat) (s:Sn),vs=[.ref s.a]/\i8 H CW CS y lg s/\ ∀p H',H p=none->H' p=some (.tup [.int (yl s).1, .int (yl s).2])->aq H H'->Q (.ref p) H'
theorem v_ {K:PySem.W.Frag} {CW CS:Addr} {vs:List V} {H:Hp} {Q:VK} {E:XK} (h:ph K CW CS vs H Q E):vs.length=1:=by obtain ⟨_,_,_,rfl,_⟩:=h;rfl
noncomputable def jH (y:List Nat) (M:Nat) (s:Sn):List Int:=kk y (sq s.u s.p) 0 M++[(yl s).1,(yl s).2]
def i_ (_:PySem.W.Frag) (CW CS:Addr):Sp:=fun vs H Q _=> ∃(y:List Nat) (lg:Nat) (s t:Sn),vs=[.ref s.a, .ref t.a]/\Yd y/\y.length<=8/\i8 H CW CS y lg s/\i8 H CW CS y lg t/\rd s.u s.p=rd t.u t.p/\ ∀H',aq H H'->Q (.bl (bI (jH y (2*lg) s) (jH y (2*lg) t))) H'
theorem nz {K:PySem.W.Frag} {CW CS:Addr} {vs:List V} {H:Hp} {Q:VK} {E:XK} (h:i_ K CW CS vs H Q E):vs.length=2:=by obtain ⟨_,_,_,_,rfl,_⟩:=h;rfl
theorem ja {u:List Nat} {r:Nat} (hn:u≠[]) (h:bR u r):1<=r/\r<=u.length:=by
 rcases h with ⟨z,_⟩ | ⟨h1,h2,_⟩
 ·exact absurd z hn
 ·exact ⟨h1,h2⟩
theorem zY {y u:List Nat} {i:Nat} (h:i<u.length):(stx y u)[i]? =some (wM (cst y u i)):=by
 unfold stx
 rw[Xd,List.getElem?_range h]
 rfl
theorem uf (y u:List Nat) (i:Int):cst y u (i%u.length)=cst y u i:=by
 unfold cst
 rw[fj, <-fj u (i%u.length - 1),Z3,YI _ (Z5 _), <-Z3,fj]
theorem D4 {y:List Nat} {lg:Nat} {s:Sn} (hn:s.u≠[]) {k:Nat} (h:s.p+1+k<s.u.length*i7 lg s.u.length):(BQ y lg s)[k]? =some (wM (dP y (sq s.u s.p) (k+1))):=by
 have hp:=SE.mpr hn
 unfold BQ
 rw[Yl,kR _ _ _ (by rw[di,Yw];exact h),di,zY (YH _ hp),DZ,Y9,uf]
 congr 3
 omega
theorem D5 {y:List Nat} {lg:Nat} {s:Sn} (hn:s.u≠[]) (hp:s.p<s.u.length) {k:Nat} (h:s.u.length - 1 - s.p+k<s.u.length*i7 lg s.u.length):(BR y lg s)[k]? =some (wM (dP y (sq s.u s.p) (-(k:Int)))):=by
 have hl:=SE.mpr hn
 unfold BR
 rw[Yl,kR _ _ _ (by rw[XA,di,Yw];exact h),XA,di]
 have hm:=YH (s.u.length - 1 - s.p+k) hl
 rw[Y7 (by rw[di];exact hm),di,zY (by omega),DZ]
 congr 2
 rw[<-uf y s.u (s.p+ -(k:Int)), <-uf y s.u ((s.u.length - 1 - (s.u.length - 1 - s.p+k)%s.u.length:Nat):Int)]
 congr 1
 have e:((s.u.length - 1 - (s.u.length - 1 - s.p+k)%s.u.length:Nat):Int)=(s.u.length:Int) - 1 - ((s.u.length:Int) - 1 - s.p+k)%s.u.length:=by
  have:(((s.u.length - 1 - s.p+k)%s.u.length:Nat):Int)=((s.u.length:Int) - 1 - s.p+k)%s.u.length:=by
   rw[Y9];congr 1;omega
  omega
 rw[e,Z3,YI _ (Z5 _), <-Z3]
 congr 1
 omega
theorem rT {lg:Nat} {s:Sn} {en:Nat} (hp:s.p<s.u.length) (he:en<=s.u.length+lg):s.p+1+en<s.u.length*i7 lg s.u.length+1/\s.u.length - 1 - s.p+en<s.u.length*i7 lg s.u.length:=by
 have:=(lj (lg:=lg) (n:=s.u.length) (by omega)).2
 omega
theorem zZ {u:List Nat} {r:Nat} (hn:u≠[]) (h:bR u r) (p k:Int):sq u p (k+r)=sq u p k:=by
 have:=((gC hn h).2 (p+r) p).mpr (by rw[show p+(r:Int) - p=r by omega,ZR])
 have e:=this k
 unfold sq at e ⊢
 rw[show p+(k+r)=p+r+k by omega]
 exact e
theorem z4 {a b:Int} (ha:0<=a) (hb:0<=b) (h:wM a=wM b):a=b:=by unfold wM at h;omega
theorem D6 {a b:Int} (ha:0<=a) (hb:0<=b):wM a<wM b↔a<b:=by unfold wM;omega
theorem z5 {y:List Nat} {f:Int->Nat} (hy:Yd y) (h:gi y f) (k:Int):0<=dP y f k:=by
 have:=(cK (hy.cl _ (h.bo (k - 1))) (h.bo k) (Ne.symm (h.red k))).1
 unfold dP
 omega
theorem z6 {l m:List Nat} {en a n:Nat} (ha:a<en) (h1: ∀k,k<a->l[k]? =m[k]?) (h2:l[a]?≠ m[a]?) (g1:i9 l m n) (g2:en<=n\/l[n]?≠ m[n]?):n=a:=by
 by_cases z:a<n
 ·exact absurd (g1 a z) h2
 ·by_cases z2:n<a
  ·rcases g2 with g2 | g2
   ·omega
   ·exact absurd (h1 n z2) g2
  ·omega
theorem z7 {l m:List Nat} {en n:Nat} (h1: ∀k,k<en->l[k]? =m[k]?) (g2:en<=n\/l[n]?≠ m[n]?):en<=n:=by
 rcases g2 with g2 | g2
 ·exact g2
 ·exact Classical.byContradiction fun z=>g2 (h1 n (by omega))
theorem n5 {l:List Nat} {a x:Nat} (h:l[a]? =some x):seg l a (a+1)=[x]:=by
 obtain ⟨ha,e⟩:=Je.mp h
 unfold seg
 rw[X1 ha,e,show a+1 - a=1 by omega]
 rfl
theorem D7 (x z:Nat):decide ([x]<[z])=decide (x<z):=decide_eq_decide.mpr ⟨fun h=>(ZL.mp h).elim id fun q=>absurd q.2 (Y2 _),fun h=>ZL.mpr (.inl h)⟩
theorem GR (a b c d:Int):E4 a b c d=bI [a,b] [c,d]:=by
 unfold E4
 show _=if a=c then (if b=d then bI [] [] else decide (b<d)) else decide (a<c)
 by_cases z:a=c
 ·rw[if_pos z,if_pos z]
  by_cases q:b=d
  ·rw[if_pos q,q];simp[bI]
  ·rw[if_neg q]
 ·rw[if_neg z,if_neg z]
noncomputable def z9 (ss:List Sn):List V:=ss.map fun s=>V.ref s.a
theorem lq (ss:List Sn):(z9 ss).length=ss.length:=by unfold z9;rw[K4]
theorem Ka {ss:List Sn} {i:Nat} {s:Sn} (h:ss[i]? =some s):(z9 ss)[i]? =some (V.ref s.a):=by unfold z9;rw[Xd,h];rfl
theorem GS {ss:List Sn} {i:Nat} {x:V} (h:(z9 ss)[i]? =some x): ∃s,ss[i]? =some s/\x=V.ref s.a:=by
 unfold z9 at h
 rw[Xd]at h
 cases e:ss[i]? with
 | none=>rw[e]at h;cases h
 | some p=>rw[e]at h;cases h;exact ⟨p,rfl,rfl⟩
def Br (y:List Nat) (M:Nat) (ss:List Sn):Prop:=ss.Pairwise fun s t=>bI (jH y M t) (jH y M s)=false
def il (_:PySem.W.Frag) (CW CS:Addr):Sp:=fun vs H Q _=> ∃(y:List Nat) (lg:Nat) (a:Addr) (ss:List Sn) (t:Sn),vs=[.ref a, .ref t.a]/\Yd y/\y.length<=8/\H a=some (.lst (z9 ss))/\(∀s∈ss,i8 H CW CS y lg s/\rd s.u s.p=rd t.u t.p)/\i8 H CW CS y lg t/\Br y (2*lg) ss/\ss.length<=100000/\
 ∀(n:Nat) H',n<=ss.length->(∀k s,ss[k]? =some s->k<n->bI (jH y (2*lg) s) (jH y (2*lg) t)=true)->(∀k s,ss[k]? =some s->n<=k->bI (jH y (2*lg) s) (jH y (2*lg) t)=false)->aq H H'->Q (.int n) H'
theorem mC {K:PySem.W.Frag} {CW CS:Addr} {vs:List V} {H:Hp} {Q:VK} {E:XK} (h:il K CW CS vs H Q E):vs.length=2:=by obtain ⟨_,_,_,_,_,rfl,_⟩:=h;rfl
structure Wp where
 t:Addr
 a:Addr
 b:Addr
 r:Nat
 q:Nat
noncomputable def Fb (l:List Wp):List V:=l.map fun p=>V.ref p.t
theorem D8 {l:List Wp} {i:Nat} {p:Wp} (h:l[i]? =some p):(Fb l)[i]? =some (V.ref p.t):=by unfold Fb;rw[Xd,h];rfl
theorem D9 (l:List Wp) (p:Wp):Fb l++[V.ref p.t]=Fb (l++[p]):=by unfold Fb;rw[WI];rfl
structure ug (H:Hp) (C:Addr) (y:List Nat) (lg:Nat) (w:List Nat) (p:Wp):Prop where
 tp:H p.t=some (.tup [.ref p.a, .ref p.b])
 on:Bp H C p.a y w lg p.r
 bk:Bp H C p.b y (gv w) lg p.q
theorem ug.same {H H':Hp} {C:Addr} {y:List Nat} {lg:Nat} {w:List Nat} {p:Wp} (h:ug H C y lg w p) (s:aq H H'):ug H' C y lg w p:=⟨s _ _ h.tp,h.on.same s,h.bk.same s⟩
structure ym (w:List Nat) (c i:Nat) (s:Sn):Prop where
 ec:s.c=c
 ei:s.i=i
 eu:s.u=if aA (rd w i)=true then w else gv w
 ep:s.p=if aA (rd w i)=true then i else w.length - 1 - i
def jb (_:PySem.W.Frag) (CW CS:Addr):Sp:=fun vs H Q _=> ∃(y:List Nat) (lg:Nat) (wt vt st:Addr) (w:List Nat) (ws:List (List Nat)) (lI:List Wp) (p:Wp) (c i:Nat),vs=[.ref wt, .ref vt, .ref st]/\Yd y/\H wt=some (.tup (dI ws))/\H vt=some (.lst (Fb lI))/\H st=some (.tup [.int c, .int i])/\ws[c]? =some w/\lI[c]? =some p/\ug H CW y lg w p/\i<w.length/\
 ∀(s:Sn) H',ym w c i s->s.t=st->i8 H' CW CS y lg s->H s.a=none->aq H H'->Q (.ref s.a) H'
theorem nA {K:PySem.W.Frag} {CW CS:Addr} {vs:List V} {H:Hp} {Q:VK} {E:XK} (h:jb K CW CS vs H Q E):vs.length=3:=by obtain ⟨_,_,_,_,_,_,_,_,_,_,_,rfl,_⟩:=h;rfl
def jR (_:PySem.W.Frag):Sp:=fun vs H Q _=> ∃(wt:Addr) (ws:List (List Nat)) (band:Nat),vs=[.ref wt, .str (S [band])]/\H wt=some (.tup (dI ws))/\ws.length<=4/\(∀w∈ws,(∀c∈w,Lt c)/\w.length<=12)/\band∈aP/\ ∀(q:Addr) (ps:List Pr) (H':Hp),H q=none->H' q=some (.lst (rK ps))->(∀p∈ps,nk H' p)->ps.map Pr.pair=cY band ws ws.length->aq H H'->Q (.ref q) H'
theorem pj {K:PySem.W.Frag} {vs:List V} {H:Hp} {Q:VK} {E:XK} (h:jR K vs H Q E):vs.length=2:=by obtain ⟨c,_,_,rfl,_⟩:=h;rfl
open Classical in
noncomputable def GU (w:List Nat):Nat:=if h: ∃s,bR w s then choose h else 0
theorem yn {w:List Nat} (hn:w≠[]):bR w (GU w):=by
 have h:=zu hn
 unfold GU
 rw[dif_pos h]
 exact Classical.choose_spec h
theorem D_ {y w:List Nat} {r q:Nat} (hy:Yd y) (hw:SW y w) (h:bR w r) (g:bR (gv w) q):q=r:=by
 have hn:=hw.ne
 have ht:=oZ hn
 have p1:=ja hn h
 have p2:=ja ht g
 have key: ∀d:Nat,(d:Int)%(r:Int)=0↔(d:Int)%(q:Int)=0:=fun d=>by
  have a:=(gC hn h).2 d 0
  have b:=(gC ht g).2 d 0
  rw[Zj]at a b
  rw[<-a, <-b]
  constructor
  ·intro p k
   rw[jt hn,jt hn]
   unfold bq
   have:=p (-1 - (d:Int) - k)
   unfold sq at this
   have e1:rd w (-1 - (0:Int) - k)=rd w ((d:Int)+(-1 - (d:Int) - k)):=by congr 1;omega
   have e2:rd w (-1 - (d:Int) - k)=rd w (0+(-1 - (d:Int) - k)):=by congr 1;omega
   rw[e1,e2,this]
  ·intro p k
   have e: ∀x:Int,rd w x=aC (rd (gv w) (-1 - x)):=fun x=>by
    rw[l_ hn,show -1 - (-1 - x)=x by omega,aH (hy.lt _ (hw.rd _))]
   unfold sq
   rw[e,e]
   have:=p (-1 - (d:Int) - k)
   unfold sq at this
   rw[show -1 - ((d:Int)+k)=0+(-1 - (d:Int) - k) by omega, <-this]
   congr 2
   omega
 have a:=(key r).mp (ZR)
 have b:=(key q).mpr (ZR)
 have a':r%q=0:=by
  have:((r%q:Nat):Int)=0:=by rw[<-a];rfl
  omega
 have b':q%r=0:=by
  have:((q%r:Nat):Int)=0:=by rw[<-b];rfl
  omega
 exact Z8 (Nat.le_of_dvd (by omega) (Nat.dvd_of_mod_eq_zero a')) (Nat.le_of_dvd (by omega) (Nat.dvd_of_mod_eq_zero b'))
noncomputable def Ea (ws:List (List Nat)) (c:Nat):Bool:=leads (ws.getD c [])
noncomputable def Eb (ws:List (List Nat)) (c:Nat):Nat:=GU (ws.getD c [])
noncomputable def Pm (y:List Nat) (ws:List (List Nat)) (M:Nat) (x:Nat×Nat):List Int:=cB y ws (Ea ws) (Eb ws) M x.1 x.2
theorem ym.line {y w:List Nat} {c i:Nat} {s:Sn} (hy:Yd y) (hw:SW y w) (hi:i<w.length) (h:ym w c i s):sq s.u s.p=lG w i:=by
 rw[h.eu,h.ep]
 unfold lG
 by_cases z:aA (rd w i)=true
 ·rw[if_pos z,if_pos z,if_pos z]
 ·rw[if_neg z,if_neg z,if_neg z, <-JF hw.ne,show ((w.length - 1 - i:Nat):Int)=(w.length:Int) - 1 - i by omega]
theorem z_ {y w:List Nat} {ws:List (List Nat)} {c i M:Nat} {s:Sn} (hy:Yd y) (hw:SW y w) (hi:i<w.length) (e:ws.getD c []=w) (h:ym w c i s) (rt:bR s.u s.r):jH y M s=Pm y ws M (c,i):=by
 unfold jH Pm cB
 rw[h.line hy hw hi]
 simp only[e]
 congr 1
 unfold yl E8 Ea Eb
 rw[e,h.ec]
 have uY:=yn hw.ne
 by_cases z:aA (rd w i)=true
 ·have eu:s.u=w:=by rw[h.eu,if_pos z]
  have ep:s.p=i:=by rw[h.ep,if_pos z]
  rw[eu]at rt ⊢
  have er:=C9 hw.ne rt uY
  rw[er,ep,z]
  by_cases l:leads w=true
  ·rw[if_pos l,l];rfl
  ·rw[if_neg l,if_neg (fun q=>l q.symm)];rfl
 ·have eu:s.u=gv w:=by rw[h.eu,if_neg z]
  have ep:s.p=w.length - 1 - i:=by rw[h.ep,if_neg z]
  rw[eu]at rt ⊢
  have er:=D_ hy hw uY rt
  have z':aA (rd w i)=false:=by simpa using z
  rw[er,ep,z',rH hy hw,cj]
  have ei:w.length - 1 - (w.length - 1 - i)=i:=by omega
  rw[ei]
  cases leads w<;>rfl
theorem ym.band {y w:List Nat} {c i band:Nat} {s:Sn} (hy:Yd y) (hw:SW y w) (hi:i<w.length) (hb:band∈aP) (ho:x8 band (rd w i)=true) (h:ym w c i s):rd s.u s.p=band:=by
 have lb:Lt band:= .inl hb
 have lo:aA band=true:=by rw[gB lb];exact decide_eq_true hb
 have Fj:rd w i=band\/rd w i=aC band:=by
  unfold x8 at ho
  simpa using ho
 rw[h.eu,h.ep]
 rcases Fj with e | e
 ·rw[if_pos (by rw[e];exact lo),if_pos (by rw[e];exact lo)]
  exact e
 ·have z: ¬aA (rd w i)=true:=by rw[e,fz _ lb.mem,lo];decide
  rw[if_neg z,if_neg z,l_ hw.ne,show -1 - ((w.length - 1 - i:Nat):Int)=i - w.length by omega,xP,e,aH lb]
def Ec (y:List Nat) (ws:List (List Nat)) (M:Nat) (l:List (Nat×Nat)):Prop:=l.Pairwise fun s t=>bI (Pm y ws M t) (Pm y ws M s)=false
def jS (_:PySem.W.Frag) (CW CS:Addr):Sp:=fun vs H Q _=> ∃(y:List Nat) (lg:Nat) (wt vt:Addr) (ws:List (List Nat)) (lI:List Wp) (band:Nat),vs=[.ref wt, .ref vt, .str (S [band])]/\Yd y/\y.length<=8/\H wt=some (.tup (dI ws))/\ws.length<=4/\(∀w∈ws,SW y w/\w.length<=12)/\band∈aP/\H vt=some (.lst (Fb lI))/\lI.length=ws.length/\(∀(c:Nat) (w:List Nat) (p:Wp),ws[c]? =some w->lI[c]? =some p->ug H CW y lg w p)/\
 ∀(q:Addr) (ps:List Pr) (H':Hp),H q=none->H' q=some (.tup (rK ps))->(∀p∈ps,nk H' p)->(ps.map Pr.pair).Perm (cY band ws ws.length)->Ec y ws (2*lg) (ps.map Pr.pair)->aq H H'->Q (.ref q) H'
theorem pq {K:PySem.W.Frag} {CW CS:Addr} {vs:List V} {H:Hp} {Q:VK} {E:XK} (h:jS K CW CS vs H Q E):vs.length=3:=by obtain ⟨_,_,_,_,_,_,_,rfl,_⟩:=h;rfl
theorem Kb {y:List Nat} {M:Nat} {ss:List Sn} {t:Sn} {n:Nat} (up:Br y M ss) (h1: ∀k s,ss[k]? =some s->k<n->bI (jH y M s) (jH y M t)=true) (h2: ∀k s,ss[k]? =some s->n<=k->bI (jH y M s) (jH y M t)=false):Br y M (ss.take n++t::ss.drop n):=by
 have tk: ∀s∈ss.take n,bI (jH y M s) (jH y M t)=true:=fun s hs=>by
  obtain ⟨k,hk,e⟩:=YS hs
  rw[Xh]at hk
  rw[List.getElem_take]at e
  exact h1 k s (by rw[<-e];exact Jd (by omega)) (by omega)
 have dr: ∀s∈ss.drop n,bI (jH y M s) (jH y M t)=false:=fun s hs=>by
  obtain ⟨k,hk,e⟩:=YS hs
  rw[Xn]at hk
  rw[List.getElem_drop]at e
  exact h2 (n+k) s (by rw[<-e];exact Jd (by omega)) (by omega)
 have Rv:Br y M (ss.take n++ss.drop n):=by rw[XT];exact up
 unfold Br at Rv ⊢
 rw[Ym]at Rv ⊢
 rw[Yk]
 obtain ⟨u1,u2,u3⟩:=Rv
 refine ⟨u1,⟨fun s hs=>dr s hs,u2⟩,fun a ha b hb=>?_⟩
 rcases WG.mp hb with e | e
 ·rw[e];exact (md (tk a ha)).1
 ·exact u3 a ha b e
theorem jc (band:Nat) {ws:List (List Nat)} (hw: ∀w∈ws,w.length<=12): ∀n,n<=ws.length->(cY band ws n).length<=12*n
 | 0,_=>Xb _
 | n+1,h=>by
  have ih:=jc band hw n (by omega)
  unfold cY at ih ⊢
  rw[Yf,XU,SD,Y3]
  have h1:(ie band n (ws.getD n []) (ws.getD n []).length).length<=12:=by
   unfold ie
   rw[K4]
   refine Xt (X_ _ _) ?_
   rw[Zn]
   exact hw _ (getD_in (by omega))
  omega
theorem yo {band:Nat} {ws:List (List Nat)} {x:Nat×Nat} (h:x∈cY band ws ws.length): ∃w,ws[x.1]? =some w/\x.2<w.length/\x8 band (rd w x.2)=true:=by
 unfold cY at h
 obtain ⟨c,hc,h⟩:=XH.mp h
 have qj:=XX.mp hc
 unfold ie at h
 obtain ⟨i,hi,e⟩:=Xr.mp h
 obtain ⟨i1,i2⟩:=Xk.mp hi
 have Td:=XX.mp i1
 subst e
 refine ⟨ws.getD c [],by rw[UC,Jd qj];rfl,Td,?_⟩
 have:(ws.getD c []).getD i 0=rd (ws.getD c []) i:=by
  have:=g6 Td
  rw[UC,this];rfl
 show x8 band (rd (ws.getD c []) i)=true
 rw[<-this]
 exact i2
theorem rV {H H':Hp} {x dx C:Addr} (nx:H x=none) (Kc:H dx=none) (sm:aW x (L2.upd (L2.upd H dx (.own x)) x (.ins C dx [])) H'):aq H H':=fun a o e=>by
 refine sm a o ?_ (az e nx)
 rw[ay (az e nx),ay (az e Kc)]
 exact e
noncomputable def GV (ws:List (List Nat)):List Int:=ws.map fun w=>(w.length:Int)
theorem GW (l:List Int): ∀a:Int,a<=l.foldl (fun x y=>if y>x then y else x) a/\(∀x∈l,x<=l.foldl (fun x y=>if y>x then y else x) a)/\(l.foldl (fun x y=>if y>x then y else x) a=a\/l.foldl (fun x y=>if y>x then y else x) a∈l):=by
 induction l with
 | nil=>exact fun a=>⟨Int.le_refl _,fun _ h=>absurd h Xg, .inl rfl⟩
 | cons b r ih=>
  intro a
  rw[Yu]
  obtain ⟨h1,h2,h3⟩:=ih (if b>a then b else a)
  have h4:a<=(if b>a then b else a)/\b<=(if b>a then b else a):=by split<;>omega
  refine ⟨by omega,fun x hx=>?_,?_⟩
  ·rcases WG.mp hx with e | e
   ·rw[e];omega
   ·exact h2 x e
  ·rcases h3 with e | e
   ·rw[e]
    split
    ·exact .inr Uz
    ·exact .inl rfl
   ·exact .inr (UB _ e)
theorem yp {ws:List (List Nat)} (h: ∀w∈ws,w.length<=12): ∃lg:Nat,Jw 0 (GV ws)=lg/\lg<=12/\ ∀w∈ws,w.length<=lg:=by
 cases ws with
 | nil=>exact ⟨0,rfl,by decide,fun _ h=>absurd h Xg⟩
 | cons v r=>
  obtain ⟨h1,h2,h3⟩:=GW (GV r) (v.length:Int)
  have e:Jw 0 (GV (v::r))=(GV r).foldl (fun x y=>if y>x then y else x) (v.length:Int):=rfl
  rw[e]
  generalize (GV r).foldl (fun x y=>if y>x then y else x) (v.length:Int)=m at*
  have hm: ∃w∈v::r,m=(w.length:Int):=by
   rcases h3 with q | q
   ·exact ⟨v,Uz,q⟩
   ·obtain ⟨w,hw,e'⟩:=Xr.mp q
    exact ⟨w,UB _ hw,e'.symm⟩
  obtain ⟨w,hw,rfl⟩:=hm
  refine ⟨w.length,rfl,h w hw,fun u hu=>?_⟩
  rcases WG.mp hu with q | q
  ·rw[q];omega
  ·have:=h2 _ (Xr.mpr ⟨u,q,rfl⟩)
   omega
def n6 (y:List Nat) (ws:List (List Nat)) (os:List Od):Prop:= ∃M,(∀w∈ws, ∀v∈ws,w.length+v.length<=M)/\vV y ws os/\ ∀o∈os,Ec y ws M (o.ps.map Pr.pair)
def Aa (_:PySem.W.Frag):Sp:=fun vs H Q _=> ∃(y:List Nat) (wt:Addr) (ws:List (List Nat)),vs=[.str (S y), .ref wt]/\Yd y/\y.length<=8/\H wt=some (.tup (dI ws))/\ws.length<=4/\(∀w∈ws,SW y w/\w.length<=12)/\ ∀(dr:Addr) (os:List Od) (H':Hp),x5 H' dr ws os->n6 y ws os->aq H H'->Q (.ref dr) H'
theorem Ed {K:PySem.W.Frag} {vs:List V} {H:Hp} {Q:VK} {E:XK} (h:Aa K vs H Q E):vs.length=2:=by obtain ⟨_,_,_,rfl,_⟩:=h;rfl
theorem GX {H:Hp} {C:Addr} {y:List Nat} {lg i:Nat} {ws:List (List Nat)} {lI:List Wp} {w:List Nat} {p:Wp} (hl:lI.length=i) (h: ∀(c:Nat) (w:List Nat) (p:Wp),ws[c]? =some w->lI[c]? =some p->ug H C y lg w p) (hw:ws[i]? =some w) (hp:ug H C y lg w p): ∀(c:Nat) (w:List Nat) (q:Wp),ws[c]? =some w->(lI++[p])[c]? =some q->ug H C y lg w q:=fun c v q hv hq=>by
 by_cases z:c<lI.length
 ·rw[XG z]at hq
  exact h c v q hv hq
 ·rw[XY (by omega)]at hq
  have:c=i:=by
   have:=(Je.mp hq).1
   simp at this
   omega
  subst this
  rw[hl,ZV]at hq
  rw[hw]at hv
  cases hv
  cases hq
  exact hp
theorem wa {y:List Nat} (h:Yd y) {b:Nat} (hb:b∈fA y):b∈aP:=by
 obtain ⟨h1,h2⟩:=Xk.mp ((jv y).mem_iff.mp hb)
 rw[gB (h.lt b h1)]at h2
 exact of_decide_eq_true h2
theorem Ee {y:List Nat} {ws:List (List Nat)} {L:Nat->Bool} {r:Nat->Nat} {M:Nat} (h:eG y ws L r M) {c i d j x:Nat} (hc:c<ws.length) (hd:d<ws.length) (hi:i<(ws.getD c []).length) (hj:j<(ws.getD d []).length) (cP:(c,i)≠(d,j)) (hx:aA x=true) (e1:rd (ws.getD c []) i=x\/rd (ws.getD c []) i=aC x) (e2:rd (ws.getD d []) j=x\/rd (ws.getD d []) j=aC x):
  bI (cB y ws L r M c i) (cB y ws L r M d j)=true\/bI (cB y ws L r M d j) (cB y ws L r M c i)=true:=by
 have hw:=h.sw c hc
 have hv:=h.sw d hd
 have hy:=h.yd
 have lw:=SE.mpr hw.ne
 have lv:=SE.mpr hv.ne
 have xs: ∀{w:List Nat} {k:Nat},SW y w->(rd w k=x\/rd w k=aC x)->Lt x:=fun {w k} hw e=>by
  have h9:97<=x/\x<=122:=by unfold aA at hx;simpa using hx
  refine .inl ?_
  have: ∀k,k<26->k+97∈aP:=by decide
  have h8:=this (x - 97) (by omega)
  rwa [show x - 97+97=x by omega]at h8
 have lx:=xs hw e1
 have xW: ∀{w:List Nat} {k:Nat},SW y w->Dl w k (lG w k)/\((rd w k=x\/rd w k=aC x)->lG w k 0=x)/\(lG w k=if aA (rd w k)=true then sq w k else bq w k):=fun {w k} hw=>by
  refine ⟨?_,fun e=>?_,rfl⟩
  ·unfold lG
   by_cases z:aA (rd w k)=true
   ·rw[if_pos z];exact .inl rfl
   ·rw[if_neg z];exact .inr rfl
  ·unfold lG
   rcases e with e | e
   ·rw[if_pos (by rw[e];exact hx)]
    unfold sq
    rw[Y6];exact e
   ·have z: ¬aA (rd w k)=true:=by rw[e,fz _ lx.mem,hx];decide
    rw[if_neg z]
    unfold bq
    rw[Zj,e,aH lx]
 obtain ⟨df,f0,fe⟩:=xW (k:=i) hw
 obtain ⟨Vn,g0,ge⟩:=xW (k:=j) hv
 have lf:=df.xW hy hw
 have lg:=Vn.xW hy hv
 by_cases par: ∀k,lG (ws.getD c []) i k=lG (ws.getD d []) j k
 ·unfold cB
  rw[show lG (ws.getD c []) i=lG (ws.getD d []) j from funext par,e_,e_]
  by_cases cd:c=d
  ·subst cd
   have ij:i≠j:=fun z=>cP (by rw[z])
   obtain ⟨h1,h2⟩:=h.root hc
   have hr:=h.rp c hc
   -- one and B3 same way
   have low:aA (rd (ws.getD c []) i)=aA (rd (ws.getD c []) j):=by
    by_cases z1:aA (rd (ws.getD c []) i)=true<;>by_cases z2:aA (rd (ws.getD c []) j)=true
    ·rw[z1,z2]
    ·exfalso
     rw[fe,ge,if_pos z1,if_neg z2]at par
     exact tP hy hw _ _ par
    ·exfalso
     rw[fe,ge,if_neg z1,if_pos z2]at par
     exact tP hy hw _ _ fun k=>(par k).symm
    ·rw[show aA (rd (ws.getD c []) i)=false by simpa using z1,show aA (rd (ws.getD c []) j)=false by simpa using z2]
   have ps:cq (ws.getD c []) (ws.getD c []) i j:=by
    by_cases z1:aA (rd (ws.getD c []) i)=true
    ·have z2:aA (rd (ws.getD c []) j)=true:=by rw[<-low];exact z1
     rw[fe,ge,if_pos z1,if_pos z2]at par
     exact par
    ·have z2: ¬aA (rd (ws.getD c []) j)=true:=by rw[<-low];exact z1
     rw[fe,ge,if_neg z1,if_neg z2]at par
     have e:=congrArg jG (funext par)
     rw[<-eZ, <-eZ,mX hy (ba hw _),mX hy (ba hw _)]at e
     exact fun k=>congrFun e k
   have q:=(h.rr c hc _ _).mp ps
   have GC:i%r c=j%r c:=by
    have q2:=YO.mpr q
    have q3:((i%r c:Nat):Int)=((j%r c:Nat):Int):=q2
    omega
   have k1:= @xX (ws.getD c []).length _ (r c) c i j (L c) (aA (rd (ws.getD c []) j)) hr h1 hi hj GC ij
   have k2:= @xX (ws.getD c []).length _ (r c) c j i (L c) (aA (rd (ws.getD c []) j)) hr h1 hj hi GC.symm (Ne.symm ij)
   rw[low]
   by_cases z:aA (rd (ws.getD c []) j)=true
   ·rw[if_pos z]at k1 k2
    rw[k1,k2,decide_eq_true_iff,decide_eq_true_iff]
    omega
   ·rw[if_neg z]at k1 k2
    rw[k1,k2,decide_eq_true_iff,decide_eq_true_iff]
    omega
  ·have hl:L d=if aA (rd (ws.getD d []) j)=aA (rd (ws.getD c []) i) then L c else !L c:=by
    by_cases z1:aA (rd (ws.getD c []) i)=true<;>by_cases z2:aA (rd (ws.getD d []) j)=true
    ·rw[z1,z2,if_pos rfl]
     rw[fe,ge,if_pos z1,if_pos z2]at par
     exact (h.l1 c d i j hc hd par).symm
    ·rw[if_neg (fun q=>z2 (q.trans z1))]
     rw[fe,ge,if_pos z1,if_neg z2]at par
     exact h.l2 c d i j hc hd par
    ·rw[if_neg (fun q=>z1 (q.symm.trans z2))]
     rw[fe,ge,if_neg z1,if_pos z2]at par
     have:=h.l2 d c j i hd hc fun k=>(par k).symm
     rw[this,Bool.not_not]
    ·rw[show aA (rd (ws.getD c []) i)=false by simpa using z1,show aA (rd (ws.getD d []) j)=false by simpa using z2,if_pos rfl]
     rw[fe,ge,if_neg z1,if_neg z2]at par
     have e:=congrArg jG (funext par)
     rw[<-eZ, <-eZ,mX hy (ba hw _),mX hy (ba hv _)]at e
     exact (h.l1 c d i j hc hd fun k=>congrFun e k).symm
   have Ct:= @tU (ws.getD c []).length (ws.getD d []).length (r c) (r d) c d i j (L c) (aA (rd (ws.getD c []) i)) (aA (rd (ws.getD d []) j)) cd
   have yL:L c=if aA (rd (ws.getD c []) i)=aA (rd (ws.getD d []) j) then L d else !L d:=by
    rw[hl]
    cases aA (rd (ws.getD d []) j)<;>cases aA (rd (ws.getD c []) i)<;>cases L c<;>rfl
   have JZ:= @tU (ws.getD d []).length (ws.getD c []).length (r d) (r c) d c j i (L d) (aA (rd (ws.getD d []) j)) (aA (rd (ws.getD c []) i)) (Ne.symm cd)
   rw[<-hl]at Ct
   rw[<-yL]at JZ
   rw[Ct,JZ,hl]
   cases aA (rd (ws.getD d []) j)<;>cases aA (rd (ws.getD c []) i)<;>cases L c<;>simp<;>omega
 ·have tV: ∃k,lG (ws.getD c []) i k≠lG (ws.getD d []) j k:=Classical.byContradiction fun z=>par fun k=>Classical.byContradiction fun w=>z ⟨k,w⟩
  have Oc: ∀{w:List Nat} {k:Nat} (z:Int),lG w k (z+w.length)=lG w k z:=fun {w k} z=>by
   unfold lG
   split
   ·exact cX w k z
   ·exact oW w k z
  obtain ⟨a,b,rn,ha,hb⟩:=dE lw lv Oc Oc ((f0 e1).trans (g0 e2).symm) tV
  have big:=h.big c d hc hd
  unfold cB
  rw[mf hy lf lg rn _ _ M 0 (Xb _) (Xb _) (by omega) (by omega),mf hy lg lf rn.sy _ _ M 0 (Xb _) (Xb _) (by omega) (by omega),Dq hy lf lg (rn.lF a (by omega) (by omega)) rn.hi,xZ hy lf lg (rn.lF _ (by omega) (by omega)) rn.lo]
  by_cases z:a<=b
  ·rw[if_pos z,if_pos z]
   cases fR y (lG (ws.getD c []) i) (lG (ws.getD d []) j) a
   ·exact .inr rfl
   ·exact .inl rfl
  ·rw[if_neg z,if_neg z]
   cases fT y (lG (ws.getD c []) i) (lG (ws.getD d []) j) b
   ·exact .inr rfl
   ·exact .inl rfl
theorem Ef {y:List Nat} {ws:List (List Nat)} {os:List Od} (hy:Yd y) (hw: ∀w∈ws,SW y w) (h:n6 y ws os): ∃M,eG y ws (Ea ws) (Eb ws) M/\DM y ws (Ea ws) (Eb ws) M os:=by
 obtain ⟨M,hM,ok,up⟩:=h
 have hs: ∀c,c<ws.length->SW y (ws.getD c []):=fun c hc=>hw _ (getD_in hc)
 have hC:eG y ws (Ea ws) (Eb ws) M:=Dw hy hs (fun c hc=>yn (hs c hc).ne) fun c d hc hd=>hM _ (getD_in hc) _ (getD_in hd)
 refine ⟨M,hC,ok,fun o ho=>?_⟩
 obtain ⟨j,hj,ej⟩:=YS ho
 have Te:j<(fA y).length:=by rw[<-ok.1];exact hj
 have pm:=ok.2 j o (fA y)[j] (by rw[Jd hj,ej]) (Jd Te)
 have bs:=wa hy (Xp Te)
 have lb:Lt (fA y)[j]:= .inl bs
 have lo:aA (fA y)[j]=true:=by rw[gB lb];exact decide_eq_true bs
 have nd:(o.ps.map Pr.pair).Nodup:=pm.nodup_iff.mpr (rN _ _ _)
 have u:=up o ho
 unfold Ec at u
 refine Zs (fun {s t} h1 h2 h=>?_) (List.Pairwise.and u nd)
 obtain ⟨w1,e1,i1,o1⟩:=yo (pm.mem_iff.mp h1)
 obtain ⟨w2,e2,i2,o2⟩:=yo (pm.mem_iff.mp h2)
 have c1:=(Je.mp e1).1
 have c2:=(Je.mp e2).1
 have g1:ws.getD s.1 []=w1:=by rw[UC,e1];rfl
 have g2:ws.getD t.1 []=w2:=by rw[UC,e2];rfl
 have on: ∀{l:Nat},x8 (fA y)[j] l=true->l=(fA y)[j]\/l=aC (fA y)[j]:=fun {l} q=>by unfold x8 at q;simpa using q
 have tr:=Ee hC (c:=s.1) (i:=s.2) (d:=t.1) (j:=t.2) c1 c2 (by rw[g1];exact i1) (by rw[g2];exact i2) h.2 lo (by rw[g1];exact on o1) (by rw[g2];exact on o2)
 rcases tr with q | q
 ·exact q
 ·have hf:bI (cB y ws (Ea ws) (Eb ws) M t.1 t.2) (cB y ws (Ea ws) (Eb ws) M s.1 s.2)=false:=h.1
  rw[hf]at q
  cases q
theorem Eg {α β:Type} (p:β->β->Bool) (f:α->β): ∀l:List α,cl p (l.map f)=cl (fun a b=>p (f a) (f b)) l
 | []=>rfl
 | a::l=>by
  show ((l.map f).filter (p (f a))).length+cl p (l.map f)=(l.filter fun b=>p (f a) (f b)).length+cl _ l
  rw[Eg p f l,List.filter_map,K4]
  rfl
theorem wc {α:Type} {p q:α->α->Bool}: ∀{l:List α},l.Pairwise (fun a b=>p a b=q a b)->cl p l=cl q l
 | [],_=>rfl
 | a::l,h=>by
  rw[Yk]at h
  show (l.filter (p a)).length+cl p l=(l.filter (q a)).length+cl q l
  rw[wc h.2,ZY fun b hb=>h.1 b hb]
theorem Eh {a b a' b':Nat} (h1:a<b) (h2:a'<b') (h4:a<a') (h5:b≠a') (h6:b≠b'):(jw (a,b) (a',b')||jw (a',b') (a,b))=nj a b a' b':=by
 have g4:=YK h4 h2
 rw[Dg (Xm h1) (Xm h4) (Xm g4) h5 h6]
 unfold jw
 rw[decide_eq_true h4,decide_eq_true g4,decide_eq_false (Zi h4),jr (Ne.symm h6)]
 have k:decide (b'<b)=true->decide (a'<b)=true:=fun q=>decide_eq_true (YK h2 (of_decide_eq_true q))
 revert k
 generalize decide (a'<b)=p
 generalize decide (b'<b)=q
 revert p q
 decide
theorem uh {a b a' b':Nat} (h1:a<b) (h2:a'<b') (h3:a≠a') (h4:a≠b') (h5:b≠a') (h6:b≠b'):(jw (a,b) (a',b')||jw (a',b') (a,b))=nj a b a' b':=by
 rcases Yz h3 with q | q
 ·exact Eh h1 h2 q h5 h6
 ·rw[Bool.or_comm,Eh h2 h1 q (Ne.symm h4) (Ne.symm h6),kX (Xm h2) (Xm h1) (Ne.symm h3) (Ne.symm h5) (Ne.symm h4) (Ne.symm h6)]
theorem GY {a b a' b':Nat} (h1:a≠b) (h2:a'≠b') (h3:a≠a') (h4:a≠b') (h5:b≠a') (h6:b≠b'):(jw (min a b,max a b) (min a' b',max a' b')||jw (min a' b',max a' b') (min a b,max a b))=nj a b a' b':=by
 rcases Yz h1 with q | q<;>rcases Yz h2 with r | r
 ·rw[X6 (XD q),YJ (XD q),X6 (XD r),YJ (XD r)]
  exact uh q r h3 h4 h5 h6
 ·rw[X6 (XD q),YJ (XD q),X7 (XD r),YD (XD r),iY]
  exact uh q r h4 h3 h6 h5
 ·rw[X7 (XD q),YD (XD q),X6 (XD r),YJ (XD r), <-vO h1 h2 h3 h4 h5 h6]
  exact uh q r h5 h6 h3 h4
 ·rw[X7 (XD q),YD (XD q),X7 (XD r),YD (XD r), <-vO h1 h2 h3 h4 h5 h6,iY]
  exact uh q r h6 h5 h4 h3
section
variable {y:List Nat} {ws:List (List Nat)} {L:Nat->Bool} {r:Nat->Nat} {M:Nat}
noncomputable def ke (ps:List (Nat×Nat×Nat)) (c i e:Nat):Nat:=ps.idxOf (c,i,e)
theorem GZ {n i:Nat} (h:i<n):i0 n ((i:Int) - 1)=wL n i/\i0 n (i:Int)=i:=by
 have h1:=eB (n:=n) (by omega) ((i:Int) - 1)
 have h2:=eB (n:=n) (by omega) (i:Int)
 rw[zS h]at h1
 rw[Xv (by omega) (by omega)]at h2
 omega
theorem lr {ps:List (Nat×Nat×Nat)} {c i:Nat} (hi:i<(ws.getD c []).length):(gE ps c (ws.getD c []) i).2.2.1=pI ws (ke ps) c ((i:Int) - 1)/\(gE ps c (ws.getD c []) i).2.2.2=pO ws (ke ps) c i:=by
 obtain ⟨e1,e2⟩:=GZ hi
 have g: ∀k,k<(ws.getD c []).length->(ws.getD c []).getD k 0=rd (ws.getD c []) k:=fun k hk=>by
  rw[UC,g6 hk];rfl
 have cP:ws.getD c []≠[]:=fun z=>by rw[z]at hi;exact absurd hi (ZH _)
 unfold gE pI pO ke
 rw[e1,e2,g _ (yg hi),g _ hi]
 refine ⟨?_,rfl⟩
 have:rd (ws.getD c []) (wL (ws.getD c []).length i:Nat)=rd (ws.getD c []) ((i:Int) - 1):=by rw[<-e1,bT cP]
 rw[this]
theorem jx (ps:List (Nat×Nat×Nat)) (ws:List (List Nat)): ∀n,fZ ps ws n=(vL ws n).map fun x=>gE ps x.1 (ws.getD x.1 []) x.2
 | 0=>rfl
 | n+1=>by
  have ih:=jx ps ws n
  unfold fZ at ih ⊢
  unfold vL
  rw[Yf,XU,ih,WI,Y3,X5]
  rfl
theorem yq (ws:List (List Nat)) (n:Nat):(vL ws n).Nodup:=(zo n).imp fun {a b} h z=>by
 rw[z]at h
 unfold E4 at h
 simp at h
theorem lA (h:eG y ws L r M) {ps:List (Nat×Nat×Nat)} (hN:Lies y ws L r M (ke ps)) (l:List (Nat×Nat)) (hl:l.Nodup) (rO: ∀x∈l,x.1<ws.length/\x.2<(ws.getD x.1 []).length):(dF (l.map fun x=>gE ps x.1 (ws.getD x.1 []) x.2)).Nodup:=by
 unfold dF
 induction l with
 | nil=>exact List.Pairwise.nil
 | cons x t ih=>
  rw[Xw]at hl
  rw[Xl,XE,X4]
  obtain ⟨x1,x2⟩:=rO x Uz
  have ex:=lr (ps:=ps) (ws:=ws) (c:=x.1) x2
  refine ⟨?_,ih hl.2 fun z hz=>rO z (UB _ hz),fun a ha b hb e=>?_⟩
  ·rw[ex.1,ex.2,Xw]
   exact ⟨by simpa using (eE h hN x1 x1 x2 x2).1,by simp⟩
  ·obtain ⟨c4,Rw,BN⟩:=XH.mp hb
   obtain ⟨z,hz,rfl⟩:=Xr.mp Rw
   obtain ⟨z1,z2⟩:=rO z (UB _ hz)
   have ez:=lr (ps:=ps) (ws:=ws) (c:=z.1) z2
   have cP:(x.1,x.2)≠(z.1,z.2):=fun q=>hl.1 (by
    have:x=z:=Prod.ext (Prod.mk.inj q).1 (Prod.mk.inj q).2
    rw[this];exact hz)
   have n1:=eE h hN x1 z1 x2 z2
   have n2:=eE h hN z1 x1 z2 x2
   rw[ex.1,ex.2]at ha
   rw[ez.1,ez.2]at BN
   have La:a=pI ws (ke ps) x.1 ((x.2:Int) - 1)\/a=pO ws (ke ps) x.1 x.2:=by simpa using ha
   have j7:b=pI ws (ke ps) z.1 ((z.2:Int) - 1)\/b=pO ws (ke ps) z.1 z.2:=by simpa using BN
   rw[e]at La
   rcases La with p | p<;>rcases j7 with q | q<;>rw[p]at q
   ·exact (n1.2 cP).1 q
   ·exact n1.1 q
   ·exact n2.1 q.symm
   ·exact (n1.2 cP).2 q
theorem lB (h:eG y ws L r M) {ps:List (Nat×Nat×Nat)} (hN:Lies y ws L r M (ke ps)) (l:List (Nat×Nat)) (hl:l.Nodup) (rO: ∀x∈l,x.1<ws.length/\x.2<(ws.getD x.1 []).length):cl (fun x z=>jw x z||jw z x) (jQ (l.map fun x=>gE ps x.1 (ws.getD x.1 []) x.2))=cl (HW ws (ke ps)) l:=by
 unfold jQ
 rw[X5,Eg]
 refine wc (Zs (fun {a b} ha hb tF=>?_) hl)
 obtain ⟨a1,a2⟩:=rO a ha
 obtain ⟨b1,b2⟩:=rO b hb
 have ea:=lr (ps:=ps) (ws:=ws) (c:=a.1) a2
 have eb:=lr (ps:=ps) (ws:=ws) (c:=b.1) b2
 have cP:(a.1,a.2)≠(b.1,b.2):=tF
 have n1:=eE h hN a1 b1 a2 b2
 have n2:=eE h hN b1 a1 b2 a2
 have n3:=eE h hN a1 a1 a2 a2
 have n4:=eE h hN b1 b1 b2 b2
 show (jw (min _ _,max _ _) (min _ _,max _ _)||jw (min _ _,max _ _) (min _ _,max _ _))=HW ws (ke ps) a b
 rw[ea.1,ea.2,eb.1,eb.2,GY n3.1 n4.1 (n1.2 cP).1 n1.1 (Ne.symm n2.1) (n1.2 cP).2]
 rfl
end
noncomputable def kr (w:List Nat):Int:=((w.length / GU w:Nat):Int)
theorem Ei {w:List Nat} {n:Nat} (hn:n<=w.length):(dk w n).length=w.length:=by
 unfold dk
 rw[SD,Xn,Xh,X6 hn,Nat.sub_add_cancel hn]
theorem Kd {w v:List Nat} (h:w≠[]) (e:v.length=w.length):v≠[]:=fun z=>h (XM.mp (by rw[<-e,z];rfl))
noncomputable def nB (y w:List Nat):Int:=SS y w w+2*(kr w - 1)
noncomputable def Bs (y:List Nat) (ws:List (List Nat)):Int:=sm ws.length (fun c=>nB y (ws.getD c.toNat []))+2*uL ws.length (fun c d=>SS y (ws.getD c.toNat []) (ws.getD d.toNat []))
theorem Ke (h:Int->Int) (n:Nat):2*sm n h=sm n fun i=>2*h i:=by
 rw[show (fun i=>2*h i)=fun i=>h i+h i from funext fun i=>Int.two_mul _,oX,Int.two_mul]
theorem Kf {y:List Nat} {ws:List (List Nat)} {M:Nat} {N:Nat->Nat->Nat->Nat} (h:eG y ws (Ea ws) (Eb ws) M) (hN:Lies y ws (Ea ws) (Eb ws) M N):2*(cl (HW ws N) (places ws):Int)=Bs y ws:=by
 unfold places Bs
 rw[Dt,Int.mul_add,Ke]
 congr 1
 ·refine aX fun c hc=>?_
  rw[UA]
  have a:=Dp h hN hc
  rw[Dx h.yd (h.sw c hc) (h.sw c hc)]at a
  rw[show uL (ws.getD c []).length (fun i j=>one (HW ws N (c,i.toNat) (c,j.toNat)=true))=uL (ws.getD c []).length (fun i j=>one (iA (pO ws N c) (pI ws N c) (pO ws N c) (pI ws N c) i j=true)) from mh fun i j _ _=>by
   unfold HW
   rw[UA,UA],a]
  rfl
 ·congr 1
  refine mh fun c d jY hd=>?_
  rw[UA,UA, <-Dx h.yd (h.sw c (YK jY hd)) (h.sw d hd), <-rE h hN (c:=c) (d:=d) (YK jY hd) hd (Xm jY)]
  exact bz fun i j _ _=>by
   unfold HW
   rw[UA,UA]
theorem Bt {y:List Nat} {ws:List (List Nat)} {os:List Od} (hy:Yd y) (hw: ∀w∈ws,SW y w) (h:n6 y ws os):(dF (fL y ws os)).Nodup/\2*(cl (fun x z=>jw x z||jw z x) (jQ (fL y ws os)):Int)=Bs y ws:=by
 obtain ⟨M,hC,hT⟩:=Ef hy hw h
 have hN:Lies y ws (Ea ws) (Eb ws) M (ke (kj y os)):=lies_of hy hC.sw hT
 have rO: ∀x∈places ws,x.1<ws.length/\x.2<(ws.getD x.1 []).length:=fun x hx=>nQ.mp hx
 unfold fL
 rw[jx]
 refine ⟨lA hC hN _ (yq ws _) rO,?_⟩
 rw[lB hC hN _ (yq ws _) rO]
 exact Kf hC hN
theorem Ej (y w:List Nat):Bs y [w]=nB y w:=by
 show (0+nB y w)+2*(0+0)=_
 omega
theorem Ek (y w v:List Nat):Bs y [w,v]=nB y w+nB y v+2*SS y w v:=by
 show (0+nB y w+nB y v)+2*((0+0)+(0+SS y w v))=_
 omega
theorem G0 {y w v:List Nat} {os:List Od} (hy:Yd y) (hw:SW y w) (hv:SW y v) (h:n6 y [w,v] os):
  (cl (fun x z=>jw x z||jw z x) (jQ (fL y [w,v] os)):Int) - cl (fun x z=>jw x z||jw z x) (jQ ((fL y [w,v] os).take w.length)) - cl (fun x z=>jw x z||jw z x) (jQ ((fL y [w,v] os).drop w.length))=SS y w v/\(dF (fL y [w,v] os)).Nodup/\(dF ((fL y [w,v] os).take w.length)).Nodup/\(dF ((fL y [w,v] os).drop w.length)).Nodup:=by
 have Rx: ∀u∈[w,v],SW y u:=fun u hu=>by
  rcases WG.mp hu with e | e
  ·rw[e];exact hw
  ·rw[O8.mp e];exact hv
 obtain ⟨M,hC,hT⟩:=Ef hy Rx h
 have hN:Lies y [w,v] (Ea [w,v]) (Eb [w,v]) M (ke (kj y os)):=lies_of hy hC.sw hT
 have rO: ∀x∈places [w,v],x.1<[w,v].length/\x.2<([w,v].getD x.1 []).length:=fun x hx=>nQ.mp hx
 have Ry:(places [w,v]).Nodup:=yq [w,v] 2
 have ep:places [w,v]=(List.range w.length).map (fun i=>(0,i))++(List.range v.length).map (fun i=>(1,i)):=rfl
 have ec:fL y [w,v] os=(places [w,v]).map fun x=>gE (kj y os) x.1 ([w,v].getD x.1 []) x.2:=jx _ _ _
 have t1:(fL y [w,v] os).take w.length=((List.range w.length).map (fun i=>(0,i))).map fun x=>gE (kj y os) x.1 ([w,v].getD x.1 []) x.2:=by
  rw[ec,ep,WI,List.take_append_of_le_length (by simp),Xo (by simp)]
 have t2:(fL y [w,v] os).drop w.length=((List.range v.length).map (fun i=>(1,i))).map fun x=>gE (kj y os) x.1 ([w,v].getD x.1 []) x.2:=by
  rw[ec,ep,WI,List.drop_append_of_le_length (by simp),X8 (by simp),ZJ]
 have Ou:=Ry
 have Kg:=rO
 rw[ep]at Kg
 rw[ep,X4]at Ou
 have i1:=fun x hx=>Kg x (X0 _ hx)
 have i2:=fun x hx=>Kg x (Xj _ hx)
 rw[t1,t2]
 refine ⟨?_,by rw[ec];exact lA hC hN _ Ry rO,lA hC hN _ Ou.1 i1,lA hC hN _ Ou.2.1 i2⟩
 rw[ec,lB hC hN _ Ry rO,lB hC hN _ Ou.1 i1,lB hC hN _ Ou.2.1 i2,ep,t5]
 have e1:(((List.range w.length).map fun i=>((0:Nat),i)).map fun x=>((((List.range v.length).map fun i=>((1:Nat),i)).filter (HW [w,v] (ke (kj y os)) x)).length:Int)).sum=SS y w v:=by
  rw[<-Dx hy hw hv,X5]
  refine Eq.trans ?_ (rE hC hN (c:=0) (d:=1) (Nat.zero_lt_succ _) (Yr 1) (by decide))
  refine (js (fun i=>((((List.range v.length).map fun i=>((1:Nat),i)).filter (HW [w,v] (ke (kj y os)) (0,i))).length:Int)) w.length).trans (aX fun i _=>?_)
  rw[UA]
  refine (zL _ 1 v.length).trans (aX fun j _=>?_)
  rw[UA]
  rfl
 rw[e1]
 omega
theorem Lb.ok {y:List Nat} {ws:List (List Nat)} (h:Lb y ws):Oj y ws:=⟨h.lU,fun w hw=>⟨(h.sw w hw).1.bo,(h.sw w hw).2⟩⟩
theorem rW {y:List Nat} {ws:List (List Nat)} {os:List Od} (h:Lb y ws):(fL y ws os).length<=24:=by
 unfold fL
 rw[jx,K4]
 exact h.all
theorem G1 {y w:List Nat} (h:SW y w) (hz:w.length<=12):Lb y [w]:=⟨fun v hv=>by rw[O8.mp hv];exact ⟨h,hz⟩,by show 1<=4;decide,by
 have:=tJ (ws:=[w]) (m:=12) (fun v hv=>by rw[O8.mp hv];exact hz) 1 (SA _)
 unfold places
 show (vL [w] 1).length<=24
 omega⟩
def wd (_:PySem.W.Frag):Sp:=fun vs H Q _=> ∃(y:List Nat) (wt:Addr) (ws:List (List Nat)),vs=[.str (S y), .ref wt]/\Yd y/\y.length<=8/\Lb y ws/\H wt=some (.tup (dI ws))/\ ∀(n:Nat) H',aq H H'->2*(n:Int)=Bs y ws->Q (.int n) H'
theorem Bu {K:PySem.W.Frag} {vs:List V} {H:Hp} {Q:VK} {E:XK} (h:wd K vs H Q E):vs.length=2:=by obtain ⟨_,_,_,rfl,_⟩:=h;rfl
def El (_:PySem.W.Frag):Sp:=fun vs H Q _=> ∃(y w:List Nat),vs=[.str (S y), .str (S w)]/\Yd y/\y.length<=8/\SW y w/\w.length<=12/\ ∀(n:Nat) H',aq H H'->2*(n:Int)=nB y w->Q (.int n) H'
theorem len_own {K:PySem.W.Frag} {vs:List V} {H:Hp} {Q:VK} {E:XK} (h:El K vs H Q E):vs.length=2:=by obtain ⟨_,_,rfl,_⟩:=h;rfl
def pA (_:PySem.W.Frag):Sp:=fun vs H Q _=> ∃(y w v:List Nat),vs=[.str (S y), .str (S w), .str (S v)]/\Yd y/\y.length<=8/\SW y w/\w.length<=12/\SW y v/\v.length<=12/\ ∀H',aq H H'->Q (.int (SS y w v)) H'
theorem we {K:PySem.W.Frag} {vs:List V} {H:Hp} {Q:VK} {E:XK} (h:pA K vs H Q E):vs.length=3:=by obtain ⟨_,_,_,rfl,_⟩:=h;rfl
theorem Em {f:Nat->Nat} {w:List Nat} (h:qg f w) (k:Int):rd w (k+1)=f (rd w k):=by
 have hl:=SE.mpr h.ne
 have h1:=X2 k (b:=(w.length:Int)) (by omega)
 have h2:=XS k (b:=(w.length:Int)) (by omega)
 obtain ⟨n,en⟩: ∃n:Nat,k%(w.length:Int)=n:=⟨(k%(w.length:Int)).toNat,by omega⟩
 have hn:n<w.length:=by omega
 have e1:rd w k=rd w n:=by rw[<-fj w k,en]
 have e2:rd w (k+1)=rd w ((n+1:Nat):Int):=by
  rw[<-fj w (k+1), <-Zp,en,fj]
  rfl
 have g: ∀m,m<w.length->w[m]? =some (rd w m):=fun m hm=>g6 hm
 rw[e1,e2]
 by_cases z:n+1<w.length
 ·exact nV h.pa (g n hn) (g (n+1) z)
 ·have ez:n+1=w.length:=by omega
  rw[ez,show ((w.length:Nat):Int)=0+(w.length:Int) by omega,gh]
  have pa:=h.pa
  obtain ⟨u,c,rfl⟩: ∃u c,w=u++[c]:=⟨w.dropLast,w.getLast h.ne,(List.dropLast_concat_getLast h.ne).symm⟩
  have p2:=(gD.mp pa).2
  have hc:rd (u++[c]) n=c:=by
   have:=g n hn
   have e:n=u.length:=by rw[SD]at ez;simp at ez;exact ez
   rw[e,XY (SA _),ZV]at this
   rw[e]
   exact (Xa this).symm
  have hh:(u++[c]).headD 0=rd (u++[c]) 0:=by
   have:=g 0 hl
   cases hu:u++[c] with
   | nil=>simp at hu
   | cons a l=>rw[hu]at this;exact Xa this
  rw[hc, <-hh]
  exact p2.1.symm
theorem G2 {y:List Nat} {a:Nat} (hn:y.Nodup) (ha:a∈y) (h2:2<=y.length):ni y a (qf y a)=1:=by
 obtain ⟨hk,e⟩:=mj ha
 have hi:y.idxOf (qf y a)=(y.idxOf a+1)%y.length:=by rw[e];exact hn.idxOf_getElem _ hk
 unfold ni
 rw[hi,Y9,Z4,show ((y.idxOf a+1:Nat):Int) - (y.idxOf a:Int)=1 by omega]
 exact Xv (by omega) (by omega)
structure wg (y r:List Nat):Prop where
 sw:SW y r
 st: ∀k:Int,ni y (aC (rd r (k - 1))) (rd r k)=1
 kr:kr r=1
 len:r.length<=y.length
theorem En {w:List Nat} (hw:w≠[]) (hn:w.Nodup):kr w=1:=by
 have hr:=yn hw
 obtain ⟨p,a⟩:=gC hw hr
 obtain ⟨q1,q2⟩:1<=GU w/\GU w<=w.length:=by
  rcases hr with h | h
  ·exact absurd h.1 hw
  ·exact ⟨h.1,h.2.1⟩
 have k:=(a (GU w) 0).mpr (by rw[Zj];exact ZR) 0
 have e:GU w=w.length:=Classical.byContradiction fun z=>by
  have hl:GU w<w.length:=Nat.lt_of_le_of_ne q2 z
  unfold sq at k
  rw[Y6,Y6]at k
  have g1:=g6 hl
  have g2:w[0]? =some (rd w 0):=g6 (w:=w) (by omega)
  rw[k, <-g2]at g1
  have:=(List.getElem?_inj (by omega) hn).mp g1
  omega
 unfold My.kr
 rw[e,Nat.div_self (by omega)]
 rfl
theorem Ab {y:List Nat} {L:List (List Nat)} (hy:Yd y) (h2:2<=y.length) (a:ju y L): ∀r∈L,wg y r:=fun r hr=>by
 have lU:=a.lU.2 r hr
 obtain ⟨ws,p,q,_⟩:=a
 obtain ⟨w,hw,rfl⟩:=Xr.mp (q.mem_iff.mp hr)
 obtain ⟨o,iy⟩:=p.Bh w hw
 have er:=o.b9 hy h2 iy
 obtain ⟨i,hi,ei⟩:=i4 o.ne
 rw[er,ei]at lU ⊢
 have rr: ∀k,rd (dk w i) k=rd w (k+i):=xQ o.ne (XD hi)
 have rn:dk w i≠[]:=Kd o.ne (Ei (XD hi))
 have wy: ∀k,rd w k∈y:=fun k=>iy _ (g5 o.ne k)
 have st: ∀k:Int,rd (dk w i) k=qf y (aC (rd (dk w i) (k - 1))):=fun k=>by
  rw[rr,rr,show k+(i:Int)=k - 1+i+1 by omega,Em o]
  rfl
 have cy: ∀k,aC (rd (dk w i) k)∈y:=fun k=>by rw[rr];exact hy.cl _ (wy _)
 have pm:(dk w i).Perm w:=by
  unfold dk
  exact List.perm_append_comm.trans (by rw[XT])
 refine ⟨⟨rn,fun c hc=>iy c (pm.mem_iff.mp hc),fun k=>?_⟩,fun k=>?_,En rn (pm.nodup_iff.mpr o.nd),lU⟩
 ·rw[st]
  exact x4 hy.nd (cy _) h2
 ·rw[st k]
  exact G2 hy.nd (cy _) h2
theorem Eo {y:List Nat} {a b c:Nat} (ha:a∈y) (hb:b∈y) (h:ni y a c=ni y b c):a=b:=by
 unfold ni at h
 have ia:=Uy ha
 have ib:=Uy hb
 have e:=YI ((y.idxOf a:Int) - y.idxOf b) (Z5 (y.length:Int))
 have k:((y.idxOf a:Int) - (y.idxOf b:Int))%(y.length:Int)=0:=by
  have:=YO.mp h
  rw[show (y.idxOf c:Int) - y.idxOf a - (y.idxOf c - y.idxOf b)= -((y.idxOf a:Int) - y.idxOf b) by omega]at this
  exact Zy (Int.dvd_neg.mp (YW this))
 have d:=YW k
 obtain ⟨z,hz⟩:=d
 have:y.idxOf a=y.idxOf b:=by
  have h0:z=0:=by
   rcases Int.lt_trichotomy z 0 with q | q | q
   ·have:=Int.mul_le_mul_of_nonneg_left (show z<= -1 by omega) (show (0:Int)<=y.length by omega)
    omega
   ·exact q
   ·have:=Int.mul_le_mul_of_nonneg_left (show 1<=z by omega) (show (0:Int)<=y.length by omega)
    omega
  rw[h0,Int.mul_zero]at hz
  omega
 exact (XF (Uy ha)).symm.trans ((by congr 1:y[y.idxOf a]=y[y.idxOf b]).trans (XF (Uy hb)))
theorem Ep {y r:List Nat} {g:Int->Nat} (hy:Yd y) (h:wg y r) (hg:gi y g) (i:Int): ¬jN y (sq r i) g:=by
 rintro ⟨a,run,x⟩
 have sf: ∀k,dP y (sq r i) k=1:=fun k=>by
  unfold dP sq
  have:=h.st (i+k)
  rwa [show i+k - 1=i+(k - 1) by omega]at this
 have pos: ∀k,1<=dP y g k:=fun k=>(cK (hy.cl _ (hg.bo (k - 1))) (hg.bo k) (Ne.symm (hg.red k))).1
 have lf:=ba h.sw i
 refine x ?_
 have e1:fR y (sq r i) g a=true:=by
  unfold fR
  rw[sf]
  refine decide_eq_true (Int.lt_iff_le_and_ne.mpr ⟨pos _,fun q=>run.hi ?_⟩)
  have ha:=run.lF a (by omega) (by omega)
  have k1:=sf (a+1)
  unfold dP at k1 q
  rw[show (a:Int)+1 - 1=a by omega]at k1 q
  rw[<-ha]at q
  exact jq (hy.cl _ (lf.bo a)) (lf.bo _) (hg.bo _) (k1.trans q)
 have e2:fT y (sq r i) g 0=true:=by
  unfold fT
  rw[sf]
  refine decide_eq_true (Int.lt_iff_le_and_ne.mpr ⟨pos _,fun q=>run.lo ?_⟩)
  have h0:=run.zero
  have k1:=sf 0
  have q':1=dP y g 0:=q
  unfold dP at k1 q'
  rw[Z2]at k1 q'
  rw[<-h0]at q'
  have:=Eo (hy.cl _ (lf.bo _)) (hy.cl _ (hg.bo _)) (k1.trans q')
  exact d_ (hy.lt _ (lf.bo _)) (hy.lt _ (hg.bo _)) this
 rw[e1,e2]
theorem pB {y r v:List Nat} (hy:Yd y) (h:wg y r) (hv:SW y v):SS y r v=0:=by
 unfold SS
 rw[show (0:Int)=cw r.length v.length (fun _ _=>0) by unfold cw;rw[show (fun _:Int=>sm v.length fun _=>0)=fun _=>0 from funext fun _=>eA _,eA]]
 refine bz fun i j _ _=>?_
 unfold bs
 rw[aZ (Ep hy h (ba hv j) i),aZ (Ep hy h (fK hy hv j) i),aZ]
 ·rfl
 obtain ⟨a1,a2,a3⟩:=Bg hy h.sw i
 obtain ⟨b1,b2,b3⟩:=Bg hy hv j
 have st:=h.st i
 generalize aC (rd r ((i:Int) - 1))=a at a1 a3 st ⊢
 generalize rd r (i:Int)=b at a2 a3 st ⊢
 generalize aC (rd v ((j:Int) - 1))=p at b1 b3 ⊢
 generalize rd v (j:Int)=q at b2 b3 ⊢
 unfold ac
 by_cases z:p=a\/p=b\/q=a\/q=b
 ·rw[if_pos z]
  decide
 ·rw[if_neg z]
  have n1:a≠p:=fun e=>z (.inl e.symm)
  have n3:a≠q:=fun e=>z (.inr (.inr (.inl e.symm)))
  rw[<-Dd, <-Dd,st,decide_eq_false (by have:=(cK a1 b1 n1).1;omega),decide_eq_false (by have:=(cK a1 b2 n3).1;omega)]
  decide
theorem G3 {y r:List Nat} (hy:Yd y) (h:wg y r):nB y r=0:=by
 unfold nB
 rw[pB hy h h.sw,h.kr]
 rfl
theorem Kh {y:List Nat} {p:Nat->Bool} (hy:Yd y) (hz:Yd (y.filter p)):GF (y.filter p) y id false:=
 ⟨hz,hy,fun a ha=>(Xk.mp ha).1,fun a _ b _ e=>e,fun a _=>rfl,fun a ha b hb c hc ab ac bc=>by
  rw[A8 hy.nd ha hb hc ab ac bc]
  show My.gr y a b c=_
  cases My.gr y a b c<;>rfl⟩
theorem Er {y r v:List Nat} {p:Nat->Bool} (hy:Yd y) (hz:Yd (y.filter p)) (h:wg (y.filter p) r) (hv:SW (y.filter p) v):SS y r v=0:=by
 have:=(Kh hy hz).same h.sw hv
 rw[Zm,Zm,pB hz h hv]at this
 exact this
theorem SW.up {y z w:List Nat} (h:SW y w) (k: ∀c∈y,c∈z):SW z w:=⟨h.ne,fun c hc=>k c (h.bo c hc),h.red⟩
def rX (K:PySem.W.Frag):Sp:=fun vs H Q _=> ∃(b p:Addr) (l:List Nat),vs=[.ref b, .ref p]/\cf H b/\bA K H p (cg l)/\l.length<=1000/\ ∀q l' H',H q=none->q≠b->H' q=some (.lst (cg l'))->l'.Perm l->cf H' b->aW b H H'->Q (.ref q) H'
theorem yr {K:PySem.W.Frag} {vs:List V} {H:Hp} {Q:VK} {E:XK} (h:rX K vs H Q E):vs.length=2:=by obtain ⟨_,_,_,rfl,_⟩:=h;rfl
def rY (_:PySem.W.Frag):Sp:=fun vs H Q _=> ∃(b:Addr) (y:List Nat) (many top:Nat),vs=[.ref b, .str (S y), .int many, .int top]/\cf H b/\Yd y/\2<=y.length/\y.length<=8/\1<=many/\many<=4/\1<=top/\top<=12/\ ∀(t:Addr) (ws:List (List Nat)) (H':Hp),H t=none->t≠b->H' t=some (.tup (dI ws))->1<=ws.length->ws.length<=many->(∀w∈ws,SW y w/\w.length<=top)->cf H' b->aW b H H'->Q (.ref t) H'
theorem yt {K:PySem.W.Frag} {vs:List V} {H:Hp} {Q:VK} {E:XK} (h:rY K vs H Q E):vs.length=4:=by obtain ⟨_,_,_,_,rfl,_⟩:=h;rfl
structure G4 (y:List Nat) (L ws:List (List Nat)):Prop where
 own: ∀r∈L,nB y r=0
 two: ∀r∈L, ∀v∈L++ws,SS y r v=0/\SS y v r=0
 sw: ∀v∈L++ws,SW y v/\v.length<=12
def rZ (_:PySem.W.Frag):Sp:=fun vs H Q _=> ∃(y:List Nat) (p z:Addr) (L ws:List (List Nat)),vs=[.str (S y), .ref p, .ref z]/\Yd y/\y.length<=8/\H p=some (.lst (dI L))/\L.length<=8/\(H z=some (.lst (dI ws))\/H z=some (.tup (dI ws)))/\ws.length<=4/\G4 y L ws/\ ∀H',aq H H'->Q (.bl true) H'
theorem yu {K:PySem.W.Frag} {vs:List V} {H:Hp} {Q:VK} {E:XK} (h:rZ K vs H Q E):vs.length=3:=by obtain ⟨_,_,_,_,_,rfl,_⟩:=h;rfl
def r9 (_:PySem.W.Frag):Sp:=fun vs H Q _=> ∃(b:Addr) (y:List Nat) (wt:Addr) (ws:List (List Nat)),vs=[.ref b, .str (S y), .ref wt]/\cf H b/\Yd y/\2<=y.length/\y.length<=8/\wt≠b/\H wt=some (.tup (dI ws))/\1<=ws.length/\ws.length<=4/\(∀w∈ws,SW y w/\w.length<=10)/\ ∀H',aW b H H'->Q (.bl true) H'
theorem yv {K:PySem.W.Frag} {vs:List V} {H:Hp} {Q:VK} {E:XK} (h:r9 K vs H Q E):vs.length=3:=by obtain ⟨_,_,_,_,rfl,_⟩:=h;rfl
theorem G5 {y:List Nat} {L ws:List (List Nat)} (hy:Yd y) (h2:2<=y.length) (h8:y.length<=8) (a:ju y L) (hw: ∀w∈ws,SW y w/\w.length<=10):G4 y L ws:=by
 have ok:=Ab hy h2 a
 have sw: ∀v∈L++ws,SW y v/\v.length<=12:=fun v hv=>by
  rcases WJ.mp hv with g | g
  ·have:=(ok v g).len
   exact ⟨(ok v g).sw,by omega⟩
  ·have:=hw v g
   exact ⟨this.1,by omega⟩
 exact ⟨fun r hr=>G3 hy (ok r hr),fun r hr v hv=>by
  have e:=pB hy (ok r hr) (sw v hv).1
  exact ⟨e,by rw[Dy hy (sw v hv).1 (ok r hr).sw];exact e⟩,sw⟩
theorem G6 {y:List Nat} {p:Nat->Bool} {L ws:List (List Nat)} (hy:Yd y) (hz:Yd (y.filter p)) (h2:2<=(y.filter p).length) (h8:y.length<=8) (a:ju (y.filter p) L) (hw: ∀w∈ws,SW (y.filter p) w/\w.length<=10):G4 y L ws:=by
 have ok:=Ab hz h2 a
 have up: ∀c∈y.filter p,c∈y:=fun c hc=>(Xk.mp hc).1
 have fl:=X_ p y
 have sw: ∀v∈L++ws,SW (y.filter p) v/\v.length<=12:=fun v hv=>by
  rcases WJ.mp hv with g | g
  ·have:=(ok v g).len
   exact ⟨(ok v g).sw,by omega⟩
  ·have:=hw v g
   exact ⟨this.1,by omega⟩
 refine ⟨fun r hr=>?_,fun r hr v hv=>?_,fun v hv=>⟨(sw v hv).1.up up,(sw v hv).2⟩⟩
 ·unfold nB
  rw[Er hy hz (ok r hr) (ok r hr).sw,(ok r hr).kr]
  rfl
 ·have e:=Er hy hz (ok r hr) (sw v hv).1
  exact ⟨e,by rw[Dy hy ((sw v hv).1.up up) ((ok r hr).sw.up up)];exact e⟩
local macro_rules | `(tactic| walk_at "rd") => `(tactic| repeat (first
 | refine ⟨_,rfl,?_⟩
 | refine ⟨_,_,rfl,rfl,?_⟩
 | refine ⟨rfl,?_⟩
 | refine And.intro (by first | decide | omega | assumption | exact Nat.le_of_ble_eq_true rfl | exact .inl ⟨by decide,by decide⟩ | exact .inr ⟨by decide,by decide⟩ | exact ⟨by decide,by decide⟩ | exact ⟨by omega,by omega⟩) ?_))
local macro_rules | `(tactic| walk_at "wk") => `(tactic| repeat (first
 | refine ⟨_,rfl,?_⟩
 | refine ⟨_,_,rfl,rfl,?_⟩
 | refine ⟨_,_,_,rfl,rfl,by first | assumption | omega,by assumption,?_⟩
 | refine ⟨rfl,?_⟩
 | refine And.intro (by first | decide | omega | assumption | exact Nat.le_of_ble_eq_true rfl | exact .inl ⟨by decide,by decide⟩ | exact .inr ⟨by decide,by decide⟩ | exact ⟨by decide,by decide⟩ | exact ⟨by omega,by omega⟩) ?_))
local macro_rules | `(tactic| walk_at "bd") => `(tactic| first | assumption | exact Vo _ | exact WN (by walk_at "bd") (by walk_at "bd"))
noncomputable def top (i:Nat):Stmt:=PySem.Challenge.pw_mustmeet_k31_whole_rims_meet_nothing.main.body.getD i (.Pass ⟨0,0,0,0⟩)
noncomputable abbrev kf:Stmt:=top 1
noncomputable abbrev pE:Stmt:=top 2
noncomputable abbrev ui:Stmt:=top 4
noncomputable abbrev gk:Stmt:=top 5
noncomputable abbrev pH:Stmt:=top 6
noncomputable abbrev g8:Stmt:=top 8
noncomputable abbrev pJ:Stmt:=top 9
noncomputable abbrev fk:Stmt:=top 10
noncomputable abbrev mD:Stmt:=top 11
noncomputable abbrev fN:Stmt:=top 12
noncomputable abbrev jd:Stmt:=top 13
noncomputable abbrev eO:Stmt:=top 14
noncomputable abbrev g9:Stmt:=top 16
noncomputable abbrev gm:Stmt:=top 18
noncomputable abbrev je:Stmt:=top 20
noncomputable abbrev kg:Stmt:=top 21
noncomputable abbrev yx:Stmt:=top 22
noncomputable abbrev yy:Stmt:=top 23
noncomputable abbrev fO:Stmt:=top 25
noncomputable abbrev gn:Stmt:=top 28
noncomputable abbrev g_:Stmt:=top 29
noncomputable abbrev mE:Stmt:=top 30
noncomputable abbrev mF:Stmt:=top 31
noncomputable abbrev gp:Stmt:=top 32
noncomputable abbrev fP:Stmt:=top 33
noncomputable abbrev gq:Stmt:=top 34
noncomputable abbrev hJ:Stmt:=top 35
noncomputable abbrev yz:Stmt:=top 36
noncomputable abbrev uj:Stmt:=top 38
noncomputable abbrev Es:Stmt:=top 39
noncomputable abbrev mG:Stmt:=top 40
noncomputable abbrev kh:Stmt:=top 42
noncomputable abbrev hU:Stmt:=top 43
noncomputable abbrev yA:Stmt:=top 44
noncomputable abbrev yB:Stmt:=top 46
noncomputable abbrev uk:Stmt:=top 47
noncomputable abbrev pK:Stmt:=top 48
noncomputable abbrev um:Stmt:=top 49
noncomputable abbrev pL:Stmt:=top 50
noncomputable abbrev uo:Stmt:=top 51
noncomputable abbrev pM:Stmt:=top 52
noncomputable abbrev pN:Stmt:=top 53
noncomputable abbrev pQ:Stmt:=top 54
noncomputable abbrev pR:Stmt:=top 55
noncomputable abbrev pT:Stmt:=top 56
noncomputable abbrev Et:Stmt:=top 57
structure bf (K:PySem.W.Frag) (mg:Str->Option Value) (x:Str) (st:Stmt) (ps:List Str) (f:Addr) (fd:FuncData):Prop where
 fn:FC K x x st f fd
 mg:mg x=some (.ref f)
 bd:Binds K fd ps []
noncomputable abbrev jy:Stmt:=SQ (top 26) 0
noncomputable abbrev gH:Stmt:=SQ (top 27) 0
structure Txt (K:PySem.W.Frag) (mg:Str->Option Value) (f0 f1 f2 f3 f4 f5 f6 f7 f8 f9 Lj Lk Ll Lm Ln Lo Lp Lq Lr Eu Ew Ls Lu Lv Lw Ly Lz LA LB LC LD LF LG LH LI LJ LK LL LM LN LO LP LQ LR LS LU aO aY jT gs:Addr) (d0 d1 d2 d3 d4 d5 d6 d7 d8 d9 LV LW LX LY LZ L0 L1 L3 L4 L5 L6 L7 L8 L_ Ma Mb Mc Md Me Mf Mg Mh Mi Mj Ml Mm Mn Mo Mp Mq Mr Ms Mt Mu Mv Mw wj pU:FuncData):Prop where
 F0:bf K mg "contrary" kf ["letter"] f0 d0
 F1:bf K mg "turned" pE ["word"] f1 d1
 F2:bf K mg "bands" ui ["yard"] f2 d2
 F3:bf K mg "steps_round" gk ["yard","start","end"] f3 d3
 F4:bf K mg "within" pH ["yard","some"] f4 d4
 F5:bf K mg "strands_at" g8 ["yard","drawing","end"] f5 d5
 F6:bf K mg "points" pJ ["yard","drawing"] f6 d6
 F7:bf K mg "corner_points" fk ["word","cord","place"] f7 d7
 F8:bf K mg "corners" mD ["yard","drawing"] f8 d8
 F9:bf K mg "chord_starts" fN ["some"] f9 d9
 Pn:bf K mg "number_in" jd ["rising","point"] Lj LV
 Bv:bf K mg "count_meetings" eO ["some"] Lk LW
 Po:bf K mg "strands_in" g9 ["words","band"] Ll LX
 Pp:bf K mg "corner_ends" gm ["word","place"] Lm LY
 Pq:bf K mg "shortened" je ["word"] Ln LZ
 Pu:bf K mg "shortest" kg ["word"] Lo L0
 Bw:bf K mg "ring" yx ["word"] Lp L1
 Pw:bf K mg "root" yy ["word"] Lq L3
 Px:bf K mg "corner_steps" fO ["yard","word","place"] Lr L4
 wN:bf K mg "steps_ahead" gn ["seen","start","end"] Eu L5
 wO:bf K mg "steps_back" g_ ["seen","start","end"] Ew L6
 Ki:bf K mg "parting" mE ["steps","one","other","enough"] Ls L7
 Kj:bf K mg "side_of" mF ["seen"] Lu L8
 Py:bf K mg "comes_ahead" gp ["one","other"] Lv L_
 Pz:bf K mg "number_among" fP ["order","seen"] Lw Ma
 PB:bf K mg "seen_strand" gq ["words","ways","strand"] Ly Mb
 PD:bf K mg "taut_order" hJ ["words","ways","band"] Lz Mc
 Kk:bf K mg "taut" yz ["yard","words"] LA Md
 Kl:bf K mg "least" uj ["yard","words"] LB Me
 Km:bf K mg "own" Es ["yard","word"] LC Mf
 Kn:bf K mg "between" mG ["yard","one","other"] LD Mg
 PH:bf K mg "next_end" kh ["yard","end"] LF Mh
 PJ:bf K mg "rim_behind" hU ["yard","start"] LG Mi
 Ko:bf K mg "rims" yA ["yard"] LH Mj
 PK:bf K mg "_law_box" yB ["_law_script","_law_k"] LI Ml
 gu:bf K mg "_law_take" uk ["_law_box_here","_law_many"] LJ Mm
 uq:bf K mg "_law_other" pK ["_law_letter"] LK Mn
 PL:bf K mg "_law_yard" um ["_law_box_here","_law_few","_law_top"] LL Mo
 Fc:bf K mg "_law_short" pL ["_law_box_here","_law_yard_here","_law_top"] LM Mp
 PM:bf K mg "_law_near" uo ["_law_box_here","_law_yard_here","_law_word","_law_top"] LN Mq
 PN:bf K mg "_law_order" pM ["_law_box_here","_law_things"] LO Mr
 PQ:bf K mg "_law_bands" pN ["_law_yard_here"] LP Ms
 PR:bf K mg "_law_words" pQ ["_law_box_here","_law_yard_here","_law_many","_law_top"] LQ Mt
 Kp:bf K mg "_law_apart" pR ["_law_yard_here","_law_some","_law_words_here"] LR Mu
 PU:bf K mg "_law_right" pT ["_law_box_here","_law_yard_here","_law_words_here"] LS Mv
 Vp:bf K mg "law" Et ["_law_script"] LU Mw
 Ex:mg "Seen"=some (.ref aO)
 dJ:HA K aO
 n_Seen_strand:dR K aO "strand"
 n_Seen_way:dR K aO "way"
 n_Seen_place:dR K aO "place"
 H_:mg "Way"=some (.ref aY)
 gc:HA K aY
 n_Way_size:dR K aY "size"
 n_Way_root_size:dR K aY "root_size"
 n_Way_leads:dR K aY "leads"
 n_Way_onward:dR K aY "onward"
 n_Way_backward:dR K aY "backward"
 Ia:Mk K aY jT
 Ov:FC K "__init__" "Way.__init__" jy jT wj
 Ib:Binds K wj ["self","yard","word","longest"] []
 Ey:Mk K aO gs
 Kq:FC K "__init__" "Seen.__init__" gH gs pU
 Ez:Binds K pU ["self","strand","way","place"] []
 z_all:mg "all"=none
 z_enumerate:mg "enumerate"=none
 z_int:mg "int"=none
 z_len:mg "len"=none
 z_list:mg "list"=none
 z_max:mg "max"=none
 z_min:mg "min"=none
 z_range:mg "range"=none
 z_reversed:mg "reversed"=none
 z_sorted:mg "sorted"=none
 z_str:mg "str"=none
 z_tuple:mg "tuple"=none
theorem wm:aF ["letter"] ["letter"] (au kf):=⟨rfl,rfl,rfl,by decide+kernel,rfl,by decide+kernel,by decide+kernel⟩
theorem Bx:aF ["word"] ["word"] (au pE):=⟨rfl,rfl,rfl,by decide+kernel,rfl,by decide+kernel,by decide+kernel⟩
theorem EA:aF ["yard"] ["yard"] (au ui):=⟨rfl,rfl,rfl,by decide+kernel,rfl,by decide+kernel,by decide+kernel⟩
theorem pV:aF ["yard","start","end"] ["yard","start","end"] (au gk):=⟨rfl,rfl,rfl,by decide+kernel,rfl,by decide+kernel,by decide+kernel⟩
theorem By:aF ["yard","some"] ["yard","some"] (au pH):=⟨rfl,rfl,rfl,by decide+kernel,rfl,by decide+kernel,by decide+kernel⟩
theorem jU:aF ["yard","drawing","end","order"] ["yard","drawing","end"] (au g8):=⟨rfl,rfl,rfl,by decide+kernel,rfl,by decide+kernel,by decide+kernel⟩
theorem jz:aF ["yard","drawing","told","end","strand"] ["yard","drawing"] (au pJ):=⟨rfl,rfl,rfl,by decide+kernel,rfl,by decide+kernel,by decide+kernel⟩
theorem gI:aF ["word","cord","place","ahead"] ["word","cord","place"] (au fk):=⟨rfl,rfl,rfl,by decide+kernel,rfl,by decide+kernel,by decide+kernel⟩
theorem cE:aF ["yard","drawing","numbers","number","point","told","cord","word","place","pair"] ["yard","drawing"] (au mD):=⟨rfl,rfl,rfl,by decide+kernel,rfl,by decide+kernel,by decide+kernel⟩
theorem dG:aF ["some","starts","corner","first"] ["some"] (au fN):=⟨rfl,rfl,rfl,by decide+kernel,rfl,by decide+kernel,by decide+kernel⟩
theorem dj:aF ["rising","point","low","high","middle"] ["rising","point"] (au jd):=⟨rfl,rfl,rfl,by decide+kernel,rfl,by decide+kernel,by decide+kernel⟩
theorem bH:aF ["some","starts","begun","many","point","number"] ["some"] (au eO):=⟨rfl,rfl,rfl,by decide+kernel,rfl,by decide+kernel,by decide+kernel⟩
theorem cL:aF ["words","band","found","cord","word","place","letter"] ["words","band"] (au g9):=⟨rfl,rfl,rfl,by decide+kernel,rfl,by decide+kernel,by decide+kernel⟩
theorem pW:aF ["word","place"] ["word","place"] (au gm):=⟨rfl,rfl,rfl,by decide+kernel,rfl,by decide+kernel,by decide+kernel⟩
theorem hV:aF ["word","kept","letter"] ["word"] (au je):=⟨rfl,rfl,rfl,by decide+kernel,rfl,by decide+kernel,by decide+kernel⟩
theorem dN:aF ["word","left","start","end"] ["word"] (au kg):=⟨rfl,rfl,rfl,by decide+kernel,rfl,by decide+kernel,by decide+kernel⟩
theorem jA:aF ["word","whole","least","start","begun"] ["word"] (au yx):=⟨rfl,rfl,rfl,by decide+kernel,rfl,by decide+kernel,by decide+kernel⟩
theorem n_:aF ["word","whole","size","times"] ["word"] (au yy):=⟨rfl,rfl,rfl,by decide+kernel,rfl,by decide+kernel,by decide+kernel⟩
theorem iq:aF ["yard","word","place","ends"] ["yard","word","place"] (au fO):=⟨rfl,rfl,rfl,by decide+kernel,rfl,by decide+kernel,by decide+kernel⟩
theorem jf:aF ["seen","start","end","first"] ["seen","start","end"] (au gn):=⟨rfl,rfl,rfl,by decide+kernel,rfl,by decide+kernel,by decide+kernel⟩
theorem jV:aF ["seen","start","end","first"] ["seen","start","end"] (au g_):=⟨rfl,rfl,rfl,by decide+kernel,rfl,by decide+kernel,by decide+kernel⟩
theorem dM:aF ["steps","one","other","enough","many","size"] ["steps","one","other","enough"] (au mE):=⟨rfl,rfl,rfl,by decide+kernel,rfl,by decide+kernel,by decide+kernel⟩
theorem ki:aF ["seen","way","cord"] ["seen"] (au mF):=⟨rfl,rfl,rfl,by decide+kernel,rfl,by decide+kernel,by decide+kernel⟩
theorem eF:aF ["one","other","enough","ahead","back"] ["one","other"] (au gp):=⟨rfl,rfl,rfl,by decide+kernel,rfl,by decide+kernel,by decide+kernel⟩
theorem b7:aF ["order","seen","low","high","middle"] ["order","seen"] (au fP):=⟨rfl,rfl,rfl,by decide+kernel,rfl,by decide+kernel,by decide+kernel⟩
theorem fQ:aF ["words","ways","strand","word","place"] ["words","ways","strand"] (au gq):=⟨rfl,rfl,rfl,by decide+kernel,rfl,by decide+kernel,by decide+kernel⟩
theorem eT:aF ["words","ways","band","order","strand","seen"] ["words","ways","band"] (au hJ):=⟨rfl,rfl,rfl,by decide+kernel,rfl,by decide+kernel,by decide+kernel⟩
theorem ur:aF ["yard","words","longest","ways"] ["yard","words"] (au yz):=⟨rfl,rfl,rfl,by decide+kernel,rfl,by decide+kernel,by decide+kernel⟩
theorem EB:aF ["yard","words"] ["yard","words"] (au uj):=⟨rfl,rfl,rfl,by decide+kernel,rfl,by decide+kernel,by decide+kernel⟩
theorem Kr:aF ["yard","word"] ["yard","word"] (au Es):=⟨rfl,rfl,rfl,by decide+kernel,rfl,by decide+kernel,by decide+kernel⟩
theorem hW:aF ["yard","one","other","every","ones","others"] ["yard","one","other"] (au mG):=⟨rfl,rfl,rfl,by decide+kernel,rfl,by decide+kernel,by decide+kernel⟩
theorem wo:aF ["yard","end"] ["yard","end"] (au kh):=⟨rfl,rfl,rfl,by decide+kernel,rfl,by decide+kernel,by decide+kernel⟩
theorem cM:aF ["yard","start","word","place","passed"] ["yard","start"] (au hU):=⟨rfl,rfl,rfl,by decide+kernel,rfl,by decide+kernel,by decide+kernel⟩
theorem jB:aF ["yard","seen","told","end","word","letter"] ["yard"] (au yA):=⟨rfl,rfl,rfl,by decide+kernel,rfl,by decide+kernel,by decide+kernel⟩
theorem lC:aF ["_law_script","_law_k","_law_cell","_law_seed"] ["_law_script","_law_k"] (au yB):=⟨rfl,rfl,rfl,by decide+kernel,rfl,by decide+kernel,by decide+kernel⟩
theorem pX:aF ["_law_box_here","_law_many","_law_digit","_law_one"] ["_law_box_here","_law_many"] (au uk):=⟨rfl,rfl,rfl,by decide+kernel,rfl,by decide+kernel,by decide+kernel⟩
theorem mH:aF ["_law_letter","_law_small","_law_capital"] ["_law_letter"] (au pK):=⟨rfl,rfl,rfl,by decide+kernel,rfl,by decide+kernel,by decide+kernel⟩
theorem ff:aF ["_law_box_here","_law_few","_law_top","_law_left","_law_ends","_law_k","_law_letter","_law_found"] ["_law_box_here","_law_few","_law_top"] (au um):=⟨rfl,rfl,rfl,by decide+kernel,rfl,by decide+kernel,by decide+kernel⟩
theorem cN:aF ["_law_box_here","_law_yard_here","_law_top","_law_many","_law_form","_law_word","_law_letter"] ["_law_box_here","_law_yard_here","_law_top"] (au pL):=⟨rfl,rfl,rfl,by decide+kernel,rfl,by decide+kernel,by decide+kernel⟩
theorem jg:aF ["_law_box_here","_law_yard_here","_law_word","_law_top","_law_form","_law_at","_law_letter","_law_some"] ["_law_box_here","_law_yard_here","_law_word","_law_top"] (au uo):=⟨rfl,rfl,rfl,by decide+kernel,rfl,by decide+kernel,by decide+kernel⟩
theorem mI:aF ["_law_box_here","_law_things","_law_left","_law_found"] ["_law_box_here","_law_things"] (au pM):=⟨rfl,rfl,rfl,by decide+kernel,rfl,by decide+kernel,by decide+kernel⟩
theorem Bz:aF ["_law_yard_here"] ["_law_yard_here"] (au pN):=⟨rfl,rfl,rfl,by decide+kernel,rfl,by decide+kernel,by decide+kernel⟩
theorem jC:aF ["_law_box_here","_law_yard_here","_law_many","_law_top","_law_found","_law_k","_law_one"] ["_law_box_here","_law_yard_here","_law_many","_law_top"] (au pQ):=⟨rfl,rfl,rfl,by decide+kernel,rfl,by decide+kernel,by decide+kernel⟩
theorem jD:aF ["_law_yard_here","_law_some","_law_words_here","_law_k","_law_rim","_law_word"] ["_law_yard_here","_law_some","_law_words_here"] (au pR):=⟨rfl,rfl,rfl,by decide+kernel,rfl,by decide+kernel,by decide+kernel⟩
theorem gJ:aF ["_law_box_here","_law_yard_here","_law_words_here","_law_some","_law_names","_law_inner","_law_there"] ["_law_box_here","_law_yard_here","_law_words_here"] (au pT):=⟨rfl,rfl,rfl,by decide+kernel,rfl,by decide+kernel,by decide+kernel⟩
theorem uu:aF ["_law_script","_law_k","_law_box_here","_law_yard_here"] ["_law_script"] (au Et):=⟨rfl,rfl,rfl,by decide+kernel,rfl,by decide+kernel,by decide+kernel⟩
theorem pY:aF ["self","yard","word","longest","steps","rounds"] ["self","yard","word","longest"] (au jy):=⟨rfl,rfl,rfl,by decide+kernel,rfl,by decide+kernel,by decide+kernel⟩
theorem BA:aF ["self","strand","way","place"] ["self","strand","way","place"] (au gH):=⟨rfl,rfl,rfl,by decide+kernel,rfl,by decide+kernel,by decide+kernel⟩
section
variable {P:Program} {w:World} {K:PySem.W.Frag} {mg:Str->Option Value} {base:Heap} {f0 f1 f2 f3 f4 f5 f6 f7 f8 f9 Lj Lk Ll Lm Ln Lo Lp Lq Lr Eu Ew Ls Lu Lv Lw Ly Lz LA LB LC LD LF LG LH LI LJ LK LL LM LN LO LP LQ LR LS LU aO aY jT gs:Addr} {d0 d1 d2 d3 d4 d5 d6 d7 d8 d9 LV LW LX LY LZ L0 L1 L3 L4 L5 L6 L7 L8 L_ Ma Mb Mc Md Me Mf Mg Mh Mi Mj Ml Mm Mn Mo Mp Mq Mr Ms Mt Mu Mv Mw wj pU:FuncData}
variable (T:Txt K mg f0 f1 f2 f3 f4 f5 f6 f7 f8 f9 Lj Lk Ll Lm Ln Lo Lp Lq Lr Eu Ew Ls Lu Lv Lw Ly Lz LA LB LC LD LF LG LH LI LJ LK LL LM LN LO LP LQ LR LS LU aO aY jT gs d0 d1 d2 d3 d4 d5 d6 d7 d8 d9 LV LW LX LY LZ L0 L1 L3 L4 L5 L6 L7 L8 L_ Ma Mb Mc Md Me Mf Mg Mh Mi Mj Ml Mm Mn Mo Mp Mq Mr Ms Mt Mu Mv Mw wj pU)
include T
theorem c_:bC P w K mg base eR 1 f0 d0 ["letter"] (mU K):=by
 refine T.F0.fn.ok wm (fun vs H Q E h=>tu h) (fun cx A outer s H vs Q E hr h=>?_)
 refine ⟨_,(ag (bV (gM (dW K rfl Xc Zr Zq j5 (pv 0))) (ai (aG (dW K rfl Xc PySem.F.slot_str_upper PySem.F.type_str_upper Co (pv 0)))) bu)
   (ai (aG (dW K rfl Xc YZ YX kF (pv 0))))),?_⟩
 obtain ⟨c,rfl,hc,q⟩:=h
 refine ⟨_,rfl,rfl,c,rfl,rfl,hc,_,rfl,bS (fun e=>?_) (fun e=>?_)⟩
 ·refine ⟨_,rfl,rfl,c,rfl,rfl,hc,?_⟩
  have z:aC c=PyProof.Rows.up1 c:=if_pos e
  rw[<-z]
  exact q
 ·refine ⟨_,rfl,rfl,c,rfl,rfl,hc,?_⟩
  have z:aC c=PyProof.Rows.lo1 c:=if_neg e
  rw[<-z]
  exact q
theorem uv:bC P w K mg base eR 2 Ln LZ ["word"] (kP K):=by
 have bM:=c_ (P:=P) (w:=w) (base:=base) T
 refine T.Pq.fn.ok hV (fun vs H Q E h=>qu h) (fun cx A outer s H vs Q E hr h=>?_)
 refine ⟨_,(ag (ao (i:=1) hV.nd rfl (Or.inl rfl) (dS ae))
   (ag (ck PassesOwn.never rfl (gR (pv 0)) (aQ (i:=2) hV.nd rfl (Or.inl rfl)) (ai (bV (PW.pt (jZ (FO K rfl (pv 1)) (ji (aI gS (aV (bX K rfl) (pv 1) (kx gO aj) (fun _ _=>rfl)) (ak bM (hr.mono (by decide)) rfl T.F0.mg T.F0.fn.kp T.F0.bd .nil aB (aa (pv 2) ae)) (aT _))))) (ai (da (dW K rfl Xs YF YE I_ (pv 1)))) (ai (da (bL K rfl Xs XR XQ de (pv 1) (aa (pv 2) ae)))))))
   (ai (aG (bL K rfl Xc Yh Yg (fH K rfl) (iJ [] (by decide+kernel)) (aa (pv 1) ae)))))),?_⟩
 obtain ⟨l,rfl,hl,hz,q⟩:=h
 have hs:(100000:Nat)<sizeLine:=by decide
 walk_at "rd"
 intro p1 n1
 refine ⟨_,rfl,l,rfl,?_⟩
 refine nJ (xs:=cg l) (fun i σ H'=> ∃lv,σ=[some (.str (S l)),some (.ref p1),lv]/\H' p1=some (.lst (cg (red (l.take i))))/\aW p1 H H') ⟨none,rfl,ah,aW.of (aq.upd n1)⟩ ?_ ?_
 ·rintro i x σ H1 hx ⟨lv,rfl,hp,s1⟩
  obtain ⟨c,hc,rfl⟩:=dU hx
  have hi:i<l.length:=(Je.mp hc).1
  have h8:c<128:=(hl c (W9 hc)).lt
  have JD:(red (l.take i)).length<=1000:=Xt (kN _) (by rw[Xh];omega)
  have fin: ∀st,st=cH (red (l.take i)) c-> ∃lv,[some (V.str (S l)),some (V.ref p1),some (V.str (S [c]))]=[some (V.str (S l)),some (.ref p1),lv]/\(upd H1 p1 (.lst (cg st))) p1=some (.lst (cg (red (l.take (i+1)))))/\aW p1 H (upd H1 p1 (.lst (cg st))):=fun st e=>
   ⟨_,rfl,by rw[ah,CQ hc,e],fun b o e z=>by rw[ay z];exact s1 b o e z⟩
  refine ⟨_,rfl,p1,_,rfl,bA.of hp,?_⟩
  rcases snoc_cases (red (l.take i)) with e | ⟨m,a,e⟩
  ·rw[e]at hp ⊢
   refine xG rfl ?_
   refine AG ?_
   refine ⟨_,rfl, .inl ⟨rfl,_,bA.of hp⟩,_,rfl,p1,_,_,rfl,rfl,hp,by rw[aN];exact (by decide:(0:Nat)<sizeLine),?_⟩
   rw[cW]
   refine fin _ ?_
   rw[e]
   unfold cH
   rw[if_neg (by simp)]
  ·rw[e]at hp JD ⊢
   have WO:m.length<=1000:=by simp at JD;omega
   rw[<-cW]at hp ⊢
   refine Rn (by simp) ?_
   refine ⟨_,rfl,_,rfl,p1,_,_,_,rfl,rfl,bA.of hp,B_ _ _,_,rfl,c,rfl,h8,[a],[aC c],rfl,rfl,_,rfl,bS (fun z=>?_) (fun z=>?_)⟩
   ·have ea:a=aC c:=by simpa using of_decide_eq_true z
    refine ⟨_,rfl, .inl ⟨rfl,_,bA.of hp⟩,p1,_,V.str (S [a]),rfl,rfl,hp,by simp,?_⟩
    rw[Yo]
    refine fin _ ?_
    rw[e]
    unfold cH
    rw[if_pos (by simp[ea]),Yo]
   ·have ea:a≠aC c:=fun w=>z (decide_eq_true (by rw[w]))
    refine ⟨_,rfl, .inl ⟨rfl,_,bA.of hp⟩,_,rfl,p1,_,_,rfl,rfl,hp,by rw[SD,aN];show m.length+1<sizeLine;omega,?_⟩
    rw[cW,cW]
    refine fin _ ?_
    rw[e]
    unfold cH
    rw[if_neg (by simpa using ea)]
 ·rintro σ H1 ⟨lv,rfl,hp,s1⟩
  rw[iP]at hp
  refine ⟨rfl,_,rfl,p1,(red l).map fun c=>[c],rfl,rfl,bA.of (by rw[<-dh];exact hp),?_,?_⟩
  ·rw[vE]
   have:=kN l
   omega
  ·rw[mV]
   exact q _ (fun b o e=>s1 b o e (az e n1))
theorem wq:bC P w K mg base eR 3 Lo L0 ["word"] (mW K):=by
 have wu:=uv (P:=P) (w:=w) (base:=base) T
 have bM:=c_ (P:=P) (w:=w) (base:=base) T
 refine T.Pu.fn.ok dN (fun vs H Q E h=>tw h) (fun cx A outer s H vs Q E hr h=>?_)
 refine ⟨_,(ag (ao (i:=1) dN.nd rfl (Or.inl rfl) (ak wu (hr.mono (by decide)) rfl T.Pq.mg T.Pq.fn.kp T.Pq.bd .nil aB (aa (pv 0) ae)))
   (ag (ao (i:=2) dN.nd rfl (Or.inl rfl) aj)
   (ag (ao (i:=3) dN.nd rfl (Or.inl rfl) (aD aR rfl T.z_len W_ (aa (pv 1) ae)))
   (ag (cJ PassesOwn.never (PW.pt (jZ (aI B6 (aE dm (pv 3) (pv 2)) aj (aT _)) (ji (aI gS (aV gQ (pv 1) (pv 2) (fun _ _=>rfl)) (ak bM (hr.mono (by decide)) rfl T.F0.mg T.F0.fn.kp T.F0.bd .nil aB (aa (aV gQ (pv 1) (aE dm (pv 3) aj) (fun _ _=>rfl)) ae)) (aT _))))) (ag (iD (i:=2) dN.nd rfl (Or.inl rfl) aj sC)
   (ai (iD (i:=3) dN.nd rfl (Or.inl rfl) aj ID))))
   (ai (aG (bO m8 (pv 1) (bK (pv 2)) (bK (pv 3))))))))),?_⟩
 obtain ⟨l,rfl,hl,hz,q⟩:=h
 have hs:(100000:Nat)<sizeLine:=by decide
 refine ⟨_,rfl,l,rfl,hl,hz,fun H1 s1=>?_⟩
 have HL:=kN l
 have dz:=CP hl
 generalize red l=r at HL dz q ⊢
 have Tf:r.length<=sizeLine:=by omega
 walk_at "rd"
 refine ⟨fun m σ H'=> ∃(a e:Nat),σ=[some (.str (S l)),some (.str (S r)),some (.int a),some (.int e)]/\m=e - a/\a<=e/\e<=r.length/\core (BM r a e)=core r/\H'=H1,⟨_,0,r.length,rfl,rfl,Xb _,SA _,by rw[Gm],rfl⟩,?_⟩
 rintro m σ H2 ⟨a,e,rfl,rfl,h1,h2,hc,rfl⟩
 have fin:core (BM r a e)=BM r a e->Q (.str (S (cut r (some (a:Int)) (some (e:Int))))) H2:=fun z=>by
  have e1:cut r (some (a:Int)) (some (e:Int))=BM r a e:=by
   unfold cut BM
   rw[HT.fV,HT.fV]
   have e1:min a r.length=a:=by omega
   have e2:min e r.length=e:=by omega
   rw[e1,e2]
  rw[e1, <-z,hc]
  exact q H2 s1
 walk_at "rd"
 refine bS (fun z=>?_) (fun z=>?_)
 ·have z1:(2:Int)<=(e:Int) - (a:Int):=of_decide_eq_true z
  have ha:a<r.length:=by omega
  have he:e - 1<r.length:=by omega
  have g0:m6 r (a:Int)=some r[a]:=bY (Jd ha)
  have g1:m6 r ((e:Int) - 1)=some r[e - 1]:=by
   have:(e:Int) - 1=((e - 1:Nat):Int):=by omega
   rw[this];exact bY (Jd he)
  have h8:r[e - 1]<128:=(dz _ (Xp he)).lt
  have hw:=Jz (l:=r) (s:=a) (e:=e) (by omega) h2
  refine ⟨_,rfl,_,rfl,r,_,_,rfl,rfl,Tf,g0,?_⟩
  walk_at "rd"
  refine ⟨r,_,_,rfl,rfl,Tf,g1,?_⟩
  walk_at "rd"
  refine bS (fun y=>?_) (fun y=>?_)
  ·have ey:r[a]=aC r[e - 1]:=by simpa using of_decide_eq_true y
   walk_at "rd"
   refine ⟨(e - 1) - (a+1),by omega,a+1,e - 1,?_,rfl,by omega,by omega,?_,rfl⟩
   ·have e1:(a:Int)+1=((a+1:Nat):Int):=by omega
    have e2:(e:Int) - 1=((e - 1:Nat):Int):=by omega
    rw[<-e1, <-e2]
    rfl
   ·rw[<-hc,hw,nN ey]
  ·have ey:r[a]≠aC r[e - 1]:=fun w=>y (decide_eq_true (by rw[w]))
   walk_at "rd"
   exact fin (by rw[hw,fD ey])
 ·have z1: ¬(2:Int)<=(e:Int) - (a:Int):=fun w=>z (decide_eq_true w)
  walk_at "rd"
  exact fin (fI (by rw[Gk h2];omega))
theorem uw:bC P w K mg base eR 4 Lp L1 ["word"] (zh K):=by
 have yC:=wq (P:=P) (w:=w) (base:=base) T
 refine T.Bw.fn.ok jA (fun vs H Q E h=>CT h) (fun cx A outer s H vs Q E hr h=>?_)
 refine ⟨_,(ag (ao (i:=1) jA.nd rfl (Or.inl rfl) (ak yC (hr.mono (by decide)) rfl T.Pu.mg T.Pu.fn.kp T.Pu.bd .nil aB (aa (pv 0) ae)))
   (ag (ao (i:=2) jA.nd rfl (Or.inl rfl) (pv 1))
   (ag (ck PassesOwn.never rfl (qK rfl T.z_range (aa aj (aa (aD aR rfl T.z_len W_ (aa (pv 1) ae)) ae))) (aQ (i:=3) jA.nd rfl (Or.inl rfl)) (ag (ao (i:=4) jA.nd rfl (Or.inl rfl) (aE gP (bO m8 (pv 1) (bK (pv 3)) dc) (bO m8 (pv 1) dc (bK (pv 3)))))
   (ai (bV (aI sS (pv 4) (pv 2) (aT _)) (ai (ao (i:=2) jA.nd rfl (Or.inl rfl) (pv 4))) bu))))
   (ai (aG (pv 2)))))),?_⟩
 obtain ⟨l,rfl,hl,hz,q⟩:=h
 have hs:(100000:Nat)<sizeLine:=by decide
 refine ⟨_,rfl,l,rfl,hl,hz,fun H1 s1=>?_⟩
 have N9:(core (red l)).length<=1000:=Xt (vH _) (Xt (kN l) hz)
 unfold bP b9 at q
 generalize core (red l)=c at N9 q ⊢
 have Vq:c.length<=sizeLine:=by omega
 walk_at "rd"
 refine ⟨_,_,rfl,⟨by decide,by decide,by omega,by omega⟩,?_⟩
 refine fB (fun i σ H'=>H'=H1/\ ∃sv bv,σ=[some (.str (S l)),some (.str (S c)),some (.str (S (bZ c (iw c i)))),sv,bv]) ⟨rfl,none,none,rfl⟩ ?_ ?_
 ·rintro i σ H2 hi ⟨rfl,sv,bv,rfl⟩
  have e1:(1:Int)+(i:Int)=((i+1:Nat):Int):=by omega
  rw[e1]
  have hlen:(cut c (some ((i+1:Nat):Int)) none).length+(cut c none (some ((i+1:Nat):Int))).length<=sizeLine:=by rw[eM,iQ,Xn,Xh];omega
  have Ks:cut c (some ((i+1:Nat):Int)) none++cut c none (some ((i+1:Nat):Int))=dk c (i+1):=by rw[eM,iQ];rfl
  walk_at "rd"
  rw[Ks]
  refine bS (fun z=>?_) (fun z=>?_)
  ·have z':dk c (i+1)<bZ c (iw c i):=of_decide_eq_true z
   have hle:bZ c (iw c (i+1))=dk c (i+1):=by rw[rh,gX];unfold cO;rw[if_pos z']
   refine ⟨_,rfl,?_⟩
   rw[hle]
   exact ⟨rfl,_,_,rfl⟩
  ·have z': ¬dk c (i+1)<bZ c (iw c i):=fun y=>z (decide_eq_true y)
   have hle:bZ c (iw c (i+1))=bZ c (iw c i):=by rw[rh,gX];unfold cO;rw[if_neg z']
   rw[hle]
   exact ⟨rfl,_,_,rfl⟩
 ·rintro σ H2 ⟨rfl,sv,bv,rfl⟩
  have e:((c.length:Int) - 1).toNat=c.length - 1:=by omega
  rw[e]
  exact ⟨_,rfl,q _ s1⟩
theorem G7:bC P w K mg base eR 5 Lq L3 ["word"] (zl K):=by
 have mJ:=uw (P:=P) (w:=w) (base:=base) T
 refine T.Pw.fn.ok n_ (fun vs H Q E h=>C0 h) (fun cx A outer s H vs Q E hr h=>?_)
 refine ⟨_,(ag (ao (i:=1) n_.nd rfl (Or.inl rfl) (ak mJ (hr.mono (by decide)) rfl T.Bw.mg T.Bw.fn.kp T.Bw.bd .nil aB (aa (pv 0) ae)))
   (ag (ck PassesOwn.never rfl (qK rfl T.z_range (aa aj (aa (aE bj (aD aR rfl T.z_len W_ (aa (pv 1) ae)) aj) ae))) (aQ (i:=2) n_.nd rfl (Or.inl rfl)) (ag (ao (i:=3) n_.nd rfl (Or.inl rfl) (aE dZ (aD aR rfl T.z_len W_ (aa (pv 1) ae)) (pv 2)))
   (ai (bV (aI gS (aE sV (bO m8 (pv 1) dc (bK (pv 2))) (pv 3)) (pv 1) (aT _)) (ai (aG (dq (aa (bO m8 (pv 1) dc (bK (pv 2))) (aa (pv 3) ae))))) bu))))
   (ai (aG (dq (aa (iJ [] (by decide+kernel)) (aa aj ae))))))),?_⟩
 obtain ⟨l,rfl,hl,hz,q⟩:=h
 have hs:(100000:Nat)<sizeLine:=by decide
 walk_at "wk"
 intro H1 s1
 have hw:(bP l).length<=1000:=Xt (rk l) hz
 generalize bP l=c at hw q ⊢
 have Vq:c.length<=sizeLine:=by omega
 walk_at "wk"
 refine ⟨_,_,rfl,⟨by decide,by decide,by omega,by omega⟩,?_⟩
 refine fB (fun i σ H'=>H'=H1/\(∀j,1<=j->j<=i-> ¬gz c j)/\ ∃sv tv,σ=[some (.str (S l)),some (.str (S c)),sv,tv]) ⟨rfl,fun j h1 h2=>by omega,none,none,rfl⟩ ?_ ?_
 ·rintro i σ H2 hi ⟨rfl,Mx,sv,tv,rfl⟩
  have e1:(1:Int)+(i:Int)=((i+1:Nat):Int):=by omega
  rw[e1]
  have e2:(c.length:Int) / ((i+1:Nat):Int)=((c.length / (i+1):Nat):Int):=(Y_ _ _).symm
  have hd:=Nat.div_le_self c.length (i+1)
  have hmul:(c.take (i+1)).length*(c.length / (i+1))<=sizeLine:=by
   have h1:(c.take (i+1)).length<=i+1:=by rw[Xh];omega
   have h2:=Nat.mul_div_le c.length (i+1)
   have h3:=Nat.mul_le_mul_right (c.length / (i+1)) h1
   omega
  walk_at "wk"
  refine ⟨⟨by rw[e2];exact ZU _,by rw[e2];exact Int.ofNat_le.mpr (Xt hd (by omega:c.length<=1000000))⟩,by rw[e2,eM,UA];exact hmul,?_⟩
  walk_at "wk"
  refine bS (fun z=>?_) (fun z=>?_)
  ·have z1:gz c (i+1):=by
    have:=of_decide_eq_true z
    rw[e2,eM,UA]at this
    exact this
   walk_at "wk"
   intro p np
   refine q p (i+1) _ (aq.free s1 np) ?_ (.inr ⟨by omega,by omega,z1,fun j j1 j2=>Mx j j1 (by omega)⟩) (s1.trans (aq.upd np))
   rw[ah]
   unfold HQ
   rw[<-eM, <-e2]
  ·have z1: ¬gz c (i+1):=fun y=>z (decide_eq_true (by
    rw[e2,eM,UA]
    exact y))
   refine ⟨rfl,fun j j1 j2=>?_,_,_,rfl⟩
   by_cases y:j=i+1
   ·rw[y];exact z1
   ·exact Mx j j1 (by omega)
 ·rintro σ H2 ⟨rfl,Mx,sv,tv,rfl⟩
  have hc:c=[]:=by
   by_cases z:c=[]
   ·exact z
   ·have hl:0<c.length:=SE.mpr z
    exact absurd (A6 c z) (Mx _ hl (by omega))
  subst hc
  walk_at "wk"
  intro p np
  exact q p 0 _ (aq.free s1 np) (by rw[ah];rfl) (.inl ⟨rfl,rfl⟩) (s1.trans (aq.upd np))
theorem wx:bC P w K mg base eR 1 f2 d2 ["yard"] (vJ K):=by
 refine T.F2.fn.ok EA (fun vs H Q E h=>A_ h) (fun cx A outer s H vs Q E hr h=>?_)
 refine ⟨_,(ai (aG (bL K rfl Xc Yh Yg (fH K rfl) (iJ [] (by decide+kernel)) (aa (aD (gT K rfl) rfl T.z_sorted boot_sorted (aa (cV ["letter"] [none] (gR (pv 0)) trivial (fun _ _ _ _=>(aQ (i:=0) (by decide+kernel:List.Nodup (["letter"]:List Str)) rfl (Or.inl rfl))) (fun _ _ _ _=>(sO (gM (dW K rfl Xc Zr Zq j5 (pv 0))))) (fun _ _ _ _=>(pv 0))) ae)) ae)))),?_⟩
 obtain ⟨l,rfl,hl,hz,q⟩:=h
 have hs:(1000:Nat)<sizeLine:=by decide
 refine ⟨rfl,_,rfl,l,rfl,?_⟩
 refine fG (xs:=cg l) (fun i acc H'=>aq H H'/\acc=cg ((l.take i).filter aA)) (by rw[aN];omega) ⟨aq.refl H,rfl⟩ ?_ ?_
 ·rintro i x acc H1 Nx hi hx wz ⟨s1,rfl⟩ nx
  obtain ⟨c,hc,rfl⟩:=dU hx
  have e:=iT (p:=aA) hc
  refine ⟨trivial,?_⟩
  refine ⟨_,rfl,rfl,c,rfl,rfl,hl c (W9 hc),_,rfl,?_⟩
  refine bS (fun z=>?_) (fun z=>?_)
  ·rw[if_pos z]at e
   exact ⟨_,rfl,nx _ _ (by simpa using wz) ⟨s1,by rw[e, <-cW]⟩⟩
  ·rw[if_neg z,Xy]at e
   exact nx _ _ (Y1 wz) ⟨s1,by rw[e]⟩
 ·rintro acc H1 D wz ⟨s1,rfl⟩ hD
  rw[iP,dh]
  have Rz:(l.filter aA).length<=l.length:=X_ _ _
  refine ⟨D,(l.filter aA).map fun c=>[c],rfl,bA.of ah,by rw[K4];omega,fun p ls hp lJ G8=>?_⟩
  obtain ⟨l',rfl,pl⟩:=yZ lJ
  have yL:=pl.length_eq
  refine ⟨p,l'.map fun c=>[c],rfl,rfl,bA.of ah,by rw[vE];omega,?_⟩
  rw[mV]
  exact q l' _ pl (y0 G8) ((s1.trans (aq.upd hD)).trans (aq.upd hp))
theorem qy:bC P w K mg base eR 2 f5 d5 ["yard","drawing","end"] (jP K):=by
 have ux:=wx (P:=P) (w:=w) (base:=base) T
 refine T.F5.fn.ok jU (fun vs H Q E h=>o6 h) (fun cx A outer s H vs Q E hr h=>?_)
 refine ⟨_,(ag (ao (i:=3) jU.nd rfl (Or.inl rfl) (cI (gg K rfl) rfl T.z_list boot_list (aa (aV (bB K rfl) (aV (bB K rfl) (pv 1) aj (fun _ _=>rfl)) (bL K rfl Xc Y0 YY jk (ak ux (hr.mono (by decide)) rfl T.F2.mg T.F2.fn.kp T.F2.bd .nil aB (aa (pv 0) ae)) (aa (dW K rfl Xc YZ YX kF (pv 2)) ae)) (fun _ _=>rfl)) ae)))
   (ag (bV (gM (dW K rfl Xc PySem.F.slot_str_isupper PySem.F.type_str_isupper xp (pv 2))) (ai (da (dW K rfl Xs PySem.F.slot_list_reverse PySem.F.type_list_reverse xi (pv 3)))) bu)
   (ai (aG (pv 3))))),?_⟩
 obtain ⟨y,dr,ws,os,e,rfl,hy,hz,he,ho,hd,q⟩:=h
 have hs:(100000:Nat)<sizeLine:=by decide
 have PV: ∀c∈y,c<128:=CO hy.lt
 have Tg:=PV e he
 obtain ⟨⟨wt,ot,d1,d2,d3⟩,dO⟩:=hd
 obtain ⟨o,o1,o2,o3⟩:=i6 hy he ho
 refine ⟨_,rfl,dr,_,1,_,rfl,rfl,cT.of d1,rfl,?_⟩
 refine ⟨_,rfl,y,rfl,PV,by omega,fun l' H1 yL Lf s1=>?_⟩
 have el:=zP yL Lf
 subst el
 refine ⟨rfl,_,rfl,rfl,e,rfl,rfl,Tg,?_⟩
 refine ⟨fA y,_,rfl,rfl,DB hy he,?_⟩
 refine ⟨ot,_,_,_,rfl,rfl,cT.of (s1 _ _ d3),bY (JW o2),?_⟩
 refine ⟨o.o,_,rfl, .inr (cT.of (s1 _ _ (dO o o1).tp)),fun p1 n1=>?_⟩
 refine ⟨_,rfl,rfl,e,rfl,rfl,Tg,_,rfl,bS (fun z=>?_) (fun z=>?_)⟩
 ·refine ⟨_,rfl, .inl ⟨rfl,_,bA.of ah⟩,p1,_,rfl,rfl,ah,?_⟩
  refine ⟨_,rfl,q p1 _ (aq.free s1 n1) ?_ ?_⟩
  ·rw[ah,GH]
   unfold nW
   rw[if_pos z,o3]
  ·exact fun a u ea=>by rw[ay (az ea (aq.free s1 n1)),ay (az ea (aq.free s1 n1))];exact s1 a u ea
 ·refine ⟨_,rfl,q p1 _ (aq.free s1 n1) ?_ (s1.trans (aq.upd n1))⟩
  rw[ah]
  unfold nW
  rw[if_neg z,o3]
theorem BB:bC P w K mg base eR 3 f6 d6 ["yard","drawing"] (rL K):=by
 have uA:=qy (P:=P) (w:=w) (base:=base) T
 refine T.F6.fn.ok jz (fun vs H Q E h=>x_ h) (fun cx A outer s H vs Q E hr h=>?_)
 refine ⟨_,(ag (ao (i:=2) jz.nd rfl (Or.inl rfl) (dS ae))
   (ag (ck PassesOwn.never rfl (gR (pv 0)) (aQ (i:=3) jz.nd rfl (Or.inl rfl)) (ai (ck PassesOwn.never rfl (gy K rfl (ak uA (hr.mono (by decide)) rfl T.F5.mg T.F5.fn.kp T.F5.bd .nil aB (aa (pv 0) (aa (pv 1) (aa (pv 3) ae))))) (aQ (i:=4) jz.nd rfl (Or.inl rfl)) (ai (da (bL K rfl Xs XR XQ de (pv 2) (aa (dq (aa (aV (bB K rfl) (pv 4) aj (fun _ _=>rfl)) (aa (aV (bB K rfl) (pv 4) aj (fun _ _=>rfl)) (aa (pv 3) ae)))) ae)))))))
   (ai (aG (pv 2))))),?_⟩
 obtain ⟨y,dr,ws,os,rfl,hy,hz,ho,hd,q⟩:=h
 have hs:(100000:Nat)<sizeLine:=by decide
 walk_at "wk"
 intro p1 n1
 refine ⟨_,rfl,y,rfl,?_⟩
 refine nJ (xs:=cg y) (fun i σ H'=> ∃(ps:List Pt) (ev sv:Option V),σ=[some (.str (S y)),some (.ref dr),some (.ref p1),ev,sv]/\H' p1=some (.lst (E9 ps))/\(∀p∈ps,qv H' p/\p.t≠p1)/\ps.map Pt.is=(y.take i).flatMap (ft y os)/\ps.length<=100*i/\aW p1 H H') ⟨[],none,none,rfl,ah,fun _ h=>absurd h Xg,rfl,Xb _,aW.of (aq.upd n1)⟩ ?_ ?_
 ·rintro i x σ H1 hx ⟨ps,ev,sv,rfl,hp,Ac,lD,jI,s1⟩
  obtain ⟨e,he,rfl⟩:=dU hx
  have zR:=W9 he
  have hi:i<y.length:=(Je.mp he).1
  have Kt:aq H H1:=fun a u ea=>s1 a u ea (az ea n1)
  refine ⟨_,rfl,_,rfl,_,rfl,y,dr,ws,os,e,rfl,hy,hz,zR,ho,hd.same Kt,fun p2 H2 n2 jF s2=>?_⟩
  have HN:=GK (H:=H) hy zR ho hd.od
  refine ⟨p2,rfl,⟨_,bA.of jF⟩,?_⟩
  have Vr:p2≠p1:=fun z=>by rw[z,hp]at n2;cases n2
  refine iF (K:=K) (a:=p2) (xs:=rK (nW y os e)) (fun j σ H'=> ∃(us:List Pt) (sv:Option V),σ=[some (.str (S y)),some (.ref dr),some (.ref p1),some (.str (S [e])),sv]/\H' p1=some (.lst (E9 us))/\H' p2=some (.lst (rK (nW y os e)))/\(∀p∈us,qv H' p/\p.t≠p1)/\us.map Pt.is=ps.map Pt.is++((nW y os e).take j).map (fun p=>(p.c,p.i,e))/\us.length<=100*i+j/\aW p1 H1 H')
   ⟨ps,sv,rfl,s2 _ _ hp,jF,fun p xT=>⟨(Ac p xT).1.same s2,(Ac p xT).2⟩,by simp,by omega,aW.of s2⟩ (fun j σ H' _ ⟨_,_,_,_,h,_⟩=>bA.of h) ?_ ?_
  ·rintro j x σ H3 RA ⟨us,Vs,rfl,uC,Ow,Ox,BC,Fd,s3⟩
   obtain ⟨p,RB,rfl⟩:=DD RA
   obtain ⟨o,oo,po⟩:=GJ hy zR ho (W9 RB)
   have hj:j<(nW y os e).length:=(Je.mp RB).1
   have EC:aq H H3:=fun a u ea=>s3 a u (Kt a u ea) (az ea n1)
   have pk:=(hd.od o oo).pr p po
   have tp:=EC _ _ pk.tp
   refine ⟨_,rfl, .inl ⟨rfl,_,bA.of uC⟩,?_⟩
   refine ⟨_,rfl,p.t,_,0,_,rfl,rfl,cT.of tp,rfl,_,rfl,p.t,_,1,_,rfl,rfl,cT.of tp,rfl,?_⟩
   walk_at "wk"
   intro t nt
   have BS:t≠p1:=fun z=>by rw[z,uC]at nt;cases nt
   refine ⟨p1,_,_,rfl,rfl,(aq.upd nt) _ _ uC,by rw[zQ];omega,?_⟩
   refine ⟨us++[⟨t,p.c,p.i,e⟩],_,rfl,by rw[ah];exact congrArg (fun x=>some (HO.lst x)) (DF us ⟨t,p.c,p.i,e⟩),by rw[ay Vr];exact (aq.upd nt) _ _ Ow,fun r hr=>?_,?_,by rw[SD];show us.length+1<=_;omega,fun a u ea z=>by rw[ay z];exact (aq.upd nt) _ _ (s3 a u ea z)⟩
   ·rcases WJ.mp hr with z | z
    ·exact ⟨((Ox r z).1.same (aq.upd nt)).upd (Ox r z).2,(Ox r z).2⟩
    ·have e2:=O8.mp z
     subst e2
     exact ⟨qv.upd ⟨ah,pk.cz,pk.iz,(hy.lt e zR).lt⟩ BS,BS⟩
   ·rw[WI,BC, <-take_snoc RB,WI,Xx]
    rfl
  ·rintro σ H3 ⟨us,Vs,rfl,uC,Ow,Ox,BC,Fd,s3⟩
   rw[ua]at Fd BC
   refine ⟨us,_,_,rfl,uC,Ox,?_,by omega,fun a u ea z=>s3 a u (s1 a u ea z) z⟩
   rw[BC,lD, <-take_snoc he,XU,Yb,XE,Z6,Xy]
   rfl
 ·rintro σ H1 ⟨ps,ev,sv,rfl,hp,Ac,lD,jI,s1⟩
  rw[aN]at jI lD
  rw[Yb]at lD
  exact ⟨_,rfl,q p1 ps H1 n1 hp Ac lD (by omega) (fun a u ea=>s1 a u ea (az ea n1))⟩
theorem mK:bC P w K mg base eR 2 f7 d7 ["word","cord","place"] (gF K):=by
 have bM:=c_ (P:=P) (w:=w) (base:=base) T
 refine T.F7.fn.ok gI (fun vs H Q E h=>kY h) (fun cx A outer s H vs Q E hr h=>?_)
 refine ⟨_,(ag (ao (i:=3) gI.nd rfl (Or.inl rfl) (aE eI (aE dm (pv 2) aj) (aD aR rfl T.z_len W_ (aa (pv 0) ae))))
   (ai (aG (dq (aa (dq (aa (pv 1) (aa (pv 3) (aa (ak bM (hr.mono (by decide)) rfl T.F0.mg T.F0.fn.kp T.F0.bd .nil aB (aa (aV gQ (pv 0) (pv 3) (fun _ _=>rfl)) ae)) ae)))) (aa (dq (aa (pv 1) (aa (pv 2) (aa (aV gQ (pv 0) (pv 2) (fun _ _=>rfl)) ae)))) ae)))))),?_⟩
 obtain ⟨w,c,i,rfl,RC,hi,hz,q⟩:=h
 have hs:(100000:Nat)<sizeLine:=by decide
 have hp:(0:Int)<(w.length:Int):=by omega
 have Vt:=zS hi
 have jI:=yg hi
 have e1:w.getD (wL w.length i) 0=w[wL w.length i]:=by rw[UC,Jd jI];rfl
 have e2:w.getD i 0=w[i]:=by rw[UC,Jd hi];rfl
 rw[e1,e2]at q
 refine ⟨_,rfl,_,_,rfl,rfl,_,rfl,w,rfl,by omega,_,_,rfl,rfl,hp,?_⟩
 show uS 3 (V.int (((i:Int) - 1)%(w.length:Int))) _ _ _
 rw[Vt]
 refine ⟨_,rfl,_,rfl,_,rfl,_,rfl,w,_,_,rfl,rfl,by omega,bY (Jd jI),_,rfl,RC _ (Xp jI),by show 3<=sizeLine;decide,fun t1 n1=>?_⟩
 refine ⟨_,rfl,_,rfl,_,rfl,_,rfl,w,_,_,rfl,rfl,by omega,bY (Jd hi),by show 3<=sizeLine;decide,fun t2 n2=>?_⟩
 refine ⟨by show 2<=sizeLine;decide,fun t nt=>?_⟩
 have RD:=(aq.upd (o:= .tup [.ref t1, .ref t2]) nt)
 refine q t t1 t2 _ ah (RD _ _ ((aq.upd n2) _ _ ah)) (RD _ _ ah) ((aq.upd n1).trans ((aq.upd n2).trans RD))
theorem pZ:bC P w K mg base eR 4 f8 d8 ["yard","drawing"] (o8 K):=by
 have ED:=BB (P:=P) (w:=w) (base:=base) T
 have nC:=mK (P:=P) (w:=w) (base:=base) T
 refine T.F8.fn.ok cE (fun vs H Q E h=>vX h) (fun cx A outer s H vs Q E hr h=>?_)
 refine ⟨_,(ag (ao (i:=2) cE.nd rfl (Or.inl rfl) CJ)
   (ag (ck PassesOwn.never rfl (vh K rfl rfl T.z_enumerate (aa (ak ED (hr.mono (by decide)) rfl T.F6.mg T.F6.fn.kp T.F6.bd .nil aB (aa (pv 0) (aa (pv 1) ae))) ae)) (kH (n:=2) K rfl rfl (dA (aQ (i:=3) cE.nd rfl (Or.inl rfl)) (dA (aQ (i:=4) cE.nd rfl (Or.inl rfl)) ku))) (ai (nM (kA hr) (pv 2) (pv 4) (pv 3) rfl)))
   (ag (ao (i:=5) cE.nd rfl (Or.inl rfl) (dS ae))
   (ag (ck PassesOwn.never rfl (vg K rfl rfl T.z_enumerate (aa (aV (bB K rfl) (pv 1) aj (fun _ _=>rfl)) ae)) (kH (n:=2) K rfl rfl (dA (aQ (i:=6) cE.nd rfl (Or.inl rfl)) (dA (aQ (i:=7) cE.nd rfl (Or.inl rfl)) ku))) (ai (ck PassesOwn.never rfl (gx rfl T.z_range (aa (aD aR rfl T.z_len W_ (aa (pv 7) ae)) ae)) (aQ (i:=8) cE.nd rfl (Or.inl rfl)) (ag (ao (i:=9) cE.nd rfl (Or.inl rfl) (ak nC (hr.mono (by decide)) rfl T.F7.mg T.F7.fn.kp T.F7.bd .nil aB (aa (pv 7) (aa (pv 6) (aa (pv 8) ae)))))
   (ai (da (bL K rfl Xs XR XQ de (pv 5) (aa (dq (aa (pv 6) (aa (pv 8) (aa (nL (kA hr) (pv 2) (aV (bB K rfl) (pv 9) aj (fun _ _=>rfl)) (fun _ _=>rfl)) (aa (nL (kA hr) (pv 2) (aV (bB K rfl) (pv 9) aj (fun _ _=>rfl)) (fun _ _=>rfl)) ae))))) ae))))))))
   (ai (aG (pv 5))))))),?_⟩
 obtain ⟨y,dr,ws,os,rfl,hy,hz,wQ,PX,hd,q⟩:=h
 have hs:(100000:Nat)<sizeLine:=by decide
 have Vu:=DI hy PX
 have Vv:=i5 hy
 have JX:=PX.1
 have WQ:=wQ.lU
 obtain ⟨⟨wt,ot,d1,d2,d3⟩,dO⟩:=id hd
 walk_at "wk"
 intro d nd
 refine ⟨_,rfl,_,rfl,y,dr,ws,os,rfl,hy,hz,by omega,hd.same (aq.upd nd),fun p1 ps H1 n1 nX Ac lD Ru s1=>?_⟩
 have Th:=s1 _ _ (ah (H:=H) (a:=d) (o:=HO.dT []))
 have Kt:aq H H1:=(aq.upd nd).trans s1
 have jI:ps.length=(kj y os).length:=by rw[<-lD,K4]
 refine ⟨p1,rfl,⟨_,bA.of nX⟩,?_⟩
 have Vw:p1≠d:=fun z=>by rw[z,ah]at n1;cases n1
 refine q5 (K:=K) (a:=p1) (xs:=E9 ps) (fun i σ H'=> ∃(aL:List (List Key×V)) (nv pv:Option V),σ=[some (.str (S y)),some (.ref dr),some (.ref d),nv,pv,none,none,none,none,none]/\H' d=some (.dT aL)/\Nums (kj y os) aL i/\aL.length<=i/\aW d H1 H')
  ⟨[],none,none,rfl,Th,fun p hp=>absurd hp (by simp),Xb _,aW.refl _ _⟩ (fun i σ H' _ ⟨_,_,_,_,_,_,_,h⟩=>bA.of (h _ _ nX Vw)) ?_ ?_
 ·rintro i x σ H2 T hx ⟨aL,nv,pv,rfl,hd2,G9,RE,s2⟩ nT
  obtain ⟨p,hp,rfl⟩: ∃p,ps[i]? =some p/\x=V.ref p.t:=by
   unfold E9 at hx
   rw[Xd]at hx
   cases e:ps[i]? with
   | none=>rw[e]at hx;cases hx
   | some p=>rw[e]at hx;cases hx;exact ⟨p,rfl,rfl⟩
  have hi:i<ps.length:=(Je.mp hp).1
  have pk:=(Ac p (W9 hp)).1.tp
  have Vx:p.t≠d:=fun z=>by rw[z,Th]at pk;cases pk
  have Vy:d≠T:=az hd2 nT
  refine ⟨T,_,rfl,cT.of ah,rfl,_,_,rfl,_,_,rfl,rfl,?_⟩
  refine ⟨_,rfl,_,rfl,_,rfl,d,_,rfl,qq.t (k:=uc p.is) (by rw[ay Vy];exact hd2) ((aq.upd nT) _ _ (s2 _ _ pk Vx)) (by omega),?_⟩
  exact ⟨_,_,_,rfl,ah,G9.put Vu (Ol lD hp),Xt (eV _ _ _) (by omega),fun a o ea z=>by rw[ay z];exact (aq.upd nT) _ _ (s2 a o ea z)⟩
 ·rintro σ H2 ⟨aL,nv,pv,rfl,hd2,G9,RE,s2⟩
  rw[zQ,jI]at G9
  have Ic: ∀p∈kj y os,cU aL (uc p)=some (.int ((kj y os).idxOf p:Nat)):=fun p hp=>G9 p (by rw[Yb];exact hp)
  have qz:aq H H2:=fun a o ea=>s2 a o (Kt a o ea) (az ea nd)
  walk_at "wk"
  intro p2 n2
  have RF:=aq.upd (o:= .lst []) n2
  have Vz:H p2=none:=aq.free qz n2
  refine ⟨_,rfl,dr,_,0,_,rfl,rfl,cT.of (RF _ _ (qz _ _ d1)),rfl,?_⟩
  refine ⟨wt,rfl,⟨_,cT.of (RF _ _ (qz _ _ d2))⟩,?_⟩
  refine q0 (K:=K) (a:=wt) (xs:=dI ws) (fun j σ H'=> ∃(qs:List Q4) (cv wv iv av:Option V),σ=[some (.str (S y)),some (.ref dr),some (.ref d),nv,pv,some (.ref p2),cv,wv,iv,av]/\H' p2=some (.lst (nq qs))/\(∀x∈qs,qw H' x)/\qs.map Q4.v=fZ (kj y os) ws j/\qs.length<=12*j/\aq H2 H')
   ⟨[],none,none,none,none,rfl,ah,fun _ h=>absurd h Xg,rfl,Xb _,RF⟩ (fun j σ H' _ ⟨_,_,_,_,_,_,_,_,_,_,h⟩=>cT.of (h _ _ (qz _ _ d2))) ?_ ?_
  ·rintro j x σ H3 T hx ⟨qs,cv,wv,iv,av,rfl,uC,G_,Ad,PY,s3⟩ nT
   have hj:j<ws.length:=by
    have:=(Je.mp hx).1
    rwa [bD]at this
   rw[gW hj]at hx
   cases hx
   have Ku:ws[j]? =some ws[j]:=Jd hj
   obtain ⟨Ha,lK⟩:=wQ.all _ (Xp hj)
   generalize ws[j]=w at Ku Ha lK ⊢
   have RC: ∀l∈w,l<128:=fun l hl=>(hy.lt l (Ha l hl)).lt
   have sT:=aq.upd (o:= .tup [.int j, .str (S w)]) nT
   refine ⟨T,_,rfl,cT.of ah,rfl,_,_,rfl,_,_,rfl,rfl,?_⟩
   refine ⟨_,rfl,w,rfl,by omega,_,rfl,by omega,by omega,?_⟩
   rw[UA]
   refine fB (fun i σ H'=> ∃(us:List Q4) (iv av:Option V),σ=[some (.str (S y)),some (.ref dr),some (.ref d),nv,pv,some (.ref p2),some (.int j),some (.str (S w)),iv,av]/\H' p2=some (.lst (nq us))/\(∀x∈us,qw H' x)/\us.map Q4.v=fZ (kj y os) ws j++ml (kj y os) j w i/\us.length<=12*j+i/\aq H2 H')
    ⟨qs,iv,av,rfl,sT _ _ uC,fun x hx=>(G_ x hx).ts (dY.of sT),by rw[Ad];show _=_++[];rw[Xy],by omega,s3.trans sT⟩ ?_ ?_
   ·rintro i σ H4 hi ⟨us,VA,VB,rfl,Ie,uZ,BC,Fd,s4⟩
    have e1:w[wL w.length i]? =some (w.getD (wL w.length i) 0):=by rw[UC,Jd (yg hi)];rfl
    have e2:w[i]? =some (w.getD i 0):=by rw[UC,Jd hi];rfl
    have m1:=Ic _ (DJ hy PX Ku e1 (Ha _ (W9 e1)) (.inr rfl))
    have m2:=Ic _ (DJ hy PX Ku e2 (Ha _ (W9 e2)) (.inl rfl))
    refine ⟨_,rfl,_,rfl,_,rfl,w,j,i,by rw[Y5];rfl,RC,hi,by omega,fun t t1 t2 H5 ht BS Mz s5=>?_⟩
    have VC:=s5 _ _ Ie
    have Ti:=s5 _ _ (s4 _ _ hd2)
    refine ⟨_,rfl, .inl ⟨rfl,_,bA.of VC⟩,_,rfl,_,rfl,?_⟩
    refine ⟨_,rfl,_,rfl,t,_,0,_,rfl,rfl,cT.of ht,rfl,d,_,rfl,by rw[<-m1];exact kI.t Ti BS,?_⟩
    refine ⟨_,rfl,_,rfl,t,_,1,_,rfl,rfl,cT.of ht,rfl,d,_,rfl,by rw[<-m2];exact kI.t Ti Mz,?_⟩
    rw[Y5]
    refine ⟨by show 4<=sizeLine;decide,fun tq VD=>?_⟩
    have s6:=s5.trans (aq.upd (o:= .tup [.int j, .int i, .int ((kj y os).idxOf (j,wL w.length i,aC (w.getD (wL w.length i) 0)):Nat), .int ((kj y os).idxOf (j,i,w.getD i 0):Nat)]) VD)
    have RG:=s6 _ _ Ie
    refine ⟨p2,_,_,rfl,rfl,RG,by rw[zT];omega,?_⟩
    refine ⟨us++[⟨tq,gE (kj y os) j w i⟩],_,_,rfl,by rw[ah];exact congrArg (fun x=>some (HO.lst x)) (DL us ⟨tq,gE (kj y os) j w i⟩),fun x hx=>?_,by rw[WI,BC,vW,Xx];rfl,by rw[SD];show us.length+1<=_;omega,fun a o ea=>by rw[ay (az ea n2)];exact s6 _ _ (s4 a o ea)⟩
    rcases WJ.mp hx with g | g
    ·exact (uZ x g).ts ((dY.of s6).trans (dY.FV RG))
    ·have e3:=O8.mp g
     subst e3
     exact (dY.FV RG) _ _ ah
   ·rintro σ H4 ⟨us,VA,VB,rfl,Ie,uZ,BC,Fd,s4⟩
    exact ⟨us,_,_,_,_,rfl,Ie,uZ,by rw[BC,ud Ku],by omega,s4⟩
  ·rintro σ H3 ⟨qs,cv,wv,iv,av,rfl,uC,G_,Ad,PY,s3⟩
   rw[bD]at Ad
   exact ⟨_,rfl,q p2 qs H3 Vz uC G_ Ad (qz.trans s3)⟩
theorem r_:bC P w K mg base eR 2 f1 d1 ["word"] (ra K):=by
 have bM:=c_ (P:=P) (w:=w) (base:=base) T
 refine T.F1.fn.ok Bx (fun vs H Q E h=>xD h) (fun cx A outer s H vs Q E hr h=>?_)
 refine ⟨_,(ai (aG (bL K rfl Xc Yh Yg (fH K rfl) (iJ [] (by decide+kernel)) (aa (cV ["letter"] [none] (Cv rfl T.z_reversed (aa (pv 0) ae)) trivial (fun _ _ _ _=>(aQ (i:=0) (by decide+kernel:List.Nodup (["letter"]:List Str)) rfl (Or.inl rfl))) (fun _ _ _ _=>iI) (fun _ _ _ _=>(ak bM (hr.mono (by decide)) rfl T.F0.mg T.F0.fn.kp T.F0.bd .nil aB (aa (pv 0) ae)))) ae)))),?_⟩
 obtain ⟨l,rfl,hc,hz,q⟩:=h
 have hs:(1000:Nat)<sizeLine:=by decide
 refine ⟨rfl,_,rfl,l,rfl,by omega,?_⟩
 rw[ze]
 refine fG (xs:=cg l.reverse) (fun i acc H'=>aq H H'/\acc=cg ((l.reverse.take i).map aC)) (by rw[aN,XA];omega) ⟨aq.refl H,rfl⟩ ?_ ?_
 ·rintro i x acc H1 Nx hi hx hl ⟨s1,rfl⟩ nx
  obtain ⟨c,qj,rfl⟩:=dU hx
  refine ⟨trivial,fW ⟨_,rfl,c,rfl,hc c (Zw.mp (W9 qj)),nx _ _ (by simpa using hl) ⟨s1,?_⟩⟩⟩
  rw[cW, <-take_snoc qj,WI]
  rfl
 ·rintro acc H1 D hl ⟨s1,rfl⟩ hD
  refine ⟨D,(gv l).map fun c=>[c],rfl,rfl,bA.of ?_,?_,?_⟩
  ·rw[ah, <-dh,aN,Xo (SA _),YL]
   rfl
  ·rw[vE]
   unfold gv
   rw[XA,K4]
   omega
  ·rw[mV]
   exact q _ (s1.trans (aq.upd hD))
theorem qA:bC P w K mg base eR 1 Ll LX ["words","band"] (jR K):=by
 refine T.Po.fn.ok cL (fun vs H Q E h=>pj h) (fun cx A outer s H vs Q E hr h=>?_)
 refine ⟨_,(ag (ao (i:=2) cL.nd rfl (Or.inl rfl) (dS ae))
   (ag (ck PassesOwn.never rfl (vg K rfl rfl T.z_enumerate (aa (pv 0) ae)) (kH (n:=2) K rfl rfl (dA (aQ (i:=3) cL.nd rfl (Or.inl rfl)) (dA (aQ (i:=4) cL.nd rfl (Or.inl rfl)) ku))) (ai (ck PassesOwn.never rfl (CB rfl T.z_enumerate (aa (pv 4) ae)) (kH (n:=2) K rfl rfl (dA (aQ (i:=5) cL.nd rfl (Or.inl rfl)) (dA (aQ (i:=6) cL.nd rfl (Or.inl rfl)) ku))) (ai (bV (aI gS (dW K rfl Xc YZ YX kF (pv 6)) (pv 1) (aT _)) (ai (da (bL K rfl Xs XR XQ de (pv 2) (aa (dq (aa (pv 3) (aa (pv 5) ae))) ae)))) bu)))))
   (ai (aG (pv 2))))),?_⟩
 obtain ⟨wt,ws,band,rfl,p5,hf,hw,hb,q⟩:=h
 have hs:(100000:Nat)<sizeLine:=by decide
 walk_at "wk"
 intro p1 n1
 refine ⟨_,rfl,wt,rfl,⟨_,cT.of ((aq.upd n1) _ _ p5)⟩,?_⟩
 refine q0 (K:=K) (a:=wt) (xs:=dI ws) (fun j σ H'=> ∃(ps:List Pr) (cv wv pv lv:Option V),σ=[some (.ref wt),some (.str (S [band])),some (.ref p1),cv,wv,pv,lv]/\H' p1=some (.lst (rK ps))/\(∀p∈ps,nk H' p)/\ps.map Pr.pair=cY band ws j/\ps.length<=12*j/\aq H H')
  ⟨[],none,none,none,none,rfl,ah,fun _ h=>absurd h Xg,rfl,Xb _,aq.upd n1⟩ (fun j σ H' _ ⟨_,_,_,_,_,_,_,_,_,_,h⟩=>cT.of (h _ _ p5)) ?_ ?_
 ·rintro j x σ H1 T hx ⟨ps,cv,wv,pv,lv,rfl,hp,Ac,lD,jI,s1⟩ nT
  have hj:j<ws.length:=by
   have:=(Je.mp hx).1
   rwa [bD]at this
  rw[gW hj]at hx
  cases hx
  have Ku:ws[j]? =some ws[j]:=Jd hj
  obtain ⟨uJ,lK⟩:=hw _ (Xp hj)
  generalize ws[j]=w at Ku uJ lK ⊢
  refine ⟨T,_,rfl,cT.of ah,rfl,_,_,rfl,_,_,rfl,rfl,?_⟩
  have sT:=aq.upd (o:= .tup [.int j, .str (S w)]) nT
  refine ⟨_,rfl,w,rfl,?_⟩
  refine CC (l:=w) (fun m σ H'=> ∃(us:List Pr) (pv lv:Option V),σ=[some (.ref wt),some (.str (S [band])),some (.ref p1),some (.int j),some (.str (S w)),pv,lv]/\H' p1=some (.lst (rK us))/\(∀p∈us,nk H' p)/\us.map Pr.pair=cY band ws j++ie band j w m/\us.length<=12*j+m/\aq H H')
   ⟨ps,pv,lv,rfl,sT _ _ hp,fun p xT=>(Ac p xT).same sT,by rw[lD];show _=_++[];rw[Xy],by omega,s1.trans sT⟩ ?_ ?_
  ·rintro m l σ H2 T2 hm ⟨us,VE,RH,rfl,jF,uZ,BC,Fd,s2⟩ VF
   have WR:m<w.length:=(Je.mp hm).1
   have RI:=uJ l (W9 hm)
   have es:=x9 (band:=band) (c:=j) hm
   have PZ:=aq.upd (o:= .tup [.int m, .str (S [l])]) VF
   refine ⟨T2,_,rfl,cT.of ah,rfl,_,_,rfl,_,_,rfl,rfl,?_⟩
   refine ⟨_,rfl,rfl,l,rfl,rfl,RI.lt,_,rfl,[PyProof.Rows.lo1 l],[band],rfl,rfl,_,rfl,?_⟩
   have ev:decide ([PyProof.Rows.lo1 l]=[band])=x8 band l:=by rw[<-DG hb RI];simp
   rw[ev]
   have Kv:=PZ _ _ jF
   refine bS (fun z=>?_) (fun z=>?_)
   ·rw[if_pos z]at es
    refine ⟨_,rfl, .inl ⟨rfl,_,bA.of Kv⟩,_,rfl,_,rfl,by show 2<=sizeLine;decide,fun t nt=>?_⟩
    have uC:=(aq.upd (o:= .tup [.int j, .int m]) nt) _ _ Kv
    have s3:=PZ.trans (aq.upd (o:= .tup [.int j, .int m]) nt)
    refine ⟨p1,_,_,rfl,rfl,uC,by rw[ua];omega,?_⟩
    refine ⟨us++[⟨t,j,m⟩],_,_,rfl,by rw[ah];exact congrArg (fun x=>some (HO.lst x)) (DC us ⟨t,j,m⟩),fun p xT=>?_,by rw[WI,BC,es,Xx];rfl,by rw[SD];show us.length+1<=_;omega,fun a o ea=>by rw[ay (az ea n1)];exact s3 _ _ (s2 a o ea)⟩
    rcases WJ.mp xT with g | g
    ·exact ((uZ p g).same s3).ts (dY.FV uC)
    ·have e2:=O8.mp g
     subst e2
     exact nk.ts (H:=upd (upd H2 T2 (.tup [.int m, .str (S [l])])) t (.tup [.int j, .int m])) ⟨ah,by show j<1000;omega,by show m<1000;omega⟩ (dY.FV uC)
   ·rw[if_neg z,Xy]at es
    exact ⟨us,_,_,rfl,Kv,fun p xT=>(uZ p xT).same PZ,by rw[BC,es],by omega,s2.trans PZ⟩
  ·rintro σ H2 ⟨us,VE,RH,rfl,jF,uZ,BC,Fd,s2⟩
   exact ⟨us,_,_,_,_,rfl,jF,uZ,by rw[BC,vU Ku],by omega,s2⟩
 ·rintro σ H1 ⟨ps,cv,wv,pv,lv,rfl,hp,Ac,lD,jI,s1⟩
  rw[bD]at lD
  exact ⟨_,rfl,q p1 ps H1 n1 hp Ac lD s1⟩
theorem BD:bC P w K mg base eR 1 gs pU ["self","strand","way","place"] (rR K aO):=by
 refine T.Kq.ok BA (fun vs H Q E h=>yj h) (fun cx A outer s H vs Q E hr h=>?_)
 refine ⟨_,(ag (iH (pv 0) (pv 1) rfl)
   (ag (iH (pv 0) (pv 2) rfl)
   (ai (iH (pv 0) (pv 3) rfl)))),?_⟩
 obtain ⟨x,dx,t,w',p,rfl,hx,q⟩:=h
 refine ⟨_,rfl,_,rfl,x,aO,dx,_,rfl,hx,T.dJ,T.n_Seen_strand,by show 0<1000;decide,?_⟩
 refine ⟨_,rfl,_,rfl,x,aO,dx,_,rfl,ah,T.dJ,T.n_Seen_way,Xz (cZ _ _ _) (by show 0+1<1000;decide),?_⟩
 refine ⟨_,rfl,_,rfl,x,aO,dx,_,rfl,ah,T.dJ,T.n_Seen_place,Xz (cZ _ _ _) (Xz (Yi (cZ _ _ _)) (by show 0+1+1<1000;decide)),?_⟩
 exact q _ ah fun b o e z=>by rw[ay z,ay z,ay z];exact e
theorem p6:bC P w K mg base eR 3 Ly Mb ["words","ways","strand"] (jb K aY aO):=by
 have wA:=BD (P:=P) (w:=w) (base:=base) T
 refine T.PB.fn.ok fQ (fun vs H Q E h=>nA h) (fun cx A outer s H vs Q E hr h=>?_)
 refine ⟨_,(ag (ao (i:=3) fQ.nd rfl (Or.inl rfl) (aV (bB K rfl) (pv 0) (aV (bB K rfl) (pv 2) aj (fun _ _=>rfl)) (fun _ _=>rfl)))
   (ag (ao (i:=4) fQ.nd rfl (Or.inl rfl) (aV (bB K rfl) (pv 2) aj (fun _ _=>rfl)))
   (ag (bV (gM (dW K rfl Xc Zr Zq j5 (aV gQ (pv 3) (pv 4) (fun _ _=>rfl)))) (ai (aG (nI T.Ey wA (hr.mono (by decide)) rfl T.Ex T.Ez .nil aB (aa (pv 2) (aa (aV (bB K rfl) (aV (bX K rfl) (pv 1) (aV (bB K rfl) (pv 2) aj (fun _ _=>rfl)) (fun _ _=>rfl)) aj (fun _ _=>rfl)) (aa (pv 4) ae)))))) bu)
   (ai (aG (nI T.Ey wA (hr.mono (by decide)) rfl T.Ex T.Ez .nil aB (aa (pv 2) (aa (aV (bB K rfl) (aV (bX K rfl) (pv 1) (aV (bB K rfl) (pv 2) aj (fun _ _=>rfl)) (fun _ _=>rfl)) aj (fun _ _=>rfl)) (aa (aE dm (aE dm (aD aR rfl T.z_len W_ (aa (pv 3) ae)) aj) (pv 4)) ae))))))))),?_⟩
 obtain ⟨y,lg,wt,vt,st,w',ws,lI,p,c,i,rfl,hy,p5,P0,mO,hw,hp,ok,hi,q⟩:=h
 have hs:(100000:Nat)<sizeLine:=by decide
 have lK:=ok.on.uz
 have Tj:=ok.on.lz
 have NF:=ok.on.sw
 have h8:(rd w' i)<128:=(hy.lt _ (NF.rd _)).lt
 have hc:(dI ws)[c]? =some (V.str (S w')):=by
  have hl:=(Je.mp hw).1
  rw[gW hl,(Je.mp hw).2]
 refine ⟨_,rfl,_,rfl,st,_,0,_,rfl,rfl,cT.of mO,rfl,wt,_,_,_,rfl,rfl,cT.of p5,bY hc,?_⟩
 refine ⟨_,rfl,st,_,1,_,rfl,rfl,cT.of mO,rfl,?_⟩
 refine ⟨_,rfl,_,rfl,w',_,_,rfl,rfl,by omega,by rw[kS (by omega) (by omega)],?_⟩
 have made: ∀(x dx:Addr) (H':Hp) (t w2:Addr) (pl:Nat),H x=none->H dx=none->dx≠x->aW x (L2.upd (L2.upd H dx (.own x)) x (.ins aO dx [])) H'->aq H H':=fun x dx H' t w2 pl nx Kc ne sm a o e=>by
  refine sm a o ?_ (az e nx)
  rw[ay (az e nx),ay (az e Kc)]
  exact e
 refine ⟨rfl,_,rfl,rfl,h8,?_⟩
 walk_at "rd"
 refine bS (fun z=>?_) (fun z=>?_)
 ·refine ⟨_,rfl,_,rfl,_,rfl,st,_,0,_,rfl,rfl,cT.of mO,rfl,vt,_,_,_,rfl,rfl,bA.of P0,bY (D8 hp),p.t,_,0,_,rfl,rfl,cT.of ok.tp,rfl,_,rfl,fun x dx nx Kc ne=>⟨x,dx,st,p.a,i,rfl,ah,fun H' hx sm=>⟨rfl,?_⟩⟩⟩
  have Kw:=made x dx H' st p.a i nx Kc ne sm
  exact q ⟨x,st,p.a,c,i,w',i,p.r⟩ H' ⟨rfl,rfl,by rw[if_pos z],by rw[if_pos z]⟩ rfl ⟨⟨dx,hx⟩,Kw _ _ mO,ok.on.same Kw,hi⟩ nx Kw
 ·have ei:(w'.length:Int) - 1 - i=((w'.length - 1 - i:Nat):Int):=by omega
  refine ⟨_,rfl,_,rfl,_,rfl,st,_,0,_,rfl,rfl,cT.of mO,rfl,vt,_,_,_,rfl,rfl,bA.of P0,bY (D8 hp),p.t,_,1,_,rfl,rfl,cT.of ok.tp,rfl,_,rfl,w',rfl,by omega,_,_,rfl,rfl,_,rfl,_,_,rfl,rfl,fun x dx nx Kc ne=>⟨x,dx,st,p.b,w'.length - 1 - i,by rw[<-ei];rfl,ah,fun H' hx sm=>⟨rfl,?_⟩⟩⟩
  have Kw:=made x dx H' st p.b 0 nx Kc ne sm
  exact q ⟨x,st,p.b,c,i,gv w',w'.length - 1 - i,p.q⟩ H' ⟨rfl,rfl,by rw[if_neg z],by rw[if_neg z]⟩ rfl ⟨⟨dx,hx⟩,Kw _ _ mO,ok.bk.same Kw,by show w'.length - 1 - i<(gv w').length;rw[cj];omega⟩ nx Kw
theorem jh:bC P w K mg base eR 1 Eu L5 ["seen","start","end"] (fM K aY aO):=by
 refine T.wN.fn.ok jf (fun vs H Q E h=>ny h) (fun cx A outer s H vs Q E hr h=>?_)
 refine ⟨_,(ag (ao (i:=3) jf.nd rfl (Or.inl rfl) (aE bj (bN K rfl (pv 0) rfl) aj))
   (ai (aG (bO m8 (bN K rfl (bN K rfl (pv 0) rfl) rfl) (bK (aE bj (pv 3) (pv 1))) (bK (aE bj (pv 3) (pv 2))))))),?_⟩
 obtain ⟨y,lg,s,x,z,rfl,hz,hs,RJ,q⟩:=h
 obtain ⟨d1,e1⟩:=hs.ob
 obtain ⟨d2,e2⟩:=hs.wy.ob
 have:=hs.wy.uz
 have:=hs.wy.lz
 have h1:1<=s.u.length:=Xz (Xb _) hs.pz
 have rl:=lj (lg:=lg) h1
 have HN:(100000:Nat)<sizeLine:=by decide
 refine ⟨_,rfl,s.a,aO,d1,_,_,rfl,e1,T.dJ,T.n_Seen_place,lh,?_⟩
 walk_at "rd"
 refine ⟨s.a,aO,d1,_,_,rfl,e1,T.dJ,T.n_Seen_way,mz,s.wy,aY,d2,_,_,rfl,e2,T.gc,T.n_Way_onward,Ot,?_⟩
 walk_at "rd"
 refine ⟨by rw[rS,di];omega,?_⟩
 rw[show (s.p:Int)+1=((s.p+1:Nat):Int) by omega,zX RJ]
 exact q
theorem jW:bC P w K mg base eR 1 Ew L6 ["seen","start","end"] (gj K aY aO):=by
 refine T.wO.fn.ok jV (fun vs H Q E h=>o9 h) (fun cx A outer s H vs Q E hr h=>?_)
 refine ⟨_,(ag (ao (i:=3) jV.nd rfl (Or.inl rfl) (aE dm (aE dm (bN K rfl (bN K rfl (pv 0) rfl) rfl) aj) (bN K rfl (pv 0) rfl)))
   (ai (aG (bO m8 (bN K rfl (bN K rfl (pv 0) rfl) rfl) (bK (aE bj (pv 3) (pv 1))) (bK (aE bj (pv 3) (pv 2))))))),?_⟩
 obtain ⟨y,lg,s,x,z,rfl,hz,hs,RJ,q⟩:=h
 obtain ⟨d1,e1⟩:=hs.ob
 obtain ⟨d2,e2⟩:=hs.wy.ob
 have:=hs.wy.uz
 have:=hs.wy.lz
 have hp:=hs.pz
 have h1:1<=s.u.length:=Xz (Xb _) hs.pz
 have rl:=lj (lg:=lg) h1
 have HN:(100000:Nat)<sizeLine:=by decide
 refine ⟨_,rfl,s.a,aO,d1,_,_,rfl,e1,T.dJ,T.n_Seen_way,mz,s.wy,aY,d2,_,_,rfl,e2,T.gc,T.n_Way_size,zW,?_⟩
 walk_at "rd"
 refine ⟨s.a,aO,d1,_,_,rfl,e1,T.dJ,T.n_Seen_place,lh,?_⟩
 walk_at "rd"
 refine ⟨s.a,aO,d1,_,_,rfl,e1,T.dJ,T.n_Seen_way,mz,s.wy,aY,d2,_,_,rfl,e2,T.gc,T.n_Way_backward,GP,?_⟩
 walk_at "rd"
 refine ⟨by rw[rS,XA,di];omega,?_⟩
 rw[show (s.u.length:Int) - 1 - s.p=((s.u.length - 1 - s.p:Nat):Int) by omega,zX RJ]
 exact q
theorem yD:bC P w K mg base eR 2 Ls L7 ["steps","one","other","enough"] (o_ K aY aO Eu Ew):=by
 have cb:=jh (P:=P) (w:=w) (base:=base) T
 have cF:=jW (P:=P) (w:=w) (base:=base) T
 refine T.Ki.fn.ok dM (fun vs H Q E h=>v9 h) (fun cx A outer s H vs Q E hr h=>?_)
 refine ⟨_,(ag (ao (i:=4) dM.nd rfl (Or.inl rfl) aj)
   (ag (ao (i:=5) dM.nd rfl (Or.inl rfl) aj)
   (jl (cJ PassesOwn.never (PW.pt (jZ (aI oj (pv 4) (pv 3) (aT _)) (ji (aI gS (kJ (pv 0) cb (hr.mono (by decide)) T.wN.fn.kp T.wN.bd cF (hr.mono (by decide)) T.wO.fn.kp T.wO.bd aB (aa (pv 1) (aa (pv 4) (aa (aE bj (pv 4) (pv 5)) ae)))) (kJ (pv 0) cb (hr.mono (by decide)) T.wN.fn.kp T.wN.bd cF (hr.mono (by decide)) T.wO.fn.kp T.wO.bd aB (aa (pv 2) (aa (pv 4) (aa (aE bj (pv 4) (pv 5)) ae)))) (aT _))))) (ag (iD (i:=4) dM.nd rfl (Or.inl rfl) (pv 5) sC)
   (ai (iD (i:=5) dM.nd rfl (Or.inl rfl) aj Jx))))
   (jl (cJ PassesOwn.never (aI om (pv 5) aj (aT _)) (ag (iD (i:=5) dM.nd rfl (Or.inl rfl) aj Ge)
   (ai (bV (aI gS (kJ (pv 0) cb (hr.mono (by decide)) T.wN.fn.kp T.wN.bd cF (hr.mono (by decide)) T.wO.fn.kp T.wO.bd aB (aa (pv 1) (aa (pv 4) (aa (aE bj (pv 4) (pv 5)) ae)))) (kJ (pv 0) cb (hr.mono (by decide)) T.wN.fn.kp T.wN.bd cF (hr.mono (by decide)) T.wO.fn.kp T.wO.bd aB (aa (pv 2) (aa (pv 4) (aa (aE bj (pv 4) (pv 5)) ae)))) (aT _)) (ai (iD (i:=4) dM.nd rfl (Or.inl rfl) (pv 5) sC)) bu))))
   (ai (aG (pv 4))))))),?_⟩
 obtain ⟨y,lg,s1,t1,b,en,rfl,hz,hs,ht,WS,q⟩:=h
 have call: ∀(u:Sn) (x d:Nat) (t:TA) (σ:L2.St) (Q':VK),σ[0]? =some (some (V.ref (if b=true then Eu else Ew)))->i8 H aY aO y lg u->(∀R:List V->Hp->Prop,R [V.ref u.a,V.int x,V.int ((x:Int)+d)] H->t σ H R)->Q' (V.str (S (seg (J_ b y lg u) x (x+d)))) H->CL Eu Ew (fM K aY aO) (gj K aY aO) E0 (Iw 0) t σ H Q':=by
  intro u x d t σ Q' h0 hu Tn hq
  refine ⟨_,h0,?_⟩
  cases b
  ·exact .inr ⟨rfl,Tn _ ⟨y,lg,u,x,x+d,by rw[XW],hz,hu,by omega,hq⟩⟩
  ·exact .inl ⟨rfl,Tn _ ⟨y,lg,u,x,x+d,by rw[XW],hz,hu,by omega,hq⟩⟩
 generalize (if b=true then Eu else Ew)=fx at call ⊢
 generalize el:J_ b y lg s1=l at q
 generalize em:J_ b y lg t1=m at q
 walk_at "rd"
 refine ⟨fun σ H'=> ∃(mn sz e:Nat),σ=[some (.ref fx),some (.ref s1.a),some (.ref t1.a),some (.int en),some (.int mn),some (.int sz)]/\H'=H/\sz=2 ^ e/\sz<=1000000/\mn<=1000000/\i9 l m mn/\(en<=mn\/ ∃k,mn<=k/\k<mn+sz/\l[k]?≠ m[k]?),?_,?_⟩
 ·refine ⟨fun w σ H'=> ∃(mn sz e:Nat),σ=[some (.ref fx),some (.ref s1.a),some (.ref t1.a),some (.int en),some (.int mn),some (.int sz)]/\H'=H/\w=en - mn/\sz=2 ^ e/\mn+1=sz/\mn<=2*en/\i9 l m mn,⟨_,0,1,0,rfl,rfl,rfl,rfl,rfl,Xb _,fun k hk=>absurd hk (ZH _)⟩,?_⟩
  rintro w' σ H2 ⟨mn,sz,e,rfl,rfl,rfl,he,WT,Pl,ha⟩
  walk_at "rd"
  refine bS (fun z=>?_) (fun z=>?_)
  ·have z1:(mn:Int)<en:=of_decide_eq_true z
   refine call s1 mn sz _ _ _ rfl hs (fun R hR=>⟨_,rfl,_,rfl,_,rfl,_,rfl,_,_,rfl,rfl,hR⟩) ?_
   refine call t1 mn sz _ _ _ rfl ht (fun R hR=>⟨_,rfl,_,rfl,_,rfl,_,rfl,_,_,rfl,rfl,hR⟩) ?_
   rw[el,em]
   walk_at "rd"
   refine bS (fun y1=>?_) (fun y1=>?_)
   ·have y2:seg l mn (mn+sz)=seg m mn (mn+sz):=by simpa using of_decide_eq_true y1
    refine ⟨_,rfl,_,rfl,_,_,rfl,rfl,_,rfl,_,_,rfl,rfl, .inl ⟨by omega,by omega⟩,?_⟩
    refine ⟨en - (mn+sz),by omega,mn+sz,sz*2,e+1,by rw[XW,Z_];rfl,rfl,rfl,by rw[he,Nat.pow_succ],by omega,by omega,ha.more y2⟩
   ·have y2:seg l mn (mn+sz)≠seg m mn (mn+sz):=fun w=>y1 (decide_eq_true (by rw[w]))
    exact ⟨mn,sz,e,rfl,rfl,he,by omega,by omega,ha, .inr (D1 y2)⟩
  ·have z1: ¬(mn:Int)<en:=fun w=>z (decide_eq_true w)
   exact ⟨mn,sz,e,rfl,rfl,he,by omega,by omega,ha, .inl (by omega)⟩
 ·rintro σ H2 ⟨mn,sz,e,rfl,rfl,he,hsz,Pl,ha,hb⟩
  refine ⟨fun σ H'=> ∃mn:Nat,σ=[some (.ref fx),some (.ref s1.a),some (.ref t1.a),some (.int en),some (.int mn),some (.int 1)]/\H'=H2/\i9 l m mn/\(en<=mn\/l[mn]?≠ m[mn]?),?_,?_⟩
  ·refine ⟨fun w σ H'=> ∃(mn sz e:Nat),σ=[some (.ref fx),some (.ref s1.a),some (.ref t1.a),some (.int en),some (.int mn),some (.int sz)]/\H'=H2/\sz=w/\sz=2 ^ e/\sz<=1000000/\mn<=3000000 - 2*sz/\i9 l m mn/\(en<=mn\/ ∃k,mn<=k/\k<mn+sz/\l[k]?≠ m[k]?),⟨_,mn,sz,e,rfl,rfl,rfl,he,hsz,by omega,ha,hb⟩,?_⟩
   rintro w' σ H3 ⟨mn,sz,e,rfl,rfl,rfl,he,hsz,Pl,ha,hb⟩
   walk_at "rd"
   refine bS (fun z=>?_) (fun z=>?_)
   ·have z1:(1:Int)<sz:=of_decide_eq_true z
    obtain ⟨e',rfl⟩: ∃e',e=e'+1:=⟨e - 1,by
     cases e with
     | zero=>rw[he]at z1;simp at z1
     | succ e=>rfl⟩
    have hh:sz=2*2 ^ e':=by rw[he,Nat.pow_succ,Yw]
    have hp:0<2 ^ e':=Nat.pow_pos (by decide)
    generalize Oy:2 ^ e'=h2 at hh hp
    have RK:=Oy.symm
    have ed:(sz:Int) / 2=(h2:Nat):=by omega
    refine ⟨_,rfl,_,_,rfl,rfl,⟨by decide,by decide⟩,?_⟩
    refine call s1 mn h2 _ _ _ rfl hs (fun R hR=>⟨_,rfl,_,rfl,_,rfl,_,rfl,_,_,rfl,rfl,by rw[ed];exact hR⟩) ?_
    refine call t1 mn h2 _ _ _ rfl ht (fun R hR=>⟨_,rfl,_,rfl,_,rfl,_,rfl,_,_,rfl,rfl,by rw[ed];exact hR⟩) ?_
    rw[el,em]
    walk_at "rd"
    have G8: ∃e2,h2=2 ^ e2:=⟨e',RK⟩
    obtain ⟨e2,To⟩:=G8
    refine bS (fun y1=>?_) (fun y1=>?_)
    ·have y2:seg l mn (mn+h2)=seg m mn (mn+h2):=by simpa using of_decide_eq_true y1
     refine ⟨_,rfl,_,rfl,_,_,rfl,rfl,?_⟩
     refine ⟨h2,by omega,mn+h2,h2,e2,by rw[XW, <-ed];rfl,rfl,rfl,To,by omega,by omega,ha.more y2,?_⟩
     rcases hb with hb | ⟨k,k1,k2,k3⟩
     ·exact .inl (by omega)
     ·refine .inr ⟨k,Classical.byContradiction fun w=>k3 (yk.mp y2 k k1 (by omega)),by omega,k3⟩
    ·have y2:seg l mn (mn+h2)≠seg m mn (mn+h2):=fun w=>y1 (decide_eq_true (by rw[w]))
     exact ⟨h2,by omega,mn,h2,e2,by rw[<-ed];rfl,rfl,rfl,To,by omega,by omega,ha, .inr (D1 y2)⟩
   ·have z1: ¬(1:Int)<sz:=fun w=>z (decide_eq_true w)
    have hp:0<2 ^ e:=Nat.pow_pos (by decide)
    have e1:sz=1:=by omega
    subst e1
    exact ⟨mn,rfl,rfl,ha,hb.imp id fun ⟨k,k1,k2,k3⟩=>by rwa [show k=mn by omega]at k3⟩
  ·rintro σ H3 ⟨mn,rfl,rfl,ha,hb⟩
   exact ⟨_,rfl,q mn ha hb⟩
theorem yE:bC P w K mg base eR 1 Lu L8 ["seen"] (ph K aY aO):=by
 refine T.Kj.fn.ok ki (fun vs H Q E h=>v_ h) (fun cx A outer s H vs Q E hr h=>?_)
 refine ⟨_,(ag (ao (i:=1) ki.nd rfl (Or.inl rfl) (bN K rfl (pv 0) rfl))
   (ag (ao (i:=2) ki.nd rfl (Or.inl rfl) (aV (bB K rfl) (bN K rfl (pv 0) rfl) aj (fun _ _=>rfl)))
   (ag (bV (gM (bN K rfl (pv 1) rfl)) (ai (aG (dq (aa (pv 2) (aa (aE dZ (bN K rfl (pv 0) rfl) (bN K rfl (pv 1) rfl)) ae))))) bu)
   (ai (aG (dq (aa (kx gO (pv 2)) (aa (kx gO (aE dZ (aE dm (aE dm (bN K rfl (pv 1) rfl) aj) (bN K rfl (pv 0) rfl)) (bN K rfl (pv 1) rfl))) ae)))))))),?_⟩
 obtain ⟨y,lg,s1,rfl,hs,q⟩:=h
 obtain ⟨d1,e1⟩:=hs.ob
 obtain ⟨d2,e2⟩:=hs.wy.ob
 have hp:=hs.pz
 have rp:=ja hs.wy.sw.ne hs.wy.rt
 have u1:=hs.wy.uz
 have u2:=hs.wy.lz
 refine ⟨_,rfl,s1.a,aO,d1,_,_,rfl,e1,T.dJ,T.n_Seen_way,mz,?_⟩
 refine ⟨_,rfl,s1.a,aO,d1,_,_,rfl,e1,T.dJ,T.n_Seen_strand,rQ,s1.t,_,0,_,rfl,rfl,cT.of hs.st,rfl,?_⟩
 refine ⟨_,rfl,s1.wy,aY,d2,_,_,rfl,e2,T.gc,T.n_Way_leads,D0,?_⟩
 walk_at "rd"
 have VG:(s1.p:Int) / (s1.r:Int)=((s1.p / s1.r:Nat):Int):=(Y_ _ _).symm
 have VH:((s1.u.length:Int) - 1 - s1.p) / (s1.r:Int)=(((s1.u.length - 1 - s1.p) / s1.r:Nat):Int):=by
  rw[Y_];congr 1;omega
 refine bS (fun z=>?_) (fun z=>?_)
 ·refine ⟨_,rfl,_,rfl,s1.a,aO,d1,_,_,rfl,e1,T.dJ,T.n_Seen_place,lh,_,rfl,s1.wy,aY,d2,_,_,rfl,e2,T.gc,T.n_Way_root_size,nZ,_,_,rfl,rfl,⟨by omega,by omega⟩,by show 2<=sizeLine;decide,fun p np=>?_⟩
  refine q p _ np ?_ (aq.upd np)
  rw[ah]
  unfold yl
  rw[if_pos z, <-VG]
 ·refine ⟨_,rfl,_,rfl,_,rfl,s1.wy,aY,d2,_,_,rfl,e2,T.gc,T.n_Way_size,zW,_,_,rfl,rfl,_,rfl,s1.a,aO,d1,_,_,rfl,e1,T.dJ,T.n_Seen_place,lh,_,_,rfl,rfl,_,rfl,s1.wy,aY,d2,_,_,rfl,e2,T.gc,T.n_Way_root_size,nZ,_,_,rfl,rfl,⟨by omega,by omega⟩,_,rfl,by show 2<=sizeLine;decide,fun p np=>?_⟩
  refine q p _ np ?_ (aq.upd np)
  rw[ah]
  unfold yl
  rw[if_neg z, <-VH]
theorem p7:bC P w K mg base eR 3 Lv L_ ["one","other"] (i_ K aY aO):=by
 have sd:=yD (P:=P) (w:=w) (base:=base) T
 have se:=yE (P:=P) (w:=w) (base:=base) T
 have cb:=jh (P:=P) (w:=w) (base:=base) T
 have cF:=jW (P:=P) (w:=w) (base:=base) T
 refine T.Py.fn.ok eF (fun vs H Q E h=>nz h) (fun cx A outer s H vs Q E hr h=>?_)
 refine ⟨_,(ag (ao (i:=2) eF.nd rfl (Or.inl rfl) (aE bj (bN K rfl (bN K rfl (pv 0) rfl) rfl) (bN K rfl (bN K rfl (pv 1) rfl) rfl)))
   (ag (ao (i:=3) eF.nd rfl (Or.inl rfl) (ak sd (hr.mono (by decide)) rfl T.Ki.mg T.Ki.fn.kp T.Ki.bd .nil aB (aa (yN (v:= .ref Eu) rfl T.wN.mg rfl) (aa (pv 0) (aa (pv 1) (aa (pv 2) ae))))))
   (ag (ao (i:=4) eF.nd rfl (Or.inl rfl) (ak sd (hr.mono (by decide)) rfl T.Ki.mg T.Ki.fn.kp T.Ki.bd .nil aB (aa (yN (v:= .ref Ew) rfl T.wO.mg rfl) (aa (pv 0) (aa (pv 1) (aa (pv 2) ae))))))
   (ag (bV (aI B6 (aD (qL rfl) rfl T.z_min boot_min (aa (pv 3) (aa (pv 4) ae))) (pv 2) (aT _)) (ai (aG (jj (Jv K rfl hr) (ak se (hr.mono (by decide)) rfl T.Kj.mg T.Kj.fn.kp T.Kj.bd .nil aB (aa (pv 0) ae)) (ak se (hr.mono (by decide)) rfl T.Kj.mg T.Kj.fn.kp T.Kj.bd .nil aB (aa (pv 1) ae)) (aT _)))) bu)
   (ag (bV (aI Hz (pv 3) (pv 4) (aT _)) (ai (aG (jj sS (ak cb (hr.mono (by decide)) rfl T.wN.mg T.wN.fn.kp T.wN.bd .nil aB (aa (pv 0) (aa (pv 3) (aa (aE bj (pv 3) aj) ae)))) (ak cb (hr.mono (by decide)) rfl T.wN.mg T.wN.fn.kp T.wN.bd .nil aB (aa (pv 1) (aa (pv 3) (aa (aE bj (pv 3) aj) ae)))) (aT _)))) bu)
   (ai (aG (jj sS (ak cF (hr.mono (by decide)) rfl T.wO.mg T.wO.fn.kp T.wO.bd .nil aB (aa (pv 0) (aa (pv 4) (aa (aE bj (pv 4) aj) ae)))) (ak cF (hr.mono (by decide)) rfl T.wO.mg T.wO.fn.kp T.wO.bd .nil aB (aa (pv 1) (aa (pv 4) (aa (aE bj (pv 4) aj) ae)))) (aT _))))))))),?_⟩
 obtain ⟨y,lg,s1,t1,rfl,hy,hz,hs,ht,h0,q⟩:=h
 obtain ⟨d1,e1⟩:=hs.ob
 obtain ⟨d2,e2⟩:=hs.wy.ob
 obtain ⟨d3,e3⟩:=ht.ob
 obtain ⟨d4,e4⟩:=ht.wy.ob
 have rp:=ja hs.wy.sw.ne hs.wy.rt
 have WU:=ja ht.wy.sw.ne ht.wy.rt
 have u1:=hs.wy.uz
 have WV:=ht.wy.uz
 have u2:=hs.wy.lz
 have ns:=hs.wy.sw.ne
 have nt:=ht.wy.sw.ne
 have lf:=ba hs.wy.sw (s1.p:Int)
 have P4:=ba ht.wy.sw (t1.p:Int)
 have as:=rT (lg:=lg) (s:=s1) (en:=s1.r+t1.r) hs.pz (by omega)
 have at':=rT (lg:=lg) (s:=t1) (en:=s1.r+t1.r) ht.pz (by omega)
 refine ⟨_,rfl,s1.a,aO,d1,_,_,rfl,e1,T.dJ,T.n_Seen_way,mz,s1.wy,aY,d2,_,_,rfl,e2,T.gc,T.n_Way_root_size,nZ,_,rfl,t1.a,aO,d3,_,_,rfl,e3,T.dJ,T.n_Seen_way,mz,t1.wy,aY,d4,_,_,rfl,e4,T.gc,T.n_Way_root_size,nZ,_,_,rfl,rfl,?_⟩
 refine ⟨_,rfl,_,rfl,_,rfl,y,lg,s1,t1,true,s1.r+t1.r,by rw[XW];rfl,hz,hs,ht,by omega,fun m K6 E5=>?_⟩
 refine ⟨_,rfl,_,rfl,_,rfl,y,lg,s1,t1,false,s1.r+t1.r,by rw[XW];rfl,hz,hs,ht,by omega,fun n VI w4=>?_⟩
 have RL:i9 (BQ y lg s1) (BQ y lg t1) m:=K6
 have Oz:s1.r+t1.r<=m\/(BQ y lg s1)[m]?≠ (BQ y lg t1)[m]?:= E5
 have RM:i9 (BR y lg s1) (BR y lg t1) n:=VI
 have OA:s1.r+t1.r<=n\/(BR y lg s1)[n]?≠ (BR y lg t1)[n]?:= w4
 have ga: ∀k,k<s1.r+t1.r->(BQ y lg s1)[k]? =some (wM (dP y (sq s1.u s1.p) (k+1)))/\(BQ y lg t1)[k]? =some (wM (dP y (sq t1.u t1.p) (k+1))):=fun k hk=>⟨D4 ns (by omega),D4 nt (by omega)⟩
 have gb: ∀k,k<s1.r+t1.r->(BR y lg s1)[k]? =some (wM (dP y (sq s1.u s1.p) (-(k:Int))))/\(BR y lg t1)[k]? =some (wM (dP y (sq t1.u t1.p) (-(k:Int)))):=fun k hk=>⟨D5 ns hs.pz (by omega),D5 nt ht.pz (by omega)⟩
 refine ⟨_,rfl,_,rfl,_,_,rfl,?_⟩
 walk_at "rd"
 by_cases par: ∀k,sq s1.u s1.p k=sq t1.u t1.p k
 ·have ef:sq s1.u s1.p=sq t1.u t1.p:=funext par
  have m1:s1.r+t1.r<=m:=z7 (fun k hk=>by rw[(ga k hk).1,(ga k hk).2,ef]) Oz
  have n1:s1.r+t1.r<=n:=z7 (fun k hk=>by rw[(gb k hk).1,(gb k hk).2,ef]) OA
  refine bS (fun z=>?_) (fun z=>absurd (decide_eq_true (show ((s1.r:Int)+t1.r)<=(if (n:Int)<m then (n:Int) else m) by split<;>omega)) z)
  refine ⟨_,rfl,y,lg,s1,rfl,hs,fun p1 H1 WW nX OB=>⟨_,rfl,y,lg,t1,rfl,ht.same OB,fun p2 H2 Kx jF cw=>?_⟩⟩
  refine ⟨p1,p2,_,_,_,_,rfl,rfl,cT.of (cw _ _ nX),cT.of jF,?_⟩
  have e:E4 (yl s1).1 (yl s1).2 (yl t1).1 (yl t1).2=bI (jH y (2*lg) s1) (jH y (2*lg) t1):=by
   unfold jH
   rw[ef,e_,GR]
  have kq:=q H2 (OB.trans cw)
  rw[<-e]at kq
  exact kq
 ·have cP: ∃k,sq s1.u s1.p k≠sq t1.u t1.p k:=Classical.byContradiction fun z=>par fun k=>Classical.byContradiction fun w=>z ⟨k,w⟩
  have z0:sq s1.u s1.p 0=sq t1.u t1.p 0:=by unfold sq;rw[Y6,Y6];exact h0
  obtain ⟨a,b,rn,ha,hb⟩:=dE (p:=s1.r) (q:=t1.r) (by omega) (by omega) (zZ ns hs.wy.rt s1.p) (zZ nt ht.wy.rt t1.p) z0 cP
  have pf:=z5 hy lf
  have pg:=z5 hy P4
  have key:=mf hy lf P4 rn [(yl s1).1,(yl s1).2] [(yl t1).1,(yl t1).2] (2*lg) 0 (Xb _) (Xb _) (by omega) (by omega)
  have sa:dP y (sq s1.u s1.p) (a+1)≠dP y (sq t1.u t1.p) (a+1):=fun w=>rn.hi (by
   unfold dP at w
   rw[show (a:Int)+1 - 1=a by omega, <-rn.lF a (by omega) (by omega)]at w
   exact jq (hy.cl _ (lf.bo _)) (lf.bo _) (P4.bo _) w)
  have sb:dP y (sq s1.u s1.p) (-(b:Int))≠dP y (sq t1.u t1.p) (-(b:Int)):=fun w=>by
   have c:=xZ hy lf P4 (rn.lF (-(b:Int)) (by omega) (by omega)) rn.lo
   unfold fT at c
   rw[w]at c
   simp at c
  have em:m=a:=z6 ha (fun k hk=>by
   rw[(ga k (by omega)).1,(ga k (by omega)).2]
   unfold dP
   rw[show (k:Int)+1 - 1=k by omega,rn.lF k (by omega) (by omega),rn.lF (k+1) (by omega) (by omega)]) (fun w=>sa (z4 (pf _) (pg _) (by rw[(ga a ha).1,(ga a ha).2]at w;exact Xa w))) RL Oz
  have en:n=b:=z6 hb (fun k hk=>by
   rw[(gb k (by omega)).1,(gb k (by omega)).2]
   unfold dP
   rw[rn.lF (-(k:Int)) (by omega) (by omega),rn.lF (-(k:Int) - 1) (by omega) (by omega)]) (fun w=>sb (z4 (pf _) (pg _) (by rw[(gb b hb).1,(gb b hb).2]at w;exact Xa w))) RM OA
  subst em
  subst en
  refine bS (fun z=>absurd (show ((s1.r:Int)+t1.r)<=(if (n:Int)<m then (n:Int) else m) from of_decide_eq_true z) (by split<;>omega)) (fun z=>?_)
  walk_at "rd"
  have Ct:(m:Int)+1=((m+1:Nat):Int):=by omega
  have JZ:(n:Int)+1=((n+1:Nat):Int):=by omega
  refine bS (fun z2=>?_) (fun z2=>?_)
  ·have z3:m<=n:=by have:=of_decide_eq_true z2;omega
   refine ⟨_,rfl,_,rfl,_,rfl,_,_,rfl,rfl,y,lg,s1,m,m+1,by rw[<-Ct];rfl,hz,hs,by omega,?_⟩
   refine ⟨_,rfl,_,rfl,_,rfl,_,_,rfl,rfl,y,lg,t1,m,m+1,by rw[<-Ct];rfl,hz,ht,by omega,?_⟩
   refine ⟨_,_,rfl,rfl,?_⟩
   rw[if_pos z3]at key
   have e:decide (seg (BQ y lg s1) m (m+1)<seg (BQ y lg t1) m (m+1))=bI (jH y (2*lg) s1) (jH y (2*lg) t1):=by
    rw[n5 (ga m ha).1,n5 (ga m ha).2,D7]
    exact (decide_eq_decide.mpr (D6 (pf _) (pg _))).trans key.symm
   have kq:=q H (aq.refl H)
   rw[<-e]at kq
   exact kq
  ·have z3: ¬m<=n:=fun w=>z2 (decide_eq_true (by omega))
   refine ⟨_,rfl,_,rfl,_,rfl,_,_,rfl,rfl,y,lg,s1,n,n+1,by rw[<-JZ];rfl,hz,hs,by omega,?_⟩
   refine ⟨_,rfl,_,rfl,_,rfl,_,_,rfl,rfl,y,lg,t1,n,n+1,by rw[<-JZ];rfl,hz,ht,by omega,?_⟩
   refine ⟨_,_,rfl,rfl,?_⟩
   rw[if_neg z3]at key
   have e:decide (seg (BR y lg s1) n (n+1)<seg (BR y lg t1) n (n+1))=bI (jH y (2*lg) s1) (jH y (2*lg) t1):=by
    rw[n5 (gb n hb).1,n5 (gb n hb).2,D7]
    exact (decide_eq_decide.mpr (D6 (pf _) (pg _))).trans key.symm
   have kq:=q H (aq.refl H)
   rw[<-e]at kq
   exact kq
theorem nE:bC P w K mg base eR 4 Lw Ma ["order","seen"] (il K aY aO):=by
 have qB:=p7 (P:=P) (w:=w) (base:=base) T
 refine T.Pz.fn.ok b7 (fun vs H Q E h=>mC h) (fun cx A outer s H vs Q E hr h=>?_)
 refine ⟨_,(ag (ao (i:=2) b7.nd rfl (Or.inl rfl) aj)
   (ag (ao (i:=3) b7.nd rfl (Or.inl rfl) (aD (a_ K rfl) rfl T.z_len W_ (aa (pv 0) ae)))
   (ag (cJ PassesOwn.never (aI oj (pv 2) (pv 3) (aT _)) (ag (ao (i:=4) b7.nd rfl (Or.inl rfl) (aE dZ (aE bj (pv 2) (pv 3)) aj))
   (ai (bV (gM (ak qB (hr.mono (by decide)) rfl T.Py.mg T.Py.fn.kp T.Py.bd .nil aB (aa (aV (bX K rfl) (pv 0) (pv 4) (fun _ _=>rfl)) (aa (pv 1) ae)))) (ai (ao (i:=2) b7.nd rfl (Or.inl rfl) (aE bj (pv 4) aj))) (ai (ao (i:=3) b7.nd rfl (Or.inl rfl) (pv 4)))))))
   (ai (aG (pv 2)))))),?_⟩
 obtain ⟨y,lg,a,ss,t1,rfl,hy,hz,ha,EE,ht,up,hn,q⟩:=h
 have hs:(100000:Nat)<sizeLine:=by decide
 have key:=Yt.mp up
 refine ⟨_,rfl,a,_,rfl, .inl (bA.of ha),?_⟩
 walk_at "rd"
 refine ⟨fun m σ H'=> ∃(lo hi:Nat) (mv:Option V),σ=[some (.ref a),some (.ref t1.a),some (.int lo),some (.int hi),mv]/\m=hi - lo/\lo<=hi/\hi<=ss.length/\(∀k s,ss[k]? =some s->k<lo->bI (jH y (2*lg) s) (jH y (2*lg) t1)=true)/\(∀k s,ss[k]? =some s->hi<=k->bI (jH y (2*lg) s) (jH y (2*lg) t1)=false)/\aq H H',⟨_,0,ss.length,none,by rw[lq];rfl,rfl,Xb _,SA _,fun k s _ hk=>absurd hk (ZH _),(fun k s e hk=>by rw[Ys hk]at e;cases e),aq.refl H⟩,?_⟩
 rintro m σ H2 ⟨lo,hi,mv,rfl,rfl,h1,h2,h3,h4,s2⟩
 walk_at "rd"
 refine bS (fun z=>?_) (fun z=>?_)
 ·have z1:(lo:Int)<hi:=of_decide_eq_true z
  have em:(((lo:Int)+hi) / 2)=(((lo+hi) / 2:Nat):Int):=by omega
  have hm:(lo+hi) / 2<ss.length:=by omega
  have hg:ss[(lo+hi) / 2]? =some ss[(lo+hi) / 2]:=Jd hm
  obtain ⟨ok,e0⟩:=EE _ (Xp hm)
  walk_at "rd"
  refine ⟨a,_,((lo:Int)+hi) / 2,_,rfl,rfl,bA.of (s2 _ _ ha),by rw[em];exact bY (Ka hg),_,rfl,y,lg,ss[(lo+hi) / 2],t1,rfl,hy,hz,ok.same s2,ht.same s2,e0,fun H3 s3=>?_⟩
  walk_at "rd"
  refine bS (fun y1=>?_) (fun y1=>?_)
  ·walk_at "rd"
   have e1:((lo:Int)+hi) / 2+1=(((lo+hi) / 2+1:Nat):Int):=by omega
   refine ⟨hi - ((lo+hi) / 2+1),by omega,(lo+hi) / 2+1,hi,_,by rw[<-e1];rfl,rfl,by omega,h2,fun k s e hk=>?_,h4,s2.trans s3⟩
   by_cases q1:k=(lo+hi) / 2
   ·subst q1
    rw[hg]at e
    cases e
    exact y1
   ·obtain ⟨Nw,ek⟩:=Je.mp e
    have OC:=key k ((lo+hi) / 2) Nw hm (by omega)
    rw[ek]at OC
    cases r:bI (jH y (2*lg) s) (jH y (2*lg) t1)
    ·have:=L2.s_ _ _ _ r OC
     rw[this]at y1
     cases y1
    ·rfl
  ·walk_at "rd"
   have y2:bI (jH y (2*lg) ss[(lo+hi) / 2]) (jH y (2*lg) t1)=false:=by simpa using y1
   refine ⟨(lo+hi) / 2 - lo,by omega,lo,(lo+hi) / 2,_,by rw[<-em];rfl,rfl,by omega,by omega,h3,fun k s e hk=>?_,s2.trans s3⟩
   by_cases q1:k=(lo+hi) / 2
   ·subst q1
    rw[hg]at e
    cases e
    exact y2
   ·obtain ⟨Nw,ek⟩:=Je.mp e
    have OC:=key ((lo+hi) / 2) k hm Nw (by omega)
    rw[ek]at OC
    exact L2.s_ _ _ _ y2 OC
 ·have z1: ¬(lo:Int)<hi:=fun w=>z (decide_eq_true w)
  walk_at "rd"
  have e:hi=lo:=by omega
  subst e
  exact q hi H2 h2 h3 h4 s2
theorem qC:bC P w K mg base eR 5 Lz Mc ["words","ways","band"] (jS K aY aO):=by
 have uD:=qA (P:=P) (w:=w) (base:=base) T
 have qD:=p6 (P:=P) (w:=w) (base:=base) T
 have p8:=nE (P:=P) (w:=w) (base:=base) T
 refine T.PD.fn.ok eT (fun vs H Q E h=>pq h) (fun cx A outer s H vs Q E hr h=>?_)
 refine ⟨_,(ag (ao (i:=3) eT.nd rfl (Or.inl rfl) (dS ae))
   (ag (ck PassesOwn.never rfl (gy K rfl (ak uD (hr.mono (by decide)) rfl T.Po.mg T.Po.fn.kp T.Po.bd .nil aB (aa (pv 0) (aa (pv 2) ae)))) (aQ (i:=4) eT.nd rfl (Or.inl rfl)) (ag (ao (i:=5) eT.nd rfl (Or.inl rfl) (ak qD (hr.mono (by decide)) rfl T.PB.mg T.PB.fn.kp T.PB.bd .nil aB (aa (pv 0) (aa (pv 1) (aa (pv 4) ae)))))
   (ai (da (bL K rfl Xs PySem.F.slot_list_insert PySem.F.type_list_insert AV (pv 3) (aa (ak p8 (hr.mono (by decide)) rfl T.Pz.mg T.Pz.fn.kp T.Pz.bd .nil aB (aa (pv 3) (aa (pv 5) ae))) (aa (pv 5) ae)))))))
   (ai (aG (cI (dX K rfl) rfl T.z_tuple boot_tuple (aa (cV ["seen"] [none] (gy K rfl (pv 3)) trivial (fun _ _ _ _=>(aQ (i:=0) (by decide+kernel:List.Nodup (["seen"]:List Str)) rfl (Or.inl rfl))) (fun _ _ _ _=>iI) (fun _ _ _ _=>(bN K rfl (pv 0) rfl))) ae)))))),?_⟩
 obtain ⟨y,lg,wt,vt,ws,lI,band,rfl,hy,hz,p5,RN,wQ,hb,P0,uJ,OD,q⟩:=h
 have hs:(100000:Nat)<sizeLine:=by decide
 walk_at "rd"
 intro a na
 have s0:=aq.upd (o:= .lst []) na
 refine ⟨_,rfl,_,rfl,wt,ws,band,rfl,s0 _ _ p5,RN,fun w hw=>⟨fun c hc=>hy.lt c ((wQ w hw).1.bo c hc),(wQ w hw).2⟩,hb,fun b ps H1 nb vy Ac lD s1=>?_⟩
 have Kt:=s0.trans s1
 have VJ:b≠a:=fun z=>by rw[z,ah]at nb;cases nb
 have VL:ps.length<=48:=by
  have h1:(ps.map Pr.pair).length<=48:=by
   rw[lD]
   have:=jc band (fun w hw=>(wQ w hw).2) ws.length (SA _)
   omega
  rwa [K4]at h1
 have pin: ∀p∈ps, ∃w,ws[p.c]? =some w/\p.i<w.length/\x8 band (rd w p.i)=true:=fun p hp=>by
  have hm:p.pair∈cY band ws ws.length:=by rw[<-lD];exact Xr.mpr ⟨p,hp,rfl⟩
  exact yo hm
 refine ⟨b,rfl,⟨_,bA.of vy⟩,?_⟩
 refine iF (K:=K) (a:=b) (xs:=rK ps) (fun k σ H'=> ∃(ss:List Sn) (sv nv:Option V),σ=[some (.ref wt),some (.ref vt),some (.str (S [band])),some (.ref a),sv,nv]/\H' a=some (.lst (z9 ss))/\(∀s∈ss,i8 H' aY aO y lg s/\rd s.u s.p=band/\ ∃w,ws[s.c]? =some w/\ym w s.c s.i s/\s.i<w.length)/\(ss.map fun s=>(s.c,s.i)).Perm ((ps.take k).map Pr.pair)/\Br y (2*lg) ss/\aW a H1 H')
  ⟨[],none,none,rfl,s1 _ _ ah,fun _ h=>absurd h Xg, .nil,List.Pairwise.nil,aW.refl _ _⟩ (fun k σ H' _ ⟨_,_,_,_,_,_,_,_,h⟩=>bA.of (h _ _ vy VJ)) ?_ ?_
 ·rintro k x σ H2 hx ⟨ss,sv,nv,rfl,ha,EE,lJ,MA,s2⟩
  obtain ⟨p,hp,rfl⟩:=DD hx
  have hk:k<ps.length:=(Je.mp hp).1
  have OE:=W9 hp
  obtain ⟨w,hw,hi,ho⟩:=pin p OE
  have VM:=W9 hw
  have Tp:p.c<lI.length:=by rw[uJ];exact (Je.mp hw).1
  have b5:=OD p.c w lI[p.c] hw (Jd Tp)
  have go: ∀c o,H c=some o->H2 c=some o:=fun c o e=>s2 _ _ (Kt c o e) (az e na)
  have RO:=(Ac p OE).tp
  have VN:p.t≠a:=fun z=>by rw[z,s1 _ _ ah]at RO;cases RO
  have RP:=s2 _ _ RO VN
  have VO:ss.length=k:=by
   have:=lJ.length_eq
   rw[K4,K4,Xh]at this
   omega
  refine ⟨_,rfl,_,rfl,_,rfl,y,lg,wt,vt,p.t,w,ws,lI,lI[p.c],p.c,p.i,rfl,hy,go _ _ p5,go _ _ P0,RP,hw,Jd Tp,b5.same go,hi,fun s H3 Ig mO Tq WX s3=>?_⟩
  have Tr:=Ig.band hy (wQ w VM).1 hi hb ho
  refine ⟨_,rfl, .inl ⟨rfl,_,bA.of (s3 _ _ ha)⟩,_,rfl,_,rfl,y,lg,a,ss,s,rfl,hy,hz,s3 _ _ ha,fun t ht=>⟨(EE t ht).1.same s3,by rw[(EE t ht).2.1,Tr]⟩,Tq,MA,by omega,fun n H4 hn h1 h2 s4=>?_⟩
  have Ts:=s4 _ _ (s3 _ _ ha)
  refine ⟨_,rfl,a,_,n,_,rfl,rfl,Ts,by rw[lq];exact hn,by rw[lq];omega,?_⟩
  have e1:(z9 ss).take n++V.ref s.a::(z9 ss).drop n=z9 (ss.take n++s::ss.drop n):=by
   unfold z9
   rw[WI,Za,Xl,ZQ]
  rw[e1]
  have su: ∀t,i8 H4 aY aO y lg t->i8 (L2.upd H4 a (.lst (z9 (ss.take n++s::ss.drop n)))) aY aO y lg t:=fun t ot=>by
   have ne: ∀{c:Addr} {o:HO},H4 c=some o->(∀l,o≠ .lst l)->c≠a:=fun {c o} e no z=>by rw[z,Ts]at e;exact no _ (Xa e).symm
   obtain ⟨dx,eo⟩:=ot.ob
   obtain ⟨dw,ew⟩:=ot.wy.ob
   exact ⟨⟨dx,by rw[ay (ne eo (fun l z=>by cases z))];exact eo⟩,by rw[ay (ne ot.st (fun l z=>by cases z))];exact ot.st,⟨⟨dw,by rw[ay (ne ew (fun l z=>by cases z))];exact ew⟩,ot.wy.sw,ot.wy.uz,ot.wy.lz,ot.wy.rt⟩,ot.pz⟩
  refine ⟨ss.take n++s::ss.drop n,_,_,rfl,ah,fun t ht=>?_,?_,Kb MA h1 h2,fun c o e z=>by rw[ay z];exact s4 _ _ (s3 _ _ (s2 c o e z))⟩
  ·have:t=s\/t∈ss:=by
    rcases WJ.mp ht with r | r
    ·exact .inr (Yn r)
    ·rcases WG.mp r with r | r
     ·exact .inl r
     ·exact .inr (Zb r)
   rcases this with r | r
   ·subst r
    refine ⟨su _ (Tq.same s4),Tr,w,?_,?_,?_⟩
    ·rw[Ig.ec];exact hw
    ·rw[Ig.ec,Ig.ei];exact Ig
    ·rw[Ig.ei];exact hi
   ·exact ⟨su _ (((EE t r).1.same s3).same s4),(EE t r).2⟩
  ·rw[WI,Xl, <-take_snoc hp,WI,Ig.ec,Ig.ei]
   have p1:(ss.take n).map (fun s=>(s.c,s.i))++(p.c,p.i)::(ss.drop n).map (fun s=>(s.c,s.i)) |>.Perm ((p.c,p.i)::ss.map fun s=>(s.c,s.i)):=by
    refine List.perm_middle.trans (List.Perm.cons _ ?_)
    rw[<-WI,XT]
   exact p1.trans ((List.Perm.cons _ lJ).trans (List.perm_append_singleton _ _).symm)
 ·rintro σ H2 ⟨ss,sv,nv,rfl,ha,EE,lJ,MA,s2⟩
  rw[ua,Yb,lD]at lJ
  have VO:ss.length<=48:=by
   have:=lJ.length_eq
   rw[K4, <-lD,K4]at this
   omega
  have qz:aq H H2:=fun c o e=>s2 _ _ (Kt c o e) (az e na)
  refine ⟨_,rfl,a,rfl,⟨_,bA.of ha⟩,?_⟩
  refine AK (K:=K) (a:=a) (xs:=z9 ss) (fun i acc H'=>H'=H2/\acc=(ss.take i).map fun s=>V.ref s.t) (by rw[lq];omega) (fun i acc H' h=>by rw[h.1];exact bA.of ha) ⟨rfl,rfl⟩ ?_ ?_
  ·rintro i x acc H3 Nx hi hx hl ⟨rfl,rfl⟩ nx
   obtain ⟨t,ht,rfl⟩:=GS hx
   obtain ⟨dx,e⟩:=(EE t (W9 ht)).1.ob
   refine ⟨trivial,fW ⟨_,rfl,t.a,aO,dx,_,_,rfl,e,T.dJ,T.n_Seen_strand,rQ,nx _ _ (by simpa using hl) ⟨rfl,?_⟩⟩⟩
   rw[<-take_snoc ht,WI]
   rfl
  ·rintro acc H3 D hl ⟨rfl,rfl⟩ hD
   rw[lq,Yb]
   refine ⟨D,_,rfl, .inl ⟨bA.of ah,fun t nt=>?_⟩⟩
   have sA:=(aq.upd (o:= .lst (ss.map fun s=>V.ref s.t)) hD).trans (aq.upd (o:= .tup (ss.map fun s=>V.ref s.t)) nt)
   have ep:(ss.map fun s=>(⟨s.t,s.c,s.i⟩:Pr)).map Pr.pair=ss.map fun s=>(s.c,s.i):=by rw[X5];rfl
   refine q t (ss.map fun s=>(⟨s.t,s.c,s.i⟩:Pr)) _ (aq.free (qz.trans (aq.upd hD)) nt) (by rw[ah];unfold rK;rw[X5];rfl) (fun p hp=>?_) (by rw[ep];exact lJ) ?_ (qz.trans sA)
   ·obtain ⟨s,NC,rfl⟩:=Xr.mp hp
    obtain ⟨ok,_,w,hw,_,hi⟩:=EE s NC
    have h1:=(Je.mp hw).1
    have h2:=(wQ w (W9 hw)).2
    exact ⟨sA _ _ ok.st,by show s.c<1000;omega,by show s.i<1000;omega⟩
   ·rw[ep]
    unfold Ec
    rw[X9]
    refine Zs (fun {s t} h1 h2 h=>?_) MA
    obtain ⟨o1,_,w1,e1,i1,l1⟩:=EE s h1
    obtain ⟨o2,_,w2,e2,i2,l2⟩:=EE t h2
    have g1:ws.getD s.c []=w1:=by rw[UC,e1];rfl
    have g2:ws.getD t.c []=w2:=by rw[UC,e2];rfl
    rw[<-z_ hy (wQ w1 (W9 e1)).1 l1 g1 i1 o1.wy.rt, <-z_ hy (wQ w2 (W9 e2)).1 l2 g2 i2 o2.wy.rt]
    exact h
theorem p_:bC P w K mg base eR 2 Lm LY ["word","place"] (iW K):=by
 have bM:=c_ (P:=P) (w:=w) (base:=base) T
 refine T.Pp.fn.ok pW (fun vs H Q E h=>nh h) (fun cx A outer s H vs Q E hr h=>?_)
 refine ⟨_,(ai (aG (dq (aa (ak bM (hr.mono (by decide)) rfl T.F0.mg T.F0.fn.kp T.F0.bd .nil aB (aa (aV gQ (pv 0) (aE dm (pv 1) aj) (fun _ _=>rfl)) ae)) (aa (aV gQ (pv 0) (pv 1) (fun _ _=>rfl)) ae))))),?_⟩
 obtain ⟨w,i,rfl,hl,hz,hi,q⟩:=h
 have hs:(100000:Nat)<sizeLine:=by decide
 have cP:w≠[]:=fun z=>by rw[z]at hi;simp at hi
 refine ⟨_,rfl,_,rfl,_,_,rfl,rfl,w,_,_,rfl,rfl,by omega,kS (by omega) (by omega),_,rfl,(hl _ (g5 cP _)).lt,?_⟩
 refine ⟨_,rfl,_,rfl,w,_,_,rfl,rfl,by omega,kS (by omega) (by omega),by show 2<=sizeLine;decide,fun t nt=>?_⟩
 exact q t _ nt ah (aq.upd nt)
theorem qa:bC P w K mg base eR 1 f3 d3 ["yard","start","end"] (iS K):=by
 refine T.F3.fn.ok pV (fun vs H Q E h=>ng h) (fun cx A outer s H vs Q E hr h=>?_)
 refine ⟨_,(ai (aG (aE eI (aE dm (bL K rfl Xc PySem.F.slot_str_find PySem.F.type_str_find u_ (pv 0) (aa (pv 2) ae)) (bL K rfl Xc PySem.F.slot_str_find PySem.F.type_str_find u_ (pv 0) (aa (pv 1) ae))) (aD aR rfl T.z_len W_ (aa (pv 0) ae))))),?_⟩
 obtain ⟨y,a,b,rfl,ha,hb,hz,q⟩:=h
 have hs:(1000:Nat)<sizeLine:=by decide
 have hp:(0:Int)<(y.length:Int):=by have:=ZE ha;omega
 refine ⟨_,rfl,rfl,_,rfl,y,b,rfl,rfl,?_⟩
 rw[if_pos hb]
 refine ⟨_,rfl,rfl,_,rfl,y,a,rfl,rfl,?_⟩
 rw[if_pos ha]
 exact ⟨_,_,rfl,rfl,_,rfl,y,rfl,by omega,_,_,rfl,rfl,hp,q⟩
theorem nF:bC P w K mg base eR 3 Lr L4 ["yard","word","place"] (ik K):=by
 have qE:=p_ (P:=P) (w:=w) (base:=base) T
 have qF:=qa (P:=P) (w:=w) (base:=base) T
 refine T.Px.fn.ok iq (fun vs H Q E h=>mB h) (fun cx A outer s H vs Q E hr h=>?_)
 refine ⟨_,(ag (ao (i:=3) iq.nd rfl (Or.inl rfl) (ak qE (hr.mono (by decide)) rfl T.Pp.mg T.Pp.fn.kp T.Pp.bd .nil aB (aa (pv 1) (aa (pv 2) ae))))
   (ai (aG (ak qF (hr.mono (by decide)) rfl T.F3.mg T.F3.fn.kp T.F3.bd .nil aB (aa (pv 0) (aa (aV (bB K rfl) (pv 3) aj (fun _ _=>rfl)) (aa (aV (bB K rfl) (pv 3) aj (fun _ _=>rfl)) ae))))))),?_⟩
 obtain ⟨y,w,i,rfl,hy,hz,hw,lK,hi,q⟩:=h
 refine ⟨_,rfl,_,rfl,w,i,rfl,fun c hc=>hy.lt c (hw.bo c hc),lK,hi,fun p H1 np hp s1=>?_⟩
 refine ⟨_,rfl,_,rfl,p,_,0,_,rfl,rfl,cT.of hp,rfl,_,rfl,p,_,1,_,rfl,rfl,cT.of hp,rfl,y,_,_,rfl,hy.cl _ (hw.rd _),hw.rd _,by omega,?_⟩
 have rg:=cK (hy.cl _ (hw.rd ((i:Int) - 1))) (hw.rd i) (Ne.symm (hw.red i))
 obtain ⟨n,hn⟩: ∃n:Nat,cst y w i=n:=⟨(cst y w i).toNat,by have:=rg.1;unfold cst;omega⟩
 have:=rg.2.1
 have e:ni y (aC (rd w ((i:Int) - 1))) (rd w i)=n:=hn
 have key:=q n H1 hn (by omega) s1
 rw[<-e]at key
 exact key
theorem EF:bC P w K mg base eR 6 jT wj ["self","yard","word","longest"] (v8 K aY):=by
 have Ky:=G7 (P:=P) (w:=w) (base:=base) T
 have mJ:=uw (P:=P) (w:=w) (base:=base) T
 have qb:=r_ (P:=P) (w:=w) (base:=base) T
 have qc:=nF (P:=P) (w:=w) (base:=base) T
 refine T.Ov.ok pY (fun vs H Q E h=>Bq h) (fun cx A outer s H vs Q E hr h=>?_)
 refine ⟨_,(ag (iH (pv 0) (aD aR rfl T.z_len W_ (aa (pv 2) ae)) rfl)
   (ag (iH (pv 0) (aD aR rfl T.z_len W_ (aa (aV (bB K rfl) (ak Ky (hr.mono (by decide)) rfl T.Pw.mg T.Pw.fn.kp T.Pw.bd .nil aB (aa (pv 2) ae)) aj (fun _ _=>rfl)) ae)) rfl)
   (ag (iH (pv 0) (jj sS (ak mJ (hr.mono (by decide)) rfl T.Bw.mg T.Bw.fn.kp T.Bw.bd .nil aB (aa (pv 2) ae)) (ak mJ (hr.mono (by decide)) rfl T.Bw.mg T.Bw.fn.kp T.Bw.bd .nil aB (aa (ak qb (hr.mono (by decide)) rfl T.F1.mg T.F1.fn.kp T.F1.bd .nil aB (aa (pv 2) ae)) ae)) (aT _)) rfl)
   (ag (ao (i:=4) pY.nd rfl (Or.inl rfl) (bL K rfl Xc Yh Yg (fH K rfl) (iJ [] (by decide+kernel)) (aa (cV ["place","yard","word"] [none,some 1,some 2] (gx rfl T.z_range (aa (aD aR rfl T.z_len W_ (aa (pv 2) ae)) ae)) ⟨⟨rfl,rfl,by first | exact .inl rfl | exact .inr rfl⟩,⟨⟨rfl,rfl,by first | exact .inl rfl | exact .inr rfl⟩,trivial⟩⟩ (fun _ _ _ _=>(aQ (i:=0) (by decide+kernel:List.Nodup (["place","yard","word"]:List Str)) rfl (Or.inl rfl))) (fun _ _ _ _=>iI) (fun _ _ _ _=>(cI AU rfl T.z_str boot_str (aa (ak qc (hr.mono (by decide)) rfl T.Px.mg T.Px.fn.kp T.Px.bd .nil aB (aa (pv 1) (aa (pv 2) (aa (pv 0) ae)))) ae)))) ae)))
   (ag (ao (i:=5) pY.nd rfl (Or.inl rfl) (aE bj aj (aE dZ (pv 3) (aD (As rfl) rfl T.z_max boot_max (aa (aD aR rfl T.z_len W_ (aa (pv 2) ae)) (aa aj ae))))))
   (ag (iH (pv 0) (aE sV (pv 4) (pv 5)) rfl)
   (ai (iH (pv 0) (aE sV (Ga (pv 4) (bK (kx gO aj))) (pv 5)) rfl)))))))),?_⟩
 obtain ⟨x,dx,y,w',lg,rfl,hx,hy,hz,hw,uJ,P5,q⟩:=h
 have hs:(100000:Nat)<sizeLine:=by decide
 have dz: ∀c∈w',Lt c:=fun c hc=>hy.lt c (hw.bo c hc)
 have h8: ∀c∈w',c<128:=fun c hc=>(dz c hc).lt
 have ht:=hw.gv hy
 have VP: ∀c∈gv w',Lt c:=fun c hc=>hy.lt c (ht.bo c hc)
 have h1:1<=w'.length:=SE.mpr hw.ne
 have rl:=lj (lg:=lg) h1
 obtain ⟨rt,P6⟩:=zu hw.ne
 refine ⟨_,rfl,w',rfl,by omega,_,rfl,x,aY,dx,_,rfl,hx,T.gc,T.n_Way_size,by show 0<1000;decide,?_⟩
 refine ⟨_,rfl,w',rfl,dz,by omega,fun p1 s1 H1 n1 nX HL OB=>?_⟩
 obtain ⟨er,el⟩:=Bc hy hw HL P6
 subst er
 have et:((bP w').take s1).length=s1:=by
  rw[Xh,el]
  rcases P6 with ⟨z,_⟩ | ⟨_,h2,_⟩
  ·exact absurd z hw.ne
  ·omega
 have VQ:s1<=w'.length:=by
  rcases P6 with ⟨z,_⟩ | ⟨_,h2,_⟩
  ·exact absurd z hw.ne
  ·exact h2
 have VR:=OB _ _ (ah (H:=H) (a:=x))
 refine ⟨p1,_,0,_,rfl,rfl,cT.of nX,rfl,_,rfl,by rw[et];omega,_,rfl,x,aY,dx,_,rfl,VR,T.gc,T.n_Way_root_size,Xz (cZ _ _ _) (by show 0+1<1000;decide),?_⟩
 rw[et]
 refine ⟨_,rfl,w',rfl,dz,by omega,fun H2 s2=>⟨_,rfl,w',rfl,h8,by omega,fun H3 s3=>⟨gv w',rfl,VP,by rw[cj];omega,fun H4 s4=>?_⟩⟩⟩
 have Tt:=s2.trans (s3.trans s4)
 have VS:=Tt _ _ (ah (a:=x))
 refine ⟨_,_,rfl,rfl,_,rfl,x,aY,dx,_,rfl,VS,T.gc,T.n_Way_leads,Xz (cZ _ _ _) (Xz (Yi (cZ _ _ _)) (by show 0+1+1<1000;decide)),?_⟩
 have VT:decide (bP w'<bP (gv w'))=leads w':=by
  unfold leads
  rw[hw.bP hy,ht.bP hy]
 refine ⟨rfl,_,rfl,w',rfl,by omega,_,rfl,by omega,by omega,?_⟩
 rw[UA]
 refine Cw (fun i acc H'=>aq _ H'/\acc=cg ((stx y w').take i)) (by omega) ⟨aq.refl _,rfl⟩ ?_ ?_
 ·rintro i acc H5 Nx hi hl ⟨s5,rfl⟩ nx
  refine ⟨⟨rfl,rfl,trivial⟩,fW ⟨_,rfl,_,rfl,_,rfl,y,w',i,by rw[Y5];rfl,hy,hz,hw,by omega,hi,fun n H6 hn WY s6=>⟨n,rfl,by omega,nx _ _ (by simpa using hl) ⟨s5.trans s6,?_⟩⟩⟩⟩
  have eg:(stx y w')[i]? =some (48+n):=by
   unfold stx
   rw[Xd,List.getElem?_range hi]
   show some (wM (cst y w' i))=_
   rw[hn]
   unfold wM
   congr 1
  rw[J9 n (by omega),cW,take_snoc eg]
 ·rintro acc H5 D hl ⟨s5,rfl⟩ hD
  have OF:(stx y w').take w'.length=stx y w':=Xo (by rw[di];exact SA _)
  rw[OF]at hl ⊢
  refine ⟨D,(stx y w').map fun c=>[c],rfl,rfl,bA.of (by rw[ah, <-dh]),by rw[vE,di];omega,?_⟩
  rw[mV]
  have Tu:=s5.trans (aq.upd (o:= .lst (cg (stx y w'))) hD)
  have RQ:=Tu _ _ (ah (a:=x))
  have RS:(if (1:Int)>(w'.length:Int) then (1:Int) else (w'.length:Int))=(max w'.length 1:Nat):=by split<;>omega
  have Kz:(3:Int)+(lg:Int) / (if (1:Int)>(w'.length:Int) then (1:Int) else (w'.length:Int))=(i7 lg w'.length:Nat):=by
   rw[RS]
   unfold i7
   rw[XW,Y_]
   rfl
  have rb:i7 lg w'.length<=1003:=by unfold i7;have:=Nat.div_le_self lg (max w'.length 1);omega
  refine ⟨_,rfl,_,rfl,w',rfl,by omega,_,_,rfl,_,_,rfl,rfl,⟨by rw[RS];omega,by rw[RS];omega⟩,_,_,rfl,rfl,?_⟩
  have l3: ∀(a b c:V),(dQ "leads" a (dQ "root_size" b (dQ "size" c []))).length<=3:=fun a b c=>Xt (cZ _ _ _) (Yi (Xt (cZ _ _ _) (Yi (cZ _ _ _))))
  refine ⟨_,rfl,_,rfl,stx y w',_,rfl,rfl,⟨by rw[Kz];omega,by rw[Kz];omega⟩,by rw[Kz,UA,di];omega,_,rfl,x,aY,dx,_,rfl,RQ,T.gc,T.n_Way_onward,Xz (l3 _ _ _) (by decide),?_⟩
  refine ⟨_,rfl,1,rfl,_,rfl,rfl,stx y w',rfl,by rw[di];omega,_,rfl,(stx y w').reverse,_,rfl,rfl,⟨by rw[Kz];omega,by rw[Kz];omega⟩,by rw[Kz,UA,XA,di];omega,_,rfl,x,aY,dx,_,rfl,ah,T.gc,T.n_Way_backward,Xz (cZ _ _ _) (Xz (Yi (l3 _ _ _)) (by decide)),?_⟩
  refine q s1 _ P6 ?_ fun b o eb zb=>?_
  ·rw[ah]
   unfold mw
   rw[<-VT,Kz,UA]
  ·rw[ay zb,ay zb]
   refine Tu _ _ ?_
   rw[ay zb]
   refine Tt _ _ ?_
   rw[ay zb]
   refine OB _ _ ?_
   rw[ay zb]
   exact eb
theorem Ae:bC P w K mg base eR 8 LA Md ["yard","words"] (Aa K):=by
 have qb:=r_ (P:=P) (w:=w) (base:=base) T
 have ux:=wx (P:=P) (w:=w) (base:=base) T
 have uE:=qC (P:=P) (w:=w) (base:=base) T
 have Af:=EF (P:=P) (w:=w) (base:=base) T
 refine T.Kk.fn.ok ur (fun vs H Q E h=>Ed h) (fun cx A outer s H vs Q E hr h=>?_)
 refine ⟨_,(ag (ao (i:=2) ur.nd rfl (Or.inr rfl) (Gd K rfl rfl rfl T.z_max (aa (cV ["word"] [none] (sU K rfl (pv 1)) trivial (fun _ _ _ _=>(aQ (i:=0) (by decide+kernel:List.Nodup (["word"]:List Str)) rfl (Or.inl rfl))) (fun _ _ _ _=>iI) (fun _ _ _ _=>(aD aR rfl T.z_len W_ (aa (pv 0) ae)))) ae)))
   (ag (ao (i:=3) ur.nd rfl (Or.inr rfl) (cV ["word","yard","longest"] [none,some 0,some 2] (sU K rfl (pv 1)) ⟨⟨rfl,rfl,by first | exact .inl rfl | exact .inr rfl⟩,⟨⟨rfl,rfl,by first | exact .inl rfl | exact .inr rfl⟩,trivial⟩⟩ (fun _ _ _ _=>(aQ (i:=0) (by decide+kernel:List.Nodup (["word","yard","longest"]:List Str)) rfl (Or.inl rfl))) (fun _ _ _ _=>iI) (fun _ _ _ _=>(dq (aa (nI T.Ia Af (hr.mono (by decide)) rfl T.H_ T.Ib .nil aB (aa (pv 1) (aa (pv 0) (aa (pv 2) ae)))) (aa (nI T.Ia Af (hr.mono (by decide)) rfl T.H_ T.Ib .nil aB (aa (pv 1) (aa (ak qb (hr.mono (by decide)) rfl T.F1.mg T.F1.fn.kp T.F1.bd .nil aB (aa (pv 0) ae)) (aa (pv 2) ae)))) ae))))))
   (ai (aG (dq (aa (cI (dX K rfl) rfl T.z_tuple boot_tuple (aa (pv 1) ae)) (aa (cI (dX K rfl) rfl T.z_tuple boot_tuple (aa (cV ["band","words","ways"] [none,some 1,some 3] (gR (ak ux (hr.mono (by decide)) rfl T.F2.mg T.F2.fn.kp T.F2.bd .nil aB (aa (pv 0) ae))) ⟨⟨rfl,rfl,by first | exact .inl rfl | exact .inr rfl⟩,⟨⟨rfl,rfl,by first | exact .inl rfl | exact .inr rfl⟩,trivial⟩⟩ (fun _ _ _ _=>(aQ (i:=0) (by decide+kernel:List.Nodup (["band","words","ways"]:List Str)) rfl (Or.inl rfl))) (fun _ _ _ _=>iI) (fun _ _ _ _=>(ak uE (hr.mono (by decide)) rfl T.PD.mg T.PD.fn.kp T.PD.bd .nil aB (aa (pv 1) (aa (pv 2) (aa (pv 0) ae)))))) ae)) ae))))))),?_⟩
 obtain ⟨y,wt,ws,rfl,hy,hz,p5,RN,wQ,q⟩:=h
 have hs:(100000:Nat)<sizeLine:=by decide
 have PV: ∀c∈y,c<128:=CO hy.lt
 have Vv:=i5 hy
 obtain ⟨lg,VU,VV,P5⟩:=yp fun w hw=>(wQ w hw).2
 refine ⟨_,rfl,wt,rfl,⟨_,cT.of p5⟩,?_⟩
 refine oN (K:=K) (a:=wt) (xs:=dI ws) (fun i acc H'=>H'=H/\acc=(GV (ws.take i)).map V.int) (by rw[bD];omega) (fun i acc H' h=>by rw[h.1];exact cT.of p5) ⟨rfl,rfl⟩ ?_ ?_
 ·rintro i x acc H1 Nx hi hx hl ⟨rfl,rfl⟩ nx
  rw[bD]at hi
  rw[gW hi]at hx
  cases hx
  have KA:=wQ ws[i] (Xp hi)
  refine ⟨trivial,fW ⟨_,rfl,ws[i],rfl,by omega,nx _ _ (by simpa using hl) ⟨rfl,?_⟩⟩⟩
  rw[<-take_snoc (Jd hi)]
  unfold GV
  rw[WI,WI]
  rfl
 ·rintro acc H1 D hl ⟨rfl,rfl⟩ hD
  rw[bD,Yb]
  refine ⟨D,GV ws,rfl,bA.of ah,?_⟩
  rw[VU]
  have sD:=aq.upd (o:= .lst ((GV ws).map V.int)) hD
  refine ⟨_,rfl,wt,rfl,⟨_,cT.of (sD _ _ p5)⟩,?_⟩
  refine oN (K:=K) (a:=wt) (xs:=dI ws) (fun i acc H'=>aq H1 H'/\ ∃lI:List Wp,acc=Fb lI/\lI.length=i/\ ∀(c:Nat) (w:List Nat) (p:Wp),ws[c]? =some w->lI[c]? =some p->ug H' aY y lg w p) (by rw[bD];omega) (fun i acc H' h=>cT.of (h.1 _ _ p5)) ⟨sD,[],rfl,rfl,fun c w p _ h=>by simp at h⟩ ?_ ?_
  ·rintro i x acc H2 Nx hi hx AD ⟨s2,lI,rfl,uJ,OD⟩ nx
   rw[bD]at hi
   rw[gW hi]at hx
   cases hx
   have KA:=wQ ws[i] (Xp hi)
   have Tv:ws[i]? =some ws[i]:=Jd hi
   have OG:=P5 ws[i] (Xp hi)
   generalize ws[i]=w' at KA Tv OG ⊢
   have h8: ∀c∈w',c<128:=fun c hc=>(hy.lt c (KA.1.bo c hc)).lt
   refine ⟨⟨rfl,rfl,trivial⟩,fW ?_⟩
   refine ⟨_,rfl,_,rfl,_,rfl,fun x1 Tw VW RT ne1=>⟨x1,Tw,y,w',lg,rfl,ah,hy,hz,KA.1,OG,by omega,fun r H3 hr RA VX=>⟨rfl,?_⟩⟩⟩
   have VY:=rV VW RT VX
   refine ⟨_,rfl,_,rfl,w',rfl,h8,by omega,fun H4 OH=>⟨_,rfl,fun x2 Tx RU RV ne2=>⟨x2,Tx,y,gv w',lg,rfl,ah,hy,hz,KA.1.gv hy,by rw[cj];exact OG,by omega,fun r2 H5 N3 RQ VZ=>⟨rfl,?_⟩⟩⟩⟩
   have V0:=rV RU RV VZ
   refine ⟨by show 2<=sizeLine;decide,fun t nt=>?_⟩
   have Tz:=aq.upd (o:= .tup [.ref x1, .ref x2]) nt
   have MB:=OH.trans (V0.trans Tz)
   have all:=VY.trans MB
   refine nx _ _ (by simpa using AD) ⟨s2.trans all,lI++[⟨t,x1,x2,r,r2⟩],D9 lI ⟨t,x1,x2,r,r2⟩,by rw[SD,uJ];rfl,GX uJ (fun c w p a b=>(OD c w p a b).same all) Tv ⟨ah,⟨⟨Tw,MB _ _ RA⟩,KA.1,OG,by omega,hr⟩,⟨⟨Tx,Tz _ _ RQ⟩,KA.1.gv hy,by rw[cj];exact OG,by omega,N3⟩⟩⟩
  ·rintro acc H2 D2 AD ⟨s2,lI,rfl,uJ,OD⟩ V1
   rw[bD]at uJ
   have TB:=aq.upd (o:= .lst (Fb lI)) V1
   have qz:=s2.trans TB
   refine ⟨_,rfl,wt,_,rfl, .inr ⟨cT.of (qz _ _ p5),?_⟩⟩
   refine ⟨_,rfl,y,rfl,PV,by omega,fun l' H3 yL Lf s3=>?_⟩
   have el:=zP yL Lf
   subst el
   refine ⟨_,rfl,?_⟩
   have EC:=qz.trans s3
   have V2:=s3 _ _ (ah (H:=H2) (a:=D2) (o:=HO.lst (Fb lI)))
   refine fG (xs:=cg (fA y)) (fun i acc H'=>aq H3 H'/\ ∃os:List Od,acc=GI os/\(∀o∈os,Bj H' o)/\os.length=i/\(∀(j:Nat) (o:Od) (b:Nat),os[j]? =some o->(fA y)[j]? =some b->(o.ps.map Pr.pair).Perm (cY b ws ws.length))/\ ∀o∈os,Ec y ws (2*lg) (o.ps.map Pr.pair)) (by rw[aN];omega) ⟨aq.refl _,[],rfl,fun _ h=>absurd h Xg,rfl,fun j o b h=>by simp at h,fun _ h=>absurd h Xg⟩ ?_ ?_
   ·rintro i x acc H4 Nx hi hx wz ⟨s4,os,rfl,N0,JX,RW,RX⟩ nx
    obtain ⟨b,hb,rfl⟩:=dU hx
    have V3:=wa hy (W9 hb)
    refine ⟨⟨rfl,rfl,trivial⟩,fW ?_⟩
    refine ⟨_,rfl,_,rfl,_,rfl,y,lg,wt,D2,ws,lI,b,rfl,hy,hz,s4 _ _ (EC _ _ p5),RN,wQ,V3,s4 _ _ V2,uJ,fun c w p a1 a2=>(OD c w p a1 a2).same (TB.trans (s3.trans s4)),fun t ps H5 nt ht Ac lJ MA s5=>?_⟩
    have Tj:ps.length<=100:=by
     have h1:=lJ.length_eq
     have h2:=jc b (fun w hw=>(wQ w hw).2) ws.length (SA _)
     rw[K4]at h1
     omega
    refine nx _ _ (by simpa using wz) ⟨s4.trans s5,os++[⟨t,ps⟩],DE os ⟨t,ps⟩,fun o ho=>?_,by rw[SD,JX];rfl,fun j o b' ho BN=>?_,fun o ho=>?_⟩
    ·rcases WJ.mp ho with g | g
     ·exact (N0 o g).same s5
     ·rw[O8.mp g]
      exact ⟨ht,Ac,Tj⟩
    ·by_cases z:j<os.length
     ·rw[XG z]at ho
      exact RW j o b' ho BN
     ·rw[XY (by omega)]at ho
      have:j=i:=by
       have:=(Je.mp ho).1
       simp at this
       omega
      subst this
      rw[JX,ZV]at ho
      cases ho
      rw[hb]at BN
      cases BN
      exact lJ
    ·rcases WJ.mp ho with g | g
     ·exact RX o g
     ·rw[O8.mp g]
      exact MA
   ·rintro acc H4 D3 wz ⟨s4,os,rfl,N0,JX,RW,RX⟩ V4
    rw[aN]at JX
    refine ⟨D3,_,rfl, .inl ⟨bA.of ah,fun t nt=>?_⟩⟩
    refine ⟨by show 2<=sizeLine;decide,fun dr RY=>?_⟩
    have sA:=(aq.upd (o:= .lst (GI os)) V4).trans ((aq.upd (o:= .tup (GI os)) nt).trans (aq.upd (o:= .tup [.ref wt, .ref t]) RY))
    have V5:t≠dr:=fun z=>by rw[<-z,ah]at RY;cases RY
    have Hb:=EC.trans s4
    exact q dr os _ ⟨⟨wt,t,ah,sA _ _ (Hb _ _ p5),by rw[ay V5,ah]⟩,fun o ho=>(N0 o ho).same sA⟩ ⟨2*lg,fun w hw v hv=>by have:=P5 w hw;have:=P5 v hv;omega,⟨JX,RW⟩,RX⟩ (Hb.trans sA)
theorem nG:bC P w K mg base eR 1 f9 d9 ["some"] (ig K):=by
 refine T.F9.fn.ok dG (fun vs H Q E h=>mr h) (fun cx A outer s H vs Q E hr h=>?_)
 refine ⟨_,(ag (ao (i:=1) dG.nd rfl (Or.inl rfl) vv)
   (ag (ck PassesOwn.never rfl (gy K rfl (pv 0)) (aQ (i:=2) dG.nd rfl (Or.inl rfl)) (ag (ao (i:=3) dG.nd rfl (Or.inl rfl) (aD (qL rfl) rfl T.z_min boot_min (aa (aV (bB K rfl) (pv 2) aj (fun _ _=>rfl)) (aa (aV (bB K rfl) (pv 2) aj (fun _ _=>rfl)) ae))))
   (ag (nM (kA hr) (pv 1) (aV (bB K rfl) (pv 2) aj (fun _ _=>rfl)) (pv 3) rfl)
   (ai (nM (kA hr) (pv 1) (aV (bB K rfl) (pv 2) aj (fun _ _=>rfl)) (pv 3) rfl)))))
   (ai (aG (pv 1))))),?_⟩
 obtain ⟨a,qs,rfl,ha,hq,hn,nd,q⟩:=h
 have hs:(100000:Nat)<sizeLine:=by decide
 walk_at "wk"
 intro d MC
 have TC:a≠d:=az ha MC
 refine ⟨_,rfl,a,rfl,⟨_,bA.of (by rw[ay TC];exact ha)⟩,?_⟩
 refine iF (K:=K) (a:=a) (xs:=nq qs) (fun k σ H'=> ∃(cv fv:Option V),σ=[some (.ref a),some (.ref d),cv,fv]/\H' d=some (.dK (fU ((qs.take k).map Q4.v)))/\aW d H H')
  ⟨none,none,rfl,ah,fun b o e z=>by rw[ay z];exact e⟩ (fun k σ H' _ ⟨_,_,_,_,h⟩=>bA.of (h _ _ ha TC)) ?_ ?_
 ·rintro k x σ H1 hx ⟨cv,fv,rfl,hd,s1⟩
  obtain ⟨c,hc,rfl⟩:=JY hx
  have hk:k<qs.length:=(Je.mp hc).1
  have tc:=hq c (W9 hc)
  have jY:c.t≠d:=fun z=>by have h9:H c.t=_:=tc;rw[z,MC]at h9;cases h9
  have P7:qw H1 c:=s1 _ _ tc jY
  have lc:(fU ((qs.take k).map Q4.v)).length<=2000:=by rw[v7,K4,Xh];omega
  have e:(qs.take (k+1)).map Q4.v=(qs.take k).map Q4.v++[c.v]:=by rw[<-take_snoc hc,WI];rfl
  have TF:(dF ((qs.take k).map Q4.v++[c.v])).Nodup:=by
   rw[<-e]
   have:qs.map Q4.v=(qs.take (k+1)).map Q4.v++(qs.drop (k+1)).map Q4.v:=by rw[<-WI,XT]
   rw[this]at nd
   unfold dF at nd ⊢
   rw[XU,X4]at nd
   exact nd.1
  refine ⟨_,rfl,c.t,_,2,_,rfl,rfl,cT.of P7,rfl,_,rfl,c.t,_,3,_,rfl,rfl,cT.of P7,rfl,_,_,rfl,?_⟩
  refine ⟨_,rfl,_,rfl,_,rfl,c.t,_,2,_,rfl,rfl,cT.of P7,rfl,d,_,rfl,qq.k (k:=Sum.inl (c.v.2.2.1:Int)) hd (by omega),?_⟩
  have V6: ∀o,qw (L2.upd H1 d o) c:=fun o=>by show L2.upd H1 d o c.t=_;rw[ay jY];exact P7
  refine ⟨_,rfl,_,rfl,_,rfl,c.t,_,3,_,rfl,rfl,cT.of (V6 _),rfl,d,_,rfl,qq.k (k:=Sum.inl (c.v.2.2.2:Int)) ah (Xz (eV _ _ _) (by omega)),?_⟩
  refine ⟨_,_,rfl,?_,fun b o eb z=>by rw[ay z,ay z];exact s1 b o eb z⟩
  rw[ah,e, <-GN TF]
  rfl
 ·rintro σ H1 ⟨cv,fv,rfl,hd,s1⟩
  rw[zT,Yb]at hd
  exact ⟨_,rfl,q d H1 MC hd fun b o eb=>s1 b o eb (az eb MC)⟩
theorem uF:bC P w K mg base eR 1 Lj LV ["rising","point"] (k_ K):=by
 refine T.Pn.fn.ok dj (fun vs H Q E h=>qx h) (fun cx A outer s H vs Q E hr h=>?_)
 refine ⟨_,(ag (ao (i:=2) dj.nd rfl (Or.inl rfl) aj)
   (ag (ao (i:=3) dj.nd rfl (Or.inl rfl) (aE dm (aD (a_ K rfl) rfl T.z_len W_ (aa (pv 0) ae)) aj))
   (ag (cJ PassesOwn.never (aI oj (pv 2) (pv 3) (aT _)) (ag (ao (i:=4) dj.nd rfl (Or.inl rfl) (aE dZ (aE bj (pv 2) (pv 3)) aj))
   (ai (bV (aI oj (aV (bX K rfl) (pv 0) (pv 4) (fun _ _=>rfl)) (pv 1) (aT _)) (ai (ao (i:=2) dj.nd rfl (Or.inl rfl) (aE bj (pv 4) aj))) (ai (ao (i:=3) dj.nd rfl (Or.inl rfl) (pv 4)))))))
   (ai (aG (pv 2)))))),?_⟩
 obtain ⟨a,l,p,rfl,ha,up,hp,hn,q⟩:=h
 have hs:(100000:Nat)<sizeLine:=by decide
 have hi:=Uy hp
 have RZ:l[l.idxOf p]=p:=XF hi
 have key:=Yt.mp up
 refine ⟨_,rfl,a,_,rfl, .inl (bA.of ha),?_⟩
 rw[kZ]
 walk_at "wk"
 refine ⟨fun m σ H'=> ∃(lo hi:Nat) (mv:Option V),σ=[some (.ref a),some (.int p),some (.int lo),some (.int hi),mv]/\m=hi - lo/\lo<=l.idxOf p/\l.idxOf p<=hi/\hi<l.length/\H'=H,⟨_,0,l.length - 1,none,?_,rfl,Xb _,by omega,by omega,rfl⟩,?_⟩
 ·have:((l.length:Int) - 1)=((l.length - 1:Nat):Int):=by omega
  rw[<-this];rfl
 rintro m σ H2 ⟨lo,lS,mv,rfl,rfl,h1,h2,h3,rfl⟩
 walk_at "wk"
 refine bS (fun z=>?_) (fun z=>?_)
 ·have z1:(lo:Int)<lS:=of_decide_eq_true z
  have em:(((lo:Int)+lS) / 2)=(((lo+lS) / 2:Nat):Int):=by omega
  have hm:(lo+lS) / 2<l.length:=by omega
  walk_at "rd"
  refine ⟨a,_,((lo:Int)+lS) / 2,_,rfl,rfl,bA.of ha,by rw[em];exact bY (DV (Jd hm)),?_⟩
  walk_at "rd"
  refine bS (fun y=>?_) (fun y=>?_)
  ·have y1:((l[(lo+lS) / 2]:Nat):Int)<p:=of_decide_eq_true y
   have lt:(lo+lS) / 2<l.idxOf p:=by
    refine Classical.byContradiction fun w=>?_
    by_cases e:(lo+lS) / 2=l.idxOf p
    ·have:l[(lo+lS) / 2]=p:=by simp only[e];exact RZ
     omega
    ·have:=key (l.idxOf p) ((lo+lS) / 2) hi hm (by omega)
     rw[RZ]at this
     omega
   walk_at "rd"
   have e1:((lo:Int)+lS) / 2+1=(((lo+lS) / 2+1:Nat):Int):=by omega
   refine ⟨lS - ((lo+lS) / 2+1),by omega,(lo+lS) / 2+1,lS,_,by rw[<-e1];rfl,rfl,by omega,h2,h3,rfl⟩
  ·have y1: ¬((l[(lo+lS) / 2]:Nat):Int)<p:=fun w=>y (decide_eq_true w)
   have le:l.idxOf p<=(lo+lS) / 2:=by
    refine Classical.byContradiction fun w=>?_
    have:=key ((lo+lS) / 2) (l.idxOf p) hm hi (by omega)
    rw[RZ]at this
    omega
   walk_at "rd"
   refine ⟨(lo+lS) / 2 - lo,by omega,lo,(lo+lS) / 2,_,by rw[<-em];rfl,rfl,h1,le,by omega,rfl⟩
 ·have z1: ¬(lo:Int)<lS:=fun w=>z (decide_eq_true w)
  have e:lo=l.idxOf p:=by omega
  walk_at "rd"
  rw[e]
  exact q
theorem gf:bC P w K mg base eR 2 Lk LW ["some"] (f_ K):=by
 have qd:=nG (P:=P) (w:=w) (base:=base) T
 have wB:=uF (P:=P) (w:=w) (base:=base) T
 refine T.Bv.fn.ok bH (fun vs H Q E h=>kc h) (fun cx A outer s H vs Q E hr h=>?_)
 refine ⟨_,(ag (ao (i:=1) bH.nd rfl (Or.inl rfl) (ak qd (hr.mono (by decide)) rfl T.F9.mg T.F9.fn.kp T.F9.bd .nil aB (aa (pv 0) ae)))
   (ag (ao (i:=2) bH.nd rfl (Or.inl rfl) (dS ae))
   (ag (ao (i:=3) bH.nd rfl (Or.inl rfl) aj)
   (ag (ck PassesOwn.never rfl (gy K rfl (aD (qt rfl) rfl T.z_sorted boot_sorted (aa (pv 1) ae))) (aQ (i:=4) bH.nd rfl (Or.inl rfl)) (ai (bV (aI j6 (nL (kA hr) (pv 1) (pv 4) (fun _ _=>rfl)) (pv 4) (aT _)) (ai (da (bL K rfl Xs XR XQ de (pv 2) (aa (pv 4) ae)))) (ag (ao (i:=5) bH.nd rfl (Or.inl rfl) (ak wB (hr.mono (by decide)) rfl T.Pn.mg T.Pn.fn.kp T.Pn.bd .nil aB (aa (pv 2) (aa (nL (kA hr) (pv 1) (pv 4) (fun _ _=>rfl)) ae))))
   (ag (da (bL K rfl Xs YF YE kz (pv 2) (aa (pv 5) ae)))
   (ai (iD (i:=3) bH.nd rfl (Or.inl rfl) (aE dm (aD (a_ K rfl) rfl T.z_len W_ (aa (pv 2) ae)) (pv 5)) sC)))))))
   (ai (aG (pv 3))))))),?_⟩
 obtain ⟨a,qs,rfl,ha,hq,hn,nd,q⟩:=h
 have hs:(100000:Nat)<sizeLine:=by decide
 refine ⟨_,rfl,a,qs,rfl,ha,hq,by omega,nd,fun d H1 TF hd s1=>?_⟩
 have V7:(qs.map Q4.v).length<=24:=by rw[K4];exact hn
 generalize qs.map Q4.v=cs at nd hd q V7
 have kl:=v7 cs
 have WZ:(dF cs).length=2*cs.length:=by
  have:=congrArg List.length (gG cs)
  rw[K4,K4]at this
  omega
 walk_at "wk"
 intro b nb
 have TH:d≠b:=az hd nb
 have hd2:L2.upd H1 b (.lst []) d=some (.dK (fU cs)):=by rw[ay TH];exact hd
 have sb:=aq.upd (o:= .lst []) nb
 refine ⟨_,rfl,d,_,(dF cs).map fun n:Nat=>(n:Int),rfl,hd2,by rw[gG,X5];rfl,by rw[K4];omega,fun p2 ms n2 lJ G8=>?_⟩
 obtain ⟨P,eP,pP,uP⟩:=yi nd lJ G8
 rw[eP]
 have ch:=J4 nd pP uP
 have lP:P.length<=2000:=by rw[pP.length_eq];omega
 have TJ:p2≠b:=fun z=>by rw[z,ah]at n2;cases n2
 have s2:=sb.trans (aq.upd (o:= .lst (ins P)) n2)
 refine ⟨p2,rfl,⟨_,bA.of ah⟩,?_⟩
 refine iF (K:=K) (a:=p2) (xs:=ins P) (fun k σ H'=> ∃(m:Nat) (pv nv:Option V),σ=[some (.ref a),some (.ref d),some (.ref b),some (.int m),pv,nv]/\H' b=some (.lst (ins (nY (cD cs) (P.take k) (P.drop k))))/\m+E_ (cD cs) (P.take k) (P.drop k)=E_ (cD cs) [] P/\aW b (L2.upd (L2.upd H1 b (.lst [])) p2 (.lst (ins P))) H')
  ⟨0,none,none,rfl,by rw[ay (Ne.symm TJ),ah];rfl,by rw[ZC];rfl,aW.refl _ _⟩ (fun k σ H' _ ⟨_,_,_,_,_,_,h⟩=>bA.of (h _ _ ah TJ)) ?_ ?_
 ·rintro k x σ H3 hx ⟨m,pv,nv,rfl,hb,hm,s3⟩
  obtain ⟨p,hp,rfl⟩: ∃p,P[k]? =some p/\x=V.int (p:Nat):=by
   unfold ins at hx
   rw[Xd]at hx
   cases e:P[k]? with
   | none=>rw[e]at hx;cases hx
   | some p=>rw[e]at hx;cases hx;exact ⟨p,rfl,rfl⟩
  have hk:k<P.length:=(Je.mp hp).1
  have V8:p∈dF cs:=pP.mem_iff.mp (W9 hp)
  have TK:=J6 nd V8
  have TL:H3 d=some (.dK (fU cs)):=s3 _ _ (s2 _ _ hd) TH
  have TM:P=P.take k++p::P.drop (k+1):=by
   have:=XT k P
   rw[X1 hk,(Je.mp hp).2]at this
   exact this.symm
  have R0:P.drop k=p::P.drop (k+1):=by rw[X1 hk,(Je.mp hp).2]
  have OF:P.take (k+1)=P.take k++[p]:=(take_snoc hp).symm
  have bl:(nY (cD cs) (P.take k) (P.drop k)).length<=2000:=Xt GO (by rw[Xh];omega)
  have ni:=DY (st:=cD cs) hp
  refine ⟨_,rfl,_,rfl,d,_,rfl,by rw[<-TK];exact kI.k (k:=Sum.inl (p:Int)) TL,?_⟩
  walk_at "rd"
  refine bS (fun z=>?_) (fun z=>?_)
  ·have z1:cD cs p=p:=by have:=of_decide_eq_true z;omega
   refine ⟨_,rfl, .inl ⟨rfl,_,bA.of hb⟩,_,rfl,b,_,_,rfl,rfl,hb,by rw[kZ];omega,?_⟩
   refine ⟨m,_,_,rfl,?_,?_,s3.trans (aW.upd _ _ _)⟩
   ·rw[ah,DU,OF,DQ ch TM z1, <-R0]
   ·have e0:Bl (cD cs) (P.take k) (P.drop (k+1)) p=0:=by unfold Bl;rw[if_pos z1]
    omega
  ·have z1:cD cs p≠p:=fun w=>z (decide_eq_true (by rw[w]))
   obtain ⟨en,em⟩:=J1 ch TM z1
   rw[<-R0]at en em
   have up:=J5 (st:=cD cs) uP (XT k P).symm (P.drop k)
   have xl:=Uy em
   refine ⟨_,rfl,_,rfl,_,rfl,d,_,rfl,by rw[<-TK];exact kI.k (k:=Sum.inl (p:Int)) TL,b,_,cD cs p,rfl,hb,up,em,by omega,?_⟩
   refine ⟨_,rfl, .inl ⟨rfl,_,bA.of hb⟩,_,rfl,b,_,_,_,_,rfl,rfl,hb,by omega,by omega,?_,DV (Jd xl),?_⟩
   ·rw[kZ]
    exact Oq xl
   have ee:(ins (nY (cD cs) (P.take k) (P.drop k))).eraseIdx ((nY (cD cs) (P.take k) (P.drop k)).idxOf (cD cs p))=ins (nY (cD cs) (P.take (k+1)) (P.drop (k+1))):=by
    rw[OF,en, <-DX em]
    exact rP _ _
   rw[ee]
   refine ⟨_,rfl,_,rfl,b,_,rfl, .inl (bA.of ah),?_⟩
   walk_at "rd"
   have bh:=behind up em
   have lb:(nY (cD cs) (P.take (k+1)) (P.drop (k+1))).length=((nY (cD cs) (P.take k) (P.drop k)).erase (cD cs p)).length:=by rw[OF,en]
   have le:((nY (cD cs) (P.take k) (P.drop k)).erase (cD cs p)).length+1=(nY (cD cs) (P.take k) (P.drop k)).length:=by rw[List.length_erase_of_mem em];omega
   have ec:Bl (cD cs) (P.take k) (P.drop (k+1)) p=((nY (cD cs) (P.take k) (P.drop k)).filter fun x=>decide (cD cs p<x)).length:=by unfold Bl;rw[if_neg z1,R0]
   have ei:(m:Int)+(((ins (nY (cD cs) (P.take (k+1)) (P.drop (k+1)))).length:Nat) - ((nY (cD cs) (P.take k) (P.drop k)).idxOf (cD cs p):Nat))=((m+Bl (cD cs) (P.take k) (P.drop (k+1)) p:Nat):Int):=by rw[kZ];omega
   exact ⟨m+Bl (cD cs) (P.take k) (P.drop (k+1)) p,some (.int p),some (.int ((nY (cD cs) (P.take k) (P.drop k)).idxOf (cD cs p):Nat)),by rw[<-ei];rfl,ah,by omega,s3.trans (aW.upd _ _ _)⟩
 ·rintro σ H3 ⟨m,pv,nv,rfl,hb,hm,s3⟩
  rw[kZ,List.drop_length,Yb]at hm
  have E5:m=E_ (cD cs) [] P:=hm
  refine ⟨_,rfl,?_⟩
  rw[E5,Om ch]
  exact q H3 fun c o e=>s3 c o (s2 c o (s1 c o e)) (az e (aq.free s1 nb))
theorem yF:bC P w K mg base eR 9 LD Mg ["yard","one","other"] (pA K):=by
 have mL:=pZ (P:=P) (w:=w) (base:=base) T
 have yG:=Ae (P:=P) (w:=w) (base:=base) T
 have cu:=gf (P:=P) (w:=w) (base:=base) T
 refine T.Kn.fn.ok hW (fun vs H Q E h=>we h) (fun cx A outer s H vs Q E hr h=>?_)
 refine ⟨_,(ag (ao (i:=3) hW.nd rfl (Or.inl rfl) (ak mL (hr.mono (by decide)) rfl T.F8.mg T.F8.fn.kp T.F8.bd .nil aB (aa (pv 0) (aa (ak yG (hr.mono (by decide)) rfl T.Kk.mg T.Kk.fn.kp T.Kk.bd .nil aB (aa (pv 0) (aa (dq (aa (pv 1) (aa (pv 2) ae))) ae))) ae))))
   (ag (ao (i:=4) hW.nd rfl (Or.inl rfl) (bO (iM K rfl) (pv 3) dc (bK (aD aR rfl T.z_len W_ (aa (pv 1) ae)))))
   (ag (ao (i:=5) hW.nd rfl (Or.inl rfl) (bO (iM K rfl) (pv 3) (bK (aD aR rfl T.z_len W_ (aa (pv 1) ae))) dc))
   (ai (aG (aE dm (aE dm (ak cu (hr.mono (by decide)) rfl T.Bv.mg T.Bv.fn.kp T.Bv.bd .nil aB (aa (pv 3) ae)) (ak cu (hr.mono (by decide)) rfl T.Bv.mg T.Bv.fn.kp T.Bv.bd .nil aB (aa (pv 4) ae))) (ak cu (hr.mono (by decide)) rfl T.Bv.mg T.Bv.fn.kp T.Bv.bd .nil aB (aa (pv 5) ae)))))))),?_⟩
 obtain ⟨y,w',v,rfl,hy,hz,hw,lK,hv,V9,q⟩:=h
 have hs:(100000:Nat)<sizeLine:=by decide
 have hk:=zw hw hv lK V9
 refine ⟨_,rfl,_,rfl,_,rfl,_,rfl,by show 2<=sizeLine;decide,fun t nt=>?_⟩
 have st:=aq.upd (o:= .tup [.str (S w'), .str (S v)]) nt
 refine ⟨y,t,[w',v],rfl,hy,hz,ah,hk.lU,hk.sw,fun dr os H1 K9 ht s1=>?_⟩
 obtain ⟨e,n0,n1,n2⟩:=G0 hy hw hv ht
 obtain ⟨M,_,ok,_⟩:=id ht
 refine ⟨y,dr,[w',v],os,rfl,hy,hz,hk.ok,ok,K9,fun p qs H2 np hp G_ Ad s2=>?_⟩
 have hl:=rW (os:=os) hk
 have PY:qs.length<=24:=by rw[<-Ad,K4]at hl;exact hl
 have c1:lN (nq qs) none (some (w'.length:Int))=nq (qs.take w'.length):=by
  show cut (nq qs) none (some ((w'.length:Nat):Int))=_
  rw[eM]
  unfold nq
  rw[Za]
 have c2:lN (nq qs) (some (w'.length:Int)) none=nq (qs.drop w'.length):=by
  show cut (nq qs) (some ((w'.length:Nat):Int)) none=_
  rw[iQ]
  unfold nq
  rw[ZQ]
 refine ⟨_,rfl,_,rfl,w',rfl,by omega,_,rfl,p,_,rfl,bA.of hp,fun p1 V_=>?_⟩
 rw[c1]
 have s3:=aq.upd (o:= .lst (nq (qs.take w'.length))) V_
 refine ⟨_,rfl,_,rfl,w',rfl,by omega,_,rfl,p,_,rfl,bA.of (s3 _ _ hp),fun p2 Wa=>?_⟩
 rw[c2]
 have s4:=aq.upd (o:= .lst (nq (qs.drop w'.length))) Wa
 have OH:=s3.trans s4
 refine ⟨_,rfl,p,qs,rfl,OH _ _ hp,fun x hx=>(G_ x hx).ts (dY.of OH),by omega,by rw[Ad];exact n0,fun H5 s5=>?_⟩
 have nX:H5 p1=some (.lst (nq (qs.take w'.length))):=s5 _ _ (s4 _ _ ah)
 have jF:H5 p2=some (.lst (nq (qs.drop w'.length))):=s5 _ _ ah
 have MB:=OH.trans s5
 refine ⟨_,rfl,p1,qs.take w'.length,rfl,nX,fun x hx=>(G_ x (Yn hx)).ts (dY.of MB),by rw[Xh];omega,by rw[Za,Ad];exact n1,fun H6 s6=>?_⟩
 refine ⟨_,_,rfl,rfl,?_⟩
 refine ⟨_,rfl,p2,qs.drop w'.length,rfl,s6 _ _ jF,fun x hx=>(G_ x (Zb hx)).ts (dY.of (MB.trans s6)),by rw[Xn];omega,by rw[ZQ,Ad];exact n2,fun H7 s7=>?_⟩
 refine ⟨_,_,rfl,rfl,?_⟩
 rw[Za,ZQ,Ad]
 have kq:=q H7 (st.trans (s1.trans (s2.trans (MB.trans (s6.trans s7)))))
 rw[<-e]at kq
 exact kq
theorem gK:bC P w K mg base eR 1 LJ Mm ["_law_box_here","_law_many"] (vC K):=by
 refine T.gu.fn.ok pX (fun vs H Q E h=>AY h) (fun cx A outer s H vs Q E hr h=>?_)
 refine ⟨_,(ag (bV (aI om (aV (bX K rfl) (pv 0) aj (fun _ _=>rfl)) aj (aT _)) (ag (ao (i:=2) pX.nd rfl (Or.inl rfl) (aE eI (aV (bX K rfl) (pv 0) aj (fun _ _=>rfl)) (pv 1)))
   (ag (BZ (aE dZ (aV (bX K rfl) (pv 0) aj (fun _ _=>rfl)) (pv 1)) (BY (pv 0) aj set_list))
   (ai (aG (pv 2))))) bu)
   (ag (ao (i:=3) pX.nd rfl (Or.inl rfl) (aE eI (aE j4 (aV (bX K rfl) (pv 0) aj (fun _ _=>rfl)) aj) aj))
   (ag (BZ (aE bj (aE eI (aE bj (aE j4 (pv 3) aj) aj) aj) aj) (BY (pv 0) aj set_list))
   (ai (aG (aE eI (aE dZ (aE bj (aE j4 (pv 3) aj) (aV (bX K rfl) (pv 0) aj (fun _ _=>rfl))) aj) (pv 1))))))),?_⟩
 obtain ⟨b,m,rfl,⟨x,y,hb⟩,h1,h2,q⟩:=h
 have fin: ∀(r x' y':Int),0<=r->r<m->Q (.int r) (upd H b (.lst [.int x', .int y'])):=fun r x' y' h3 h4=>by
  have e:r=((r.toNat:Nat):Int):=by omega
  rw[e]
  exact q r.toNat _ (by omega) ⟨x',y',ah⟩ (aW.upd b H _)
 refine ⟨_,rfl,b,_,0,_,rfl,rfl,bA.of hb,rfl,_,_,rfl,rfl,_,rfl,bS (fun e=>?_) (fun e=>?_)⟩
 ·refine ⟨_,rfl,b,_,0,_,rfl,rfl,bA.of hb,rfl,_,rfl,_,_,rfl,rfl,(by omega:0<m),?_⟩
  refine ⟨_,rfl,b,_,0,_,rfl,rfl,bA.of hb,rfl,_,rfl,_,_,rfl,rfl,⟨by omega,by omega⟩,_,rfl,b,_,0,0,rfl,rfl,hb,rfl,_,rfl,?_⟩
  exact fin (x%m) (x / m) y (X2 _ (by omega)) (XS _ (by omega))
 ·refine ⟨_,rfl,b,_,1,_,rfl,rfl,bA.of hb,rfl,_,_,rfl,rfl, .inr ⟨by decide,by decide⟩,_,_,rfl,rfl,(by decide:(0:Int)<2147483647),?_⟩
  refine ⟨_,rfl,_,_,rfl,rfl, .inr ⟨by decide,by decide⟩,_,_,rfl,rfl,_,_,rfl,rfl,(by decide:(0:Int)<2147483629),_,_,rfl,rfl,_,rfl,b,_,1,1,rfl,rfl,hb,rfl,?_⟩
  refine ⟨_,rfl,_,_,rfl,rfl, .inr ⟨by decide,by decide⟩,_,rfl,b,_,1,_,rfl,rfl,bA.of ah,rfl,_,_,rfl,rfl,_,_,rfl,rfl,⟨by decide,by decide⟩,_,rfl,_,_,rfl,rfl,(by omega:0<m),?_⟩
  exact fin _ _ _ (X2 _ (by omega)) (XS _ (by omega))
theorem BE:bC P w K mg base eR 2 LO Mr ["_law_box_here","_law_things"] (rX K):=by
 have bU:=gK (P:=P) (w:=w) (base:=base) T
 refine T.PN.fn.ok mI (fun vs H Q E h=>yr h) (fun cx A outer s H vs Q E hr h=>?_)
 refine ⟨_,(ag (ao (i:=2) mI.nd rfl (Or.inl rfl) (cI (gg K rfl) rfl T.z_list boot_list (aa (pv 1) ae)))
   (ag (ao (i:=3) mI.nd rfl (Or.inl rfl) (dS ae))
   (ag (cJ PassesOwn.never (aI om (aD (a_ K rfl) rfl T.z_len W_ (aa (pv 2) ae)) aj (aT _)) (ai (da (bL K rfl Xs XR XQ de (pv 3) (aa (bL K rfl Xs YF YE kz (pv 2) (aa (ak bU (hr.mono (by decide)) rfl T.gu.mg T.gu.fn.kp T.gu.bd .nil aB (aa (pv 0) (aa (aD (a_ K rfl) rfl T.z_len W_ (aa (pv 2) ae)) ae))) ae)) ae)))))
   (ai (aG (pv 3)))))),?_⟩
 obtain ⟨b,p,l,rfl,hb,hp,hz,q⟩:=h
 have hs:(100000:Nat)<sizeLine:=by decide
 refine ⟨_,rfl,p,_,rfl, .inl hp,fun p1 n1=>?_⟩
 walk_at "wk"
 intro p2 n2
 have s1:aq H (upd (upd H p1 (.lst (cg l))) p2 (.lst [])):=(aq.upd n1).trans (aq.upd n2)
 have KC:p1≠b:=hb.ne n1
 have Kx:H p2=none:=aq.free (aq.upd n1) n2
 have OI:p2≠b:=hb.ne Kx
 have MD:p1≠p2:=fun z=>by rw[<-z,ah]at n2;cases n2
 refine ⟨fun m σ H'=> ∃F E':List Nat,σ=[some (.ref b),some (.ref p),some (.ref p1),some (.ref p2)]/\m=E'.length/\(F++E').Perm l/\H' p1=some (.lst (cg E'))/\H' p2=some (.lst (cg F))/\cf H' b/\aW b H H',⟨_,[],l,rfl,rfl,List.Perm.refl _,by rw[ay MD,ah],ah,hb.same s1,aW.of s1⟩,?_⟩
 rintro m σ H3 ⟨F,E',rfl,rfl,lJ,nX,jF,qG,s4⟩
 have hlen:=lJ.length_eq
 rw[SD]at hlen
 walk_at "wk"
 refine ⟨p1,_,rfl, .inl (bA.of nX),_,_,rfl,rfl,_,rfl,bS (fun e=>?_) (fun e=>?_)⟩
 ·have e':(0:Int)<((cg E').length:Nat):=of_decide_eq_true e
  rw[aN]at e'
  refine ⟨_,rfl, .inl ⟨rfl,_,bA.of jF⟩,_,rfl, .inl ⟨rfl,_,bA.of nX⟩,?_⟩
  walk_at "wk"
  refine ⟨p1,_,rfl, .inl (bA.of nX),b,_,rfl,qG,by rw[aN];omega,by rw[aN];omega,fun r H4 Ih Ag s5=>?_⟩
  rw[aN]at Ih
  have KD:r<E'.length:=by omega
  refine ⟨p1,_,_,r,_,rfl,rfl,s5 _ _ nX KC,by omega,by omega,by rw[aN,seqIndex_of (by omega) (by omega),UA],xF KD,?_⟩
  rw[lV]
  have lD:=gU (Jd KD)
  have jI:=lD.length_eq
  rw[XB]at jI
  refine ⟨p2,_,_,rfl,rfl,by rw[ay (Ne.symm MD)];exact s5 _ _ jF OI,by rw[aN];omega,?_⟩
  rw[cW]
  refine ⟨(E'.eraseIdx r).length,by omega,F++[E'[r]],E'.eraseIdx r,rfl,rfl,?_,by rw[ay MD,ah],ah,(Ag.eh KC).eh OI,((s4.trans s5).eh n1).eh Kx⟩
  rw[Xx]
  exact (List.Perm.append_left F lD).trans lJ
 ·have e':E'=[]:=by
   cases E' with
   | nil=>rfl
   | cons c r=>exact absurd (decide_eq_true (by rw[aN];show (0:Int)<((r.length+1:Nat):Int);omega)) e
  subst e'
  rw[Xy]at lJ
  exact ⟨_,rfl,q p2 F H3 Kx OI jF lJ qG s4⟩
theorem Hc:bC P w K mg base eR 1 LI Ml ["_law_script","_law_k"] (zc K):=by
 refine T.PK.fn.ok lC (fun vs H Q E h=>CN h) (fun cx A outer s H vs Q E hr h=>?_)
 refine ⟨_,(ag (ao (i:=2) lC.nd rfl (Or.inl rfl) (aE bj (aE j4 aj (pv 1)) aj))
   (ag (bV (aI oj (pv 1) (aD (a_ K rfl) rfl T.z_len W_ (aa (pv 0) ae)) (aT _)) (ai (ao (i:=2) lC.nd rfl (Or.inl rfl) (aV (bX K rfl) (pv 0) (pv 1) (fun _ _=>rfl)))) (ai (bV (aI om (aD (a_ K rfl) rfl T.z_len W_ (aa (pv 0) ae)) aj (aT _)) (ai (ao (i:=2) lC.nd rfl (Or.inl rfl) (aE bj (pv 2) (aE j4 (aE eI (aV (bX K rfl) (pv 0) (aE eI (pv 1) (aD (a_ K rfl) rfl T.z_len W_ (aa (pv 0) ae))) (fun _ _=>rfl)) aj) aj)))) bu)))
   (ag (ao (i:=3) lC.nd rfl (Or.inl rfl) (aE eI (aE B4 (aE bj (aE bj (aE eI (pv 2) aj) (aE j4 aj (pv 1))) aj) aj) aj))
   (ai (aG (dS (aa (aV (bX K rfl) (dS (aa aj (aa (pv 2) ae))) (cI Au rfl T.z_int boot_int (aa (jj B6 (pv 2) (aE B4 aj aj) (aT _)) ae)) (fun _ _=>rfl)) (aa (aE bj (aE eI (pv 3) aj) aj) ae)))))))),?_⟩
 obtain ⟨a,ns,k,rfl,hS,hk,q⟩:=h
 have hp:(0:Int)<2147483629:=by decide
 walk_at "rd"
 refine ⟨a,_,rfl, .inl hS,?_⟩
 walk_at "rd"
 refine bS (fun e=>?_) (fun e=>?_)
 ·have e':(k:Int)<((ns.map V.int).length:Nat):=of_decide_eq_true e
  rw[K4]at e'
  obtain ⟨z,hz⟩:=zf (ns:=ns) (i:=k) (by omega)
  walk_at "rd"
  refine ⟨a,_,k,_,rfl,rfl,hS,bY hz,?_⟩
  walk_at "rd"
  refine fun p1 n1=>?_
  walk_at "rd"
  refine .inr ⟨_,rfl,?_⟩
  obtain ⟨y,hy⟩:=xE _ z
  refine ⟨p1,_,_,_,rfl,rfl,bA.of ah,hy,?_⟩
  walk_at "rd"
  exact fun p2 n2=>q p2 _ (aq.free (aq.upd n1) n2) ⟨_,_,ah⟩ ((aq.upd n1).trans (aq.upd n2))
 ·walk_at "rd"
  refine ⟨a,_,rfl, .inl hS,?_⟩
  walk_at "rd"
  refine bS (fun e2=>?_) (fun e2=>?_)
  ·have e':(0:Int)<((ns.map V.int).length:Nat):=of_decide_eq_true e2
   have hl:(0:Int)<(ns.length:Int):=by rw[K4]at e';exact e'
   have m1:0<=(k:Int)%(ns.length:Int):=X2 _ (by omega)
   have m2:(k:Int)%(ns.length:Int)<(ns.length:Int):=XS _ hl
   obtain ⟨z,hz⟩:=zf (ns:=ns) (i:=((k:Int)%(ns.length:Int)).toNat) (by omega)
   have Li:m6 (ns.map V.int) ((k:Int)%((ns.map V.int).length:Nat))=some (V.int z):=by
    have:=bY hz
    rw[Int.toNat_of_nonneg m1]at this
    rw[K4]
    exact this
   walk_at "rd"
   refine ⟨a,_,rfl, .inl hS,?_⟩
   walk_at "rd"
   refine ⟨a,_,_,_,rfl,rfl,hS,Li,?_⟩
   walk_at "rd"
   refine fun p1 n1=>?_
   walk_at "rd"
   refine .inr ⟨_,rfl,?_⟩
   obtain ⟨y,hy⟩:=xE _ _
   refine ⟨p1,_,_,_,rfl,rfl,bA.of ah,hy,?_⟩
   walk_at "rd"
   exact fun p2 n2=>q p2 _ (aq.free (aq.upd n1) n2) ⟨_,_,ah⟩ ((aq.upd n1).trans (aq.upd n2))
  ·walk_at "rd"
   refine fun p1 n1=>?_
   walk_at "rd"
   refine .inr ⟨_,rfl,?_⟩
   obtain ⟨y,hy⟩:=xE _ _
   refine ⟨p1,_,_,_,rfl,rfl,bA.of ah,hy,?_⟩
   walk_at "rd"
   exact fun p2 n2=>q p2 _ (aq.free (aq.upd n1) n2) ⟨_,_,ah⟩ ((aq.upd n1).trans (aq.upd n2))
theorem mM:bC P w K mg base eR 1 LK Mn ["_law_letter"] (q_ K):=by
 refine T.uq.fn.ok mH (fun vs H Q E h=>xC h) (fun cx A outer s H vs Q E hr h=>?_)
 refine ⟨_,(ag (ao (i:=1) mH.nd rfl (Or.inl rfl) (iJ [97,98,99,100,101,102,103,104,105,106,107,108,109,110,111,112,113,114,115,116,117,118,119,120,121,122] (by decide+kernel)))
   (ag (ao (i:=2) mH.nd rfl (Or.inl rfl) (iJ [65,66,67,68,69,70,71,72,73,74,75,76,77,78,79,80,81,82,83,84,85,86,87,88,89,90] (by decide+kernel)))
   (ag (bV (aI sP (pv 0) (pv 1) (by with_unfolding_all rfl)) (ai (aG (aV gQ (pv 2) (bL K rfl Xc Y0 YY jk (pv 1) (aa (pv 0) ae)) (fun _ _=>rfl)))) bu)
   (ai (aG (aV gQ (pv 1) (bL K rfl Xc Y0 YY jk (pv 2) (aa (pv 0) ae)) (fun _ _=>rfl))))))),?_⟩
 obtain ⟨c,rfl,hc,q⟩:=h
 refine ⟨_,rfl,_,rfl,c,aP,rfl,rfl,_,rfl,bS (fun e=>?_) (fun e=>?_)⟩
 ·have hm:c∈aP:=of_decide_eq_true e
  exact ⟨_,rfl,_,rfl,rfl,_,rfl,aP,c,rfl,rfl,hm,j8,_,aC c,rfl,rfl,by decide,vB c hm,q⟩
 ·have hm:c∈j8:=hc.resolve_left fun z=>e (decide_eq_true z)
  exact ⟨_,rfl,_,rfl,rfl,_,rfl,j8,c,rfl,rfl,hm,aP,_,aC c,rfl,rfl,by decide,AX c hm,q⟩
theorem EG:bC P w K mg base eR 2 LL Mo ["_law_box_here","_law_few","_law_top"] (vD K):=by
 have bU:=gK (P:=P) (w:=w) (base:=base) T
 have fg:=mM (P:=P) (w:=w) (base:=base) T
 refine T.PL.fn.ok ff (fun vs H Q E h=>AZ h) (fun cx A outer s H vs Q E hr h=>?_)
 refine ⟨_,(ag (ao (i:=3) ff.nd rfl (Or.inl rfl) (cI (oB rfl) rfl T.z_list boot_list (aa (iJ [97,98,99,100,101,102,103,104,105,106,107,108,109,110,111,112,113,114,115,116,117,118,119,120,121,122] (by decide+kernel)) ae)))
   (ag (ao (i:=4) ff.nd rfl (Or.inl rfl) (dS ae))
   (ag (ck PassesOwn.never rfl (gx rfl T.z_range (aa (aE bj (pv 1) (ak bU (hr.mono (by decide)) rfl T.gu.mg T.gu.fn.kp T.gu.bd .nil aB (aa (pv 0) (aa (aE bj (aE dm (pv 2) (pv 1)) aj) ae)))) ae)) (aQ (i:=5) ff.nd rfl (Or.inl rfl)) (ag (ao (i:=6) ff.nd rfl (Or.inl rfl) (bL K rfl Xs YF YE kz (pv 3) (aa (ak bU (hr.mono (by decide)) rfl T.gu.mg T.gu.fn.kp T.gu.bd .nil aB (aa (pv 0) (aa (aD (a_ K rfl) rfl T.z_len W_ (aa (pv 3) ae)) ae))) ae)))
   (ai (ao (i:=4) ff.nd rfl (Or.inl rfl) (aE Cg (pv 4) (dS (aa (pv 6) (aa (ak fg (hr.mono (by decide)) rfl T.uq.mg T.uq.fn.kp T.uq.bd .nil aB (aa (pv 6) ae)) ae))))))))
   (ag (ao (i:=7) ff.nd rfl (Or.inl rfl) (iJ [] (by decide+kernel)))
   (ag (cJ PassesOwn.never (aI om (aD (a_ K rfl) rfl T.z_len W_ (aa (pv 4) ae)) aj (aT _)) (ai (ao (i:=7) ff.nd rfl (Or.inl rfl) (aE gP (pv 7) (bL K rfl Xs YF YE kz (pv 4) (aa (ak bU (hr.mono (by decide)) rfl T.gu.mg T.gu.fn.kp T.gu.bd .nil aB (aa (pv 0) (aa (aD (a_ K rfl) rfl T.z_len W_ (aa (pv 4) ae)) ae))) ae))))))
   (ai (aG (pv 7)))))))),?_⟩
 obtain ⟨b,lU,top,rfl,hb,h1,h2,h3,q⟩:=h
 have hs:(100000:Nat)<sizeLine:=by decide
 walk_at "rd"
 intro p1 n1
 walk_at "rd"
 intro p2 n2
 have s1:aq H (upd (upd H p1 (.lst (cg aP))) p2 (.lst [])):=(aq.upd n1).trans (aq.upd n2)
 have KC:p1≠b:=hb.ne n1
 have Kx:H p2=none:=aq.free (aq.upd n1) n2
 have OI:p2≠b:=hb.ne Kx
 have MD:p1≠p2:=fun z=>by rw[<-z,ah]at n2;cases n2
 walk_at "rd"
 refine ⟨b,_,rfl,hb.same s1,by omega,by omega,fun n H1 hn vy s2=>?_⟩
 walk_at "rd"
 refine fB (fun i σ H'=> ∃(pe:Addr) (L E:List Nat) (kv lv:Option V),σ=[some (.ref b),some (.int lU),some (.int top),some (.ref p1),some (.ref pe),kv,lv,none]/\Jy i L E/\H' p1=some (.lst (cg L))/\H' pe=some (.lst (cg E))/\p1≠pe/\H pe=none/\cf H' b/\aW b H H')
  ⟨p2,aP,[],none,none,rfl,Jy.start,s2 _ _ (by rw[ay MD,ah];rfl) KC,s2 _ _ ah OI,MD,Kx,vy,(aW.of s1).trans s2⟩ ?_ ?_
 ·rintro i σ H2 hi ⟨pe,L,E,kv,lv,rfl,yw,nX,lD,TN,P8,j7,s3⟩
  have Oi:i<26:=by simp at hi;omega
  have RI:=yw.ll
  have K_:=yw.el
  refine ⟨_,rfl, .inl ⟨rfl,_,bA.of nX⟩,?_⟩
  walk_at "rd"
  refine ⟨p1,_,rfl, .inl (bA.of nX),b,_,rfl,j7,by rw[aN];omega,by rw[aN];omega,fun r H3 TQ qG s4=>?_⟩
  rw[aN]at TQ
  have Ih:r<L.length:=by omega
  have R1:=s4 _ _ nX KC
  have R3:=s4 _ _ lD (hb.ne P8)
  refine ⟨p1,_,_,r,_,rfl,rfl,R1,by omega,by omega,by rw[aN,seqIndex_of (by omega) (by omega),UA],xF Ih,?_⟩
  rw[lV]
  have dz:Lt L[r]:= .inl (yw.sm _ (Xp Ih))
  have OJ:(upd H3 p1 (.lst (cg (L.eraseIdx r)))) pe=some (.lst (cg E)):=by rw[ay (Ne.symm TN)];exact R3
  walk_at "rd"
  intro p3 n3
  have e3:pe≠p3:=az OJ n3
  refine ⟨pe,p3,_,_,rfl,rfl,by rw[ay e3];exact OJ,ah,by rw[aN];show E.length+2<=_;omega,fun p4 n4=>?_⟩
  have TR:H p3=none:=((s3.trans s4).eh n1).none n3 (qG.eh KC |>.ne n3)
  have TU:=(qG.eh (o:= .lst (cg (L.eraseIdx r))) KC).eh (o:= .lst [V.str (S [L[r]]),V.str (S [aC L[r]])]) (hb.ne TR)
  have TV:=((s3.trans s4).eh (o:= .lst (cg (L.eraseIdx r))) n1).eh (o:= .lst [V.str (S [L[r]]),V.str (S [aC L[r]])]) TR
  have R4:H p4=none:=TV.none n4 (TU.ne n4)
  have TX:p1≠p4:=fun z=>by rw[<-z]at n4;by_cases z3:p1=p3<;>simp[upd,z3]at n4
  have Wb:p1≠p3:=fun z=>by rw[<-z,ah]at n3;cases n3
  refine ⟨p4,L.eraseIdx r,E++[L[r],aC L[r]],_,_,rfl,yw.turn Oi Ih,by rw[ay TX,ay Wb,ah],?_,TX,R4,TU.eh (hb.ne R4),TV.eh R4⟩
  rw[ah, <-Gh]
  rfl
 ·rintro σ H2 ⟨pe,L,E,kv,lv,rfl,yw,nX,lD,TN,P8,j7,s3⟩
  have K_:=yw.el
  have EX:=hb.ne P8
  walk_at "rd"
  refine ⟨fun m σ H'=> ∃F E':List Nat,σ=[some (.ref b),some (.int lU),some (.int top),some (.ref p1),some (.ref pe),kv,lv,some (.str (S F))]/\m=E'.length/\(F++E').Perm E/\H' pe=some (.lst (cg E'))/\cf H' b/\aW b H H',⟨_,[],E,rfl,rfl,List.Perm.refl _,lD,j7,s3⟩,?_⟩
  rintro m σ H3 ⟨F,E',rfl,rfl,lJ,Hd,qG,s4⟩
  have hlen:=lJ.length_eq
  rw[SD]at hlen
  have w4:(lU:Int)+n<=9:=by omega
  have Wc:E.length<=100:=by rw[K_];omega
  walk_at "rd"
  refine ⟨pe,_,rfl, .inl (bA.of Hd),_,_,rfl,rfl,_,rfl,bS (fun e=>?_) (fun e=>?_)⟩
  ·have e':(0:Int)<((cg E').length:Nat):=of_decide_eq_true e
   rw[aN]at e'
   refine ⟨_,rfl,_,rfl, .inl ⟨rfl,_,bA.of Hd⟩,?_⟩
   walk_at "rd"
   refine ⟨pe,_,rfl, .inl (bA.of Hd),b,_,rfl,qG,by rw[aN];omega,by rw[aN];omega,fun r H4 Ih Ag s5=>?_⟩
   rw[aN]at Ih
   have KD:r<E'.length:=by omega
   refine ⟨pe,_,_,r,_,rfl,rfl,s5 _ _ Hd EX,by omega,by omega,by rw[aN,seqIndex_of (by omega) (by omega),UA],xF KD,?_⟩
   rw[lV]
   have hp:=gU (Jd KD)
   have jI:=hp.length_eq
   rw[XB]at jI
   refine ⟨F,_,rfl,rfl,by show F.length+1<=_;omega,(E'.eraseIdx r).length,by omega,F++[E'[r]],E'.eraseIdx r,rfl,rfl,?_,ah,Ag.eh EX,(s4.trans s5).eh P8⟩
   rw[Xx]
   exact (List.Perm.append_left F hp).trans lJ
  ·have e':E'=[]:=by
    cases E' with
    | nil=>rfl
    | cons c r=>exact absurd (decide_eq_true (by rw[aN];show (0:Int)<((r.length+1:Nat):Int);omega)) e
   subst e'
   rw[Xy]at lJ
   have AD:=lJ.length_eq
   refine ⟨_,rfl,q F H3 (yw.yd.perm lJ.symm) ?_ ?_ qG s4⟩
   ·rw[AD,K_];omega
   ·rw[AD,K_];omega
theorem wC:bC P w K mg base eR 1 LF Mh ["yard","end"] (mZ K):=by
 refine T.PH.fn.ok wo (fun vs H Q E h=>t9 h) (fun cx A outer s H vs Q E hr h=>?_)
 refine ⟨_,(ai (aG (aV gQ (pv 0) (aE eI (aE bj (bL K rfl Xc Y0 YY jk (pv 0) (aa (pv 1) ae)) aj) (aD aR rfl T.z_len W_ (aa (pv 0) ae))) (fun _ _=>rfl)))),?_⟩
 obtain ⟨y,e,rfl,he,hz,q⟩:=h
 have hs:(1000:Nat)<sizeLine:=by decide
 have hp:(0:Int)<(y.length:Int):=by have:=ZE he;omega
 obtain ⟨hk,e2⟩:=mj he
 have TY:m6 y ((((y.idxOf e:Nat):Int)+1)%(y.length:Int))=some (qf y e):=by
  have:((((y.idxOf e:Nat):Int)+1)%(y.length:Int))=(((y.idxOf e+1)%y.length:Nat):Int):=by push_cast;rfl
  rw[this,e2]
  exact bY (Jd hk)
 exact ⟨_,rfl,_,rfl,rfl,_,rfl,y,e,rfl,rfl,he,_,_,rfl,rfl,_,rfl,y,rfl,by omega,_,_,rfl,rfl,hp,y,_,_,rfl,rfl,by omega,TY,q⟩
theorem qH:bC P w K mg base eR 2 LG Mi ["yard","start"] (jO K):=by
 have yH:=wC (P:=P) (w:=w) (base:=base) T
 have bM:=c_ (P:=P) (w:=w) (base:=base) T
 refine T.PJ.fn.ok cM (fun vs H Q E h=>o5 h) (fun cx A outer s H vs Q E hr h=>?_)
 refine ⟨_,(ag (ao (i:=2) cM.nd rfl (Or.inl rfl) (iJ [] (by decide+kernel)))
   (ag (ao (i:=3) cM.nd rfl (Or.inl rfl) (pv 1))
   (ag (cJ PassesOwn.never (PW.pt (BW (aI gS (pv 2) (iJ [] (by decide+kernel)) (aT _)) (wU (aI Cz (pv 3) (pv 1) (aT _))))) (ag (ao (i:=4) cM.nd rfl (Or.inl rfl) (ak yH (hr.mono (by decide)) rfl T.PH.mg T.PH.fn.kp T.PH.bd .nil aB (aa (pv 0) (aa (pv 3) ae))))
   (ag (iD (i:=2) cM.nd rfl (Or.inl rfl) (pv 4) FP)
   (ai (ao (i:=3) cM.nd rfl (Or.inl rfl) (ak bM (hr.mono (by decide)) rfl T.F0.mg T.F0.fn.kp T.F0.bd .nil aB (aa (pv 4) ae)))))))
   (ai (aG (pv 2)))))),?_⟩
 obtain ⟨y,e,rfl,hy,he,hz,q⟩:=h
 have hs:(1000:Nat)<sizeLine:=by decide
 walk_at "wk"
 refine ⟨fun m σ H'=>H'=H/\ ∃(w:List Nat) (pl:Nat) (pv:Option V),σ=[some (.str (S y)),some (.str (S [e])),some (.str (S w)),some (.str (S [pl])),pv]/\m=y.length - w.length/\t_ y e w pl,⟨_,rfl,[],e,none,rfl,rfl,t_.start he⟩,?_⟩
 rintro m σ H1 ⟨rfl,w,pl,pv,rfl,rfl,r⟩
 refine ⟨_,rfl,w,[],rfl,rfl,_,rfl,bS (fun z=>?_) (fun z=>?_)⟩
 ·have OK:w=[]:=of_decide_eq_true z
  refine Jf ?_
  have rt:=r.turn hy he (.inl OK)
  have dz:=rt.way.len
  rw[SD]at dz
  have Fe:w.length+1<=y.length:=dz
  have h8:qf y pl<128:=(hy.lt _ (nU r.Lg)).lt
  have lK:w.length+[qf y pl].length<=sizeLine:=by show w.length+1<=_;omega
  refine ⟨_,rfl,_,rfl,y,pl,rfl,r.Lg,by omega,?_⟩
  walk_at "wk"
  refine ⟨y.length - (w++[qf y pl]).length,by rw[SD];show y.length - (w.length+1)<_;omega,rfl,_,_,_,rfl,rfl,rt⟩
 ·have OK:w≠[]:=fun q=>z (decide_eq_true q)
  refine ⟨_,rfl,_,rfl,[pl],[e],rfl,rfl,_,rfl,bS (fun z2=>?_) (fun z2=>?_)⟩
  ·have lD:pl≠e:=fun q=>by rw[q]at z2;simp at z2
   have rt:=r.turn hy he (.inr lD)
   have dz:=rt.way.len
   rw[SD]at dz
   have Fe:w.length+1<=y.length:=dz
   have h8:qf y pl<128:=(hy.lt _ (nU r.Lg)).lt
   have lK:w.length+[qf y pl].length<=sizeLine:=by show w.length+1<=_;omega
   refine ⟨_,rfl,_,rfl,y,pl,rfl,r.Lg,by omega,?_⟩
   walk_at "wk"
   refine ⟨y.length - (w++[qf y pl]).length,by rw[SD];show y.length - (w.length+1)<_;omega,rfl,_,_,_,rfl,rfl,rt⟩
  ·have lD:pl=e:=by simpa using z2
   subst lD
   obtain ⟨o1,o2⟩:=r.stop hy OK
   exact ⟨_,rfl,q w o1 r.way.bo o2⟩
theorem He:bC P w K mg base eR 5 LH Mj ["yard"] (zO K):=by
 have uG:=qH (P:=P) (w:=w) (base:=base) T
 have bM:=c_ (P:=P) (w:=w) (base:=base) T
 have mJ:=uw (P:=P) (w:=w) (base:=base) T
 refine T.Ko.fn.ok jB (fun vs H Q E h=>Dz h) (fun cx A outer s H vs Q E hr h=>?_)
 refine ⟨_,(ag (ao (i:=1) jB.nd rfl (Or.inl rfl) vv)
   (ag (ao (i:=2) jB.nd rfl (Or.inl rfl) (dS ae))
   (ag (ck PassesOwn.never rfl (gR (pv 0)) (aQ (i:=3) jB.nd rfl (Or.inl rfl)) (ai (bV (IA (AR (kA hr) (pv 3) (pv 1)) (by with_unfolding_all rfl)) (ag (ao (i:=4) jB.nd rfl (Or.inl rfl) (ak uG (hr.mono (by decide)) rfl T.PJ.mg T.PJ.fn.kp T.PJ.bd .nil aB (aa (pv 0) (aa (pv 3) ae))))
   (ag (ck PassesOwn.never rfl (gR (pv 4)) (aQ (i:=5) jB.nd rfl (Or.inl rfl)) (ai (nM (kA hr) (pv 1) (ak bM (hr.mono (by decide)) rfl T.F0.mg T.F0.fn.kp T.F0.bd .nil aB (aa (pv 5) ae)) mN rfl)))
   (ai (da (bL K rfl Xs XR XQ de (pv 2) (aa (ak mJ (hr.mono (by decide)) rfl T.Bw.mg T.Bw.fn.kp T.Bw.bd .nil aB (aa (pv 4) ae)) ae)))))) bu)))
   (ai (aG (aD (gT K rfl) rfl T.z_sorted boot_sorted (aa (pv 2) ae))))))),?_⟩
 obtain ⟨y,rfl,hy,h2,h8,q⟩:=h
 have hs:(100000:Nat)<sizeLine:=by decide
 walk_at "wk"
 intro d nd
 walk_at "wk"
 intro p np
 have MC:H d=none:=nd
 have R5:d≠p:=fun z=>by rw[<-z,ah]at np;cases np
 have P9:H p=none:=aq.free (aq.upd nd) np
 refine ⟨_,rfl,y,rfl,?_⟩
 refine nJ (xs:=cg y) (fun i σ H'=> ∃(ws:List (List Nat)) (aL:List (Key×V)) (ev wv lv:Option V),σ=[some (.str (S y)),some (.ref d),some (.ref p),ev,wv,lv]/\H' d=some (.dK aL)/\H' p=some (.lst (dI (ws.map bP)))/\h_ y i ws/\aL.length<=8*i/\(∀e∈y,((cU aL (tk e)).isSome=true↔ ∃w∈ws,aC e∈w))/\aq H H')
  ⟨[],[],none,none,none,rfl,by rw[ay R5,ah],ah,h_.start y,SA _,fun e _=>⟨fun z=>absurd z (by simp[cU]),fun ⟨_,z,_⟩=>absurd z Xg⟩,(aq.upd nd).trans (aq.upd np)⟩ ?_ ?_
 ·rintro i x σ H1 hx ⟨ws,aL,ev,wv,lv,rfl,hd,hp,KG,RE,wZ,s1⟩
  obtain ⟨e,he,rfl⟩:=dU hx
  have hi:i<y.length:=(Je.mp he).1
  have zR:=W9 he
  refine ⟨_,rfl,_,rfl,d,_,rfl,kI.k (k:=tk e) hd,?_⟩
  walk_at "wk"
  refine bS (fun z=>?_) (fun z=>?_)
  ·have Mx: ¬ ∃w∈ws,aC e∈w:=fun q=>by
    rw[(wZ e zR).mpr q]at z;cases z
   refine ⟨_,rfl,_,rfl,y,e,rfl,hy,zR,by omega,fun w ho Ha We=>?_⟩
   have lK:w.length<=8:=Xt (ho.nd.length_le_of_subset fun c hc=>Ha c hc) h8
   refine ⟨_,rfl,w,rfl,?_⟩
   refine nJ (xs:=cg w) (fun j σ H'=> ∃(BF:List (Key×V)) (lv:Option V),σ=[some (.str (S y)),some (.ref d),some (.ref p),some (.str (S [e])),some (.str (S w)),lv]/\H' d=some (.dK BF)/\H' p=some (.lst (dI (ws.map bP)))/\BF.length<=8*i+j/\(∀f∈y,((cU BF (tk f)).isSome=true↔(∃w∈ws,aC f∈w)\/ ∃c∈w.take j,f=aC c))/\aq H H')
    ⟨aL,lv,rfl,hd,hp,by omega,fun f hf=>by rw[wZ f hf];simp,s1⟩ ?_ ?_
   ·rintro j x σ H2 FT ⟨BF,RH,rfl,hd2,jF,OL,EH,s2⟩
    obtain ⟨c,hc,rfl⟩:=dU FT
    have hj:j<w.length:=(Je.mp hc).1
    have wJ:=Ha c (W9 hc)
    refine ⟨_,rfl,_,rfl,c,rfl,(hy.lt c wJ).lt,d,_,rfl,qq.k (k:=tk (aC c)) hd2 (by omega),?_⟩
    refine ⟨_,_,rfl,ah,by rw[ay (Ne.symm R5)];exact jF,Xt (eV _ _ _) (by omega),fun f hf=>?_,fun a o ea=>by rw[ay (az ea MC)];exact s2 a o ea⟩
    rw[vn, <-take_snoc hc]
    by_cases q:f=aC c
    ·rw[if_pos (by rw[q])]
     simp[q]
    ·rw[if_neg (fun q2=>q (JV q2)),EH f hf]
     simp[q]
   ·rintro σ H2 ⟨BF,RH,rfl,hd2,jF,OL,EH,s2⟩
    rw[aN]at OL
    have uJ: ∀c∈w,Lt c:=fun c hc=>hy.lt c (Ha c hc)
    have Cc:=KG.lU
    refine ⟨_,rfl, .inl ⟨rfl,_,bA.of jF⟩,_,rfl,w,rfl,uJ,by omega,fun H3 s3=>?_⟩
    refine ⟨p,_,_,rfl,rfl,s3 _ _ jF,by rw[bD,K4];omega,?_⟩
    rw[kL]
    refine ⟨ws++[w],BF,_,_,_,rfl,by rw[ay R5];exact s3 _ _ hd2,by rw[ah,WI];rfl,KG.turn hy he Mx ho Ha We,by omega,fun f hf=>?_,fun a o ea=>by rw[ay (az ea P9)];exact s3 _ _ (s2 a o ea)⟩
    rw[EH f hf,iP]
    constructor
    ·rintro (⟨u,hu,z2⟩ | ⟨c,hc,z2⟩)
     ·exact ⟨u,X0 _ hu,z2⟩
     ·exact ⟨w,by simp,by rw[z2,aH (uJ c hc)];exact hc⟩
    ·rintro ⟨u,hu,z2⟩
     rcases WJ.mp hu with g | g
     ·exact .inl ⟨u,g,z2⟩
     ·rw[O8.mp g]at z2
      exact .inr ⟨aC f,z2,(aH (hy.lt f hf)).symm⟩
  ·have R6: ∃w∈ws,aC e∈w:=(wZ e zR).mp (by
    cases hq:(cU aL (tk e)).isSome
    ·exact absurd (by rw[hq];rfl) z
    ·rfl)
   exact ⟨ws,aL,_,_,_,rfl,hd,hp,KG.skip he R6,by omega,wZ,s1⟩
 ·rintro σ H1 ⟨ws,aL,ev,wv,lv,rfl,hd,hp,KG,RE,wZ,s1⟩
  rw[aN]at KG
  have Cc:=KG.lU
  refine ⟨_,rfl,p,ws.map bP,rfl,bA.of hp,by rw[K4];omega,fun p2 L n2 lJ G8=>?_⟩
  exact q p2 L _ ⟨ws,KG.done hy,lJ,G8⟩ (aq.free s1 n2) ah (s1.trans (aq.upd n2))
theorem wD:bC P w K mg base eR 9 LB Me ["yard","words"] (wd K):=by
 have cu:=gf (P:=P) (w:=w) (base:=base) T
 have mL:=pZ (P:=P) (w:=w) (base:=base) T
 have yG:=Ae (P:=P) (w:=w) (base:=base) T
 refine T.Kl.fn.ok EB (fun vs H Q E h=>Bu h) (fun cx A outer s H vs Q E hr h=>?_)
 refine ⟨_,(ai (aG (ak cu (hr.mono (by decide)) rfl T.Bv.mg T.Bv.fn.kp T.Bv.bd .nil aB (aa (ak mL (hr.mono (by decide)) rfl T.F8.mg T.F8.fn.kp T.F8.bd .nil aB (aa (pv 0) (aa (ak yG (hr.mono (by decide)) rfl T.Kk.mg T.Kk.fn.kp T.Kk.bd .nil aB (aa (pv 0) (aa (pv 1) ae))) ae))) ae)))),?_⟩
 obtain ⟨y,wt,ws,rfl,hy,hz,hk,p5,q⟩:=h
 refine ⟨_,rfl,_,rfl,_,rfl,y,wt,ws,rfl,hy,hz,p5,hk.lU,hk.sw,fun dr os H1 K9 ht s1=>?_⟩
 obtain ⟨nd,e⟩:=Bt hy (fun w hw=>(hk.sw w hw).1) ht
 obtain ⟨M,_,ok,_⟩:=id ht
 refine ⟨y,dr,ws,os,rfl,hy,hz,hk.ok,ok,K9,fun p qs H2 np hp G_ Ad s2=>?_⟩
 have hl:=rW (os:=os) hk
 have PY:qs.length<=24:=by rw[<-Ad,K4]at hl;omega
 refine ⟨p,qs,rfl,hp,G_,PY,by rw[Ad];exact nd,fun H3 s3=>?_⟩
 rw[Ad]
 exact q _ H3 (s1.trans (s2.trans s3)) e
theorem EI:bC P w K mg base eR 10 LC Mf ["yard","word"] (El K):=by
 have uH:=wD (P:=P) (w:=w) (base:=base) T
 refine T.Km.fn.ok Kr (fun vs H Q E h=>len_own h) (fun cx A outer s H vs Q E hr h=>?_)
 refine ⟨_,(ai (aG (ak uH (hr.mono (by decide)) rfl T.Kl.mg T.Kl.fn.kp T.Kl.bd .nil aB (aa (pv 0) (aa (dq (aa (pv 1) ae)) ae))))),?_⟩
 obtain ⟨y,w',rfl,hy,hz,hw,lK,q⟩:=h
 refine ⟨_,rfl,_,rfl,by show 1<=sizeLine;decide,fun t nt=>?_⟩
 refine ⟨y,t,[w'],rfl,hy,hz,G1 hw lK,ah,fun n H1 s1 e=>?_⟩
 exact q n H1 ((aq.upd nt).trans s1) (e.trans (Ej y w'))
theorem BG:bC P w K mg base eR 11 LR Mu ["_law_yard_here","_law_some","_law_words_here"] (rZ K):=by
 have EJ:=EI (P:=P) (w:=w) (base:=base) T
 have sg:=yF (P:=P) (w:=w) (base:=base) T
 refine T.Kp.fn.ok jD (fun vs H Q E h=>yu h) (fun cx A outer s H vs Q E hr h=>?_)
 refine ⟨_,(ag (ck PassesOwn.never rfl (vh K rfl rfl T.z_enumerate (aa (pv 1) ae)) (kH (n:=2) K rfl rfl (dA (aQ (i:=3) jD.nd rfl (Or.inl rfl)) (dA (aQ (i:=4) jD.nd rfl (Or.inl rfl)) ku))) (ag (bV (aI sR (ak EJ (hr.mono (by decide)) rfl T.Km.mg T.Km.fn.kp T.Km.bd .nil aB (aa (pv 0) (aa (pv 4) ae))) aj (aT _)) (ai (aG mN)) bu)
   (ai (ck PassesOwn.never rfl (gy K rfl (aE Cg (bO (iM K rfl) (pv 1) dc (bK (pv 3))) (cI (sX K rfl rfl) rfl T.z_list boot_list (aa (pv 2) ae)))) (aQ (i:=5) jD.nd rfl (Or.inl rfl)) (ai (bV (PW.pt (BW (aI sR (ak sg (hr.mono (by decide)) rfl T.Kn.mg T.Kn.fn.kp T.Kn.bd .nil aB (aa (pv 0) (aa (pv 4) (aa (pv 5) ae)))) aj (aT _)) (wU (aI sR (ak sg (hr.mono (by decide)) rfl T.Kn.mg T.Kn.fn.kp T.Kn.bd .nil aB (aa (pv 0) (aa (pv 5) (aa (pv 4) ae)))) aj (aT _))))) (ai (aG mN)) bu))))))
   (ai (aG mN))),?_⟩
 obtain ⟨y,p,z,L,ws,rfl,hy,hz,hp,hL,hx,lK,fr,q⟩:=h
 have hs:(100000:Nat)<sizeLine:=by decide
 refine ⟨_,rfl,p,rfl,⟨_,bA.of hp⟩,?_⟩
 refine q5 (K:=K) (a:=p) (xs:=dI L) (fun i σ H'=> ∃v3 v4 v5:Option V,σ=[some (.str (S y)),some (.ref p),some (.ref z),v3,v4,v5]/\aq H H') ⟨none,none,none,rfl,aq.refl _⟩ (fun i σ H' _ ⟨_,_,_,_,h⟩=>bA.of (h _ _ hp)) ?_ ?_
 ·rintro i x' σ H1 T yV ⟨v3,v4,v5,rfl,s1⟩ nT
  have hi:i<L.length:=by
   have:=(Je.mp yV).1
   rwa [bD]at this
  rw[gW hi]at yV
  cases yV
  have hr:=Xp hi
  generalize L[i]=r at hr ⊢
  have s2:=s1.trans (aq.upd (o:= .tup [.int i, .str (S r)]) nT)
  refine ⟨T,_,rfl,cT.of ah,rfl,_,_,rfl,_,_,rfl,rfl,?_⟩
  generalize upd H1 T (.tup [.int i, .str (S r)])=H2 at s2 ⊢
  have sr:=fr.sw r (X0 _ hr)
  refine ⟨_,rfl,_,rfl,y,r,rfl,hy,hz,sr.1,sr.2,fun n H3 s3 e=>?_⟩
  refine ⟨_,_,rfl,rfl,_,rfl,xG ?_ ?_⟩
  ·rw[fr.own r hr]at e
   rw[decide_eq_true (show (n:Int)=0 by omega)]
   rfl
  have EC:=s2.trans s3
  refine ⟨_,rfl,_,rfl,_,rfl,p,_,rfl,bA.of (EC _ _ hp),fun p1 n1=>?_⟩
  have ec:lN (dI L) none (some (i:Int))=dI (L.take i):=by
   show cut (dI L) none (some (i:Int))=_
   rw[eM]
   unfold dI
   rw[Za]
  rw[ec]
  have s4:=aq.upd (o:= .lst (dI (L.take i))) n1
  have nX:upd H3 p1 (.lst (dI (L.take i))) p1=some (.lst (dI (L.take i))):=ah
  generalize upd H3 p1 (.lst (dI (L.take i)))=H4 at s4 nX ⊢
  have Hb:=EC.trans s4
  have hq:bA K H4 z (dI ws)\/cT K H4 z (dI ws):=hx.elim (fun g=> .inl (bA.of (Hb _ _ g))) fun g=> .inr (cT.of (Hb _ _ g))
  refine ⟨_,rfl, .inr ⟨z,dI ws,rfl,hq,fun p2 n2=>?_⟩⟩
  have s5:=aq.upd (o:= .lst (dI ws)) n2
  have jF:upd H4 p2 (.lst (dI ws)) p2=some (.lst (dI ws)):=ah
  generalize upd H4 p2 (.lst (dI ws))=H5 at s5 jF ⊢
  have tl:(L.take i).length<=8:=by rw[Xh];omega
  refine ⟨p1,p2,_,_,rfl,rfl,s5 _ _ nX,jF,by rw[bD,bD];omega,fun p3 n3=>?_⟩
  have ea:dI (L.take i)++dI ws=dI (L.take i++ws):=by unfold dI;rw[WI]
  rw[ea]
  have s6:=aq.upd (o:= .lst (dI (L.take i++ws))) n3
  have uC:upd H5 p3 (.lst (dI (L.take i++ws))) p3=some (.lst (dI (L.take i++ws))):=ah
  generalize upd H5 p3 (.lst (dI (L.take i++ws)))=H6 at s6 uC ⊢
  have P_:=Hb.trans (s5.trans s6)
  refine ⟨p3,rfl,⟨_,bA.of uC⟩,?_⟩
  refine iF (K:=K) (a:=p3) (xs:=dI (L.take i++ws)) (fun j σ H'=> ∃v5:Option V,σ=[some (.str (S y)),some (.ref p),some (.ref z),some (.int i),some (.str (S r)),v5]/\aq H6 H') ⟨_,rfl,aq.refl _⟩ (fun j σ H' _ ⟨_,_,h⟩=>bA.of (h _ _ uC)) ?_ ?_
  ·rintro j x' σ H7 yV ⟨v5,rfl,s7⟩
   have hj:j<(L.take i++ws).length:=by
    have:=(Je.mp yV).1
    rwa [bD]at this
   rw[gW hj]at yV
   cases yV
   have hv:(L.take i++ws)[j]∈L++ws:=(WJ.mp (Xp hj)).elim (fun g=>X0 _ (Yn g)) fun g=>Xj _ g
   generalize (L.take i++ws)[j]=v at hv ⊢
   have sv:=fr.sw v hv
   have e2:=fr.two r hr v hv
   refine ⟨_,rfl,_,rfl,_,rfl,y,r,v,rfl,hy,hz,sr.1,sr.2,sv.1,sv.2,fun H8 s8=>?_⟩
   refine ⟨_,_,rfl,rfl,_,rfl,xG (by rw[e2.1];rfl) ?_⟩
   refine ⟨_,rfl,_,rfl,_,rfl,y,v,r,rfl,hy,hz,sv.1,sv.2,sr.1,sr.2,fun H9 s9=>?_⟩
   refine ⟨_,_,rfl,rfl,_,rfl,xG (by rw[e2.2];rfl) ?_⟩
   exact ⟨_,rfl,s7.trans (s8.trans s9)⟩
  ·rintro σ H7 ⟨v5,rfl,s7⟩
   exact ⟨_,_,_,rfl,P_.trans s7⟩
 ·rintro σ H1 ⟨v3,v4,v5,rfl,s1⟩
  exact q H1 s1
theorem BH:bC P w K mg base eR 1 LP Ms ["_law_yard_here"] (rA K):=by
 refine T.PQ.fn.ok Bz (fun vs H Q E h=>xO h) (fun cx A outer s H vs Q E hr h=>?_)
 refine ⟨_,(ai (aG (aD (gT K rfl) rfl T.z_sorted boot_sorted (aa (cV ["_law_letter"] [none] (gR (pv 0)) trivial (fun _ _ _ _=>(aQ (i:=0) (by decide+kernel:List.Nodup (["_law_letter"]:List Str)) rfl (Or.inl rfl))) (fun _ _ _ _=>(sO (aI sP (pv 0) (iJ [97,98,99,100,101,102,103,104,105,106,107,108,109,110,111,112,113,114,115,116,117,118,119,120,121,122] (by decide+kernel)) (by with_unfolding_all rfl)))) (fun _ _ _ _=>(pv 0))) ae)))),?_⟩
 obtain ⟨y,rfl,hz,q⟩:=h
 have hs:(1000:Nat)<sizeLine:=by decide
 refine ⟨_,rfl,y,rfl,?_⟩
 refine fG (xs:=cg y) (fun i acc H'=>aq H H'/\acc=cg ((y.take i).filter fun c=>decide (c∈aP))) (by rw[aN];omega) ⟨aq.refl H,rfl⟩ ?_ ?_
 ·rintro i x acc H1 Nx hi hx wz ⟨s1,rfl⟩ nx
  obtain ⟨c,hc,rfl⟩:=dU hx
  have e:=iT (p:=fun c=>decide (c∈aP)) hc
  refine ⟨trivial,?_⟩
  refine ⟨_,rfl,c,aP,rfl,rfl,_,rfl,?_⟩
  refine bS (fun z=>?_) (fun z=>?_)
  ·rw[if_pos z]at e
   exact ⟨_,rfl,nx _ _ (by simpa using wz) ⟨s1,by rw[e, <-cW]⟩⟩
  ·rw[if_neg z,Xy]at e
   exact nx _ _ (Y1 wz) ⟨s1,by rw[e]⟩
 ·rintro acc H1 D wz ⟨s1,rfl⟩ hD
  rw[iP,dh]
  have Rz:(y.filter fun c=>decide (c∈aP)).length<=y.length:=X_ _ _
  refine ⟨D,(y.filter fun c=>decide (c∈aP)).map fun c=>[c],rfl,bA.of ah,by rw[K4];omega,fun p ls hp lJ G8=>?_⟩
  obtain ⟨l',rfl,pl⟩:=yZ lJ
  refine q p l' _ (aq.free (aq.trans s1 (aq.upd hD)) hp) (by rw[ah, <-dh]) pl (y0 G8) ((s1.trans (aq.upd hD)).trans (aq.upd hp))
theorem BI:bC P w K mg base eR 1 f4 d4 ["yard","some"] (rz K):=by
 refine T.F4.fn.ok By (fun vs H Q E h=>xN h) (fun cx A outer s H vs Q E hr h=>?_)
 refine ⟨_,(ai (aG (bL K rfl Xc Yh Yg (fH K rfl) (iJ [] (by decide+kernel)) (aa (cV ["letter","some"] [none,some 1] (gR (pv 0)) ⟨⟨rfl,rfl,by first | exact .inl rfl | exact .inr rfl⟩,trivial⟩ (fun _ _ _ _=>(aQ (i:=0) (by decide+kernel:List.Nodup (["letter","some"]:List Str)) rfl (Or.inl rfl))) (fun _ _ _ _=>(sO (aI sP (dW K rfl Xc YZ YX kF (pv 0)) (pv 1) (by with_unfolding_all rfl)))) (fun _ _ _ _=>(pv 0))) ae)))),?_⟩
 obtain ⟨y,sm,rfl,hl,hz,q⟩:=h
 have hs:(1000:Nat)<sizeLine:=by decide
 refine ⟨rfl,_,rfl,y,rfl,?_⟩
 refine fG (xs:=cg y) (fun i acc H'=>aq H H'/\acc=cg ((y.take i).filter (kept sm))) (by rw[aN];omega) ⟨aq.refl H,rfl⟩ ?_ ?_
 ·rintro i x acc H1 Nx hi hx wz ⟨s1,rfl⟩ nx
  obtain ⟨c,hc,rfl⟩:=dU hx
  have e:=iT (p:=kept sm) hc
  rw[show kept sm c=decide (PyProof.Rows.lo1 c∈sm) from rfl]at e
  refine ⟨⟨rfl,trivial⟩,?_⟩
  refine ⟨_,rfl,rfl,c,rfl,rfl,hl c (W9 hc),_,rfl,_,_,rfl,rfl,_,rfl,?_⟩
  refine bS (fun z=>?_) (fun z=>?_)
  ·rw[if_pos z]at e
   exact ⟨_,rfl,nx _ _ (by simpa using wz) ⟨s1,by rw[e, <-cW]⟩⟩
  ·rw[if_neg z,Xy]at e
   exact nx _ _ (Y1 wz) ⟨s1,by rw[e]⟩
 ·rintro acc H1 D wz ⟨s1,rfl⟩ hD
  rw[iP,dh]
  have Rz:(y.filter (kept sm)).length<=y.length:=X_ _ _
  refine ⟨D,(y.filter (kept sm)).map fun c=>[c],rfl,rfl,bA.of ah,by rw[vE];omega,?_⟩
  rw[mV]
  exact q _ (s1.trans (aq.upd hD))
theorem BJ:bC P w K mg base eR 12 LS Mv ["_law_box_here","_law_yard_here","_law_words_here"] (r9 K):=by
 have EK:=He (P:=P) (w:=w) (base:=base) T
 have wF:=BG (P:=P) (w:=w) (base:=base) T
 have uH:=wD (P:=P) (w:=w) (base:=base) T
 have EJ:=EI (P:=P) (w:=w) (base:=base) T
 have EL:=BE (P:=P) (w:=w) (base:=base) T
 have EM:=BH (P:=P) (w:=w) (base:=base) T
 have bU:=gK (P:=P) (w:=w) (base:=base) T
 have EN:=BI (P:=P) (w:=w) (base:=base) T
 refine T.PU.fn.ok gJ (fun vs H Q E h=>yv h) (fun cx A outer s H vs Q E hr h=>?_)
 refine ⟨_,(ag (ao (i:=3) gJ.nd rfl (Or.inl rfl) (ak EK (hr.mono (by decide)) rfl T.Ko.mg T.Ko.fn.kp T.Ko.bd .nil aB (aa (pv 1) ae)))
   (ag (bV (BX (gM (ak wF (hr.mono (by decide)) rfl T.Kp.mg T.Kp.fn.kp T.Kp.bd .nil aB (aa (pv 1) (aa (pv 3) (aa (pv 2) ae)))))) (ai (aG mN)) bu)
   (ag (bV (aI sR (ak uH (hr.mono (by decide)) rfl T.Kl.mg T.Kl.fn.kp T.Kl.bd .nil aB (aa (pv 1) (aa (dq (aa (aV (bX K rfl) (pv 3) aj (fun _ _=>rfl)) (aa (aV (bB K rfl) (pv 2) aj (fun _ _=>rfl)) ae))) ae))) (ak EJ (hr.mono (by decide)) rfl T.Km.mg T.Km.fn.kp T.Km.bd .nil aB (aa (pv 1) (aa (aV (bB K rfl) (pv 2) aj (fun _ _=>rfl)) ae))) (aT _)) (ai (aG mN)) bu)
   (ag (ao (i:=4) gJ.nd rfl (Or.inl rfl) (bO (iM K rfl) (ak EL (hr.mono (by decide)) rfl T.PN.mg T.PN.fn.kp T.PN.bd .nil aB (aa (pv 0) (aa (ak EM (hr.mono (by decide)) rfl T.PQ.mg T.PQ.fn.kp T.PQ.bd .nil aB (aa (pv 1) ae)) ae))) dc (bK (aE bj aj (ak bU (hr.mono (by decide)) rfl T.gu.mg T.gu.fn.kp T.gu.bd .nil aB (aa (pv 0) (aa (aE dZ (aD aR rfl T.z_len W_ (aa (pv 1) ae)) aj) ae)))))))
   (ag (ao (i:=5) gJ.nd rfl (Or.inr rfl) (ak EN (hr.mono (by decide)) rfl T.F4.mg T.F4.fn.kp T.F4.bd .nil aB (aa (pv 1) (aa (bL K rfl Xc Yh Yg (fH K rfl) (iJ [] (by decide+kernel)) (aa (pv 4) ae)) ae))))
   (ag (Cy (i:=6) ["_law_word","_law_inner"] [none,some 5] gJ.nd rfl (Or.inl rfl) (sU K rfl (pv 2)) ⟨⟨rfl,rfl,by first | exact .inl rfl | exact .inr rfl⟩,trivial⟩ (fun _ _ _ _=>(aQ (i:=0) (by decide+kernel:List.Nodup (["_law_word","_law_inner"]:List Str)) rfl (Or.inl rfl))) (fun _ _ _ _=>(sO (gM (aD (AL K rfl rfl) rfl T.z_all boot_all (aa (cV ["_law_letter","_law_inner"] [none,some 1] (gR (pv 0)) ⟨⟨rfl,rfl,by first | exact .inl rfl | exact .inr rfl⟩,trivial⟩ (fun _ _ _ _=>(aQ (i:=0) (by decide+kernel:List.Nodup (["_law_letter","_law_inner"]:List Str)) rfl (Or.inl rfl))) (fun _ _ _ _=>iI) (fun _ _ _ _=>(jj sP (pv 0) (pv 1) (by with_unfolding_all rfl)))) ae))))) (fun _ _ _ _=>(pv 0)))
   (ai (aG (ak wF (hr.mono (by decide)) rfl T.Kp.mg T.Kp.fn.kp T.Kp.bd .nil aB (aa (pv 1) (aa (ak EK (hr.mono (by decide)) rfl T.Ko.mg T.Ko.fn.kp T.Ko.bd .nil aB (aa (pv 5) ae)) (aa (pv 6) ae)))))))))))),?_⟩
 obtain ⟨b,y,wt,ws,rfl,hb,hy,EO,wG,wb,p5,Ff,Oo,ME,q⟩:=h
 have hs:(100000:Nat)<sizeLine:=by decide
 have MF:y.length<=sizeLine:=by omega
 refine ⟨_,rfl,y,rfl,hy,EO,wG,fun p L H1 rm np hp s1=>?_⟩
 have lU:=rm.lU.1
 have fr:=G5 hy EO wG rm ME
 refine ⟨_,rfl,_,rfl,_,rfl,y,p,wt,L,ws,rfl,hy,wG,hp,by omega, .inr (s1 _ _ p5),Oo,fr,fun H2 s2=>?_⟩
 refine ⟨_,rfl,xG rfl ?_⟩
 have qz:=s1.trans s2
 obtain ⟨r0,L',rfl⟩: ∃r L',L=r::L':=by
  cases L with
  | cons r L'=>exact ⟨r,L',rfl⟩
  | nil=>
   exfalso
   obtain ⟨us,pa,pm,_⟩:=rm
   have e:us=[]:=by
    have:=pm.length_eq
    rw[K4]at this
    exact XM.mp this.symm
   subst e
   obtain ⟨c,hc⟩: ∃c,c∈y:=⟨y[0],Xp (by omega)⟩
   obtain ⟨_,hm,_⟩:=pa.all c hc
   cases hm
 obtain ⟨w0,Hf,rfl⟩: ∃w Hf,ws=w::Hf:=by
  cases ws with
  | cons w Hf=>exact ⟨w,Hf,rfl⟩
  | nil=>exact absurd Ff (by decide)
 have sr:=fr.sw r0 Uz
 have sw:=ME w0 Uz
 have jF:=s2 _ _ hp
 have ar:m6 (dI (r0::L')) (0:Int)=some (.str (S r0)):=bY (j:=0) rfl
 have aw:m6 (dI (w0::Hf)) (0:Int)=some (.str (S w0)):=bY (j:=0) rfl
 have R7:=qz _ _ p5
 refine ⟨_,rfl,_,rfl,p,_,_,_,rfl,rfl,bA.of jF,ar,_,rfl,wt,_,_,_,rfl,rfl,cT.of R7,aw,by show 2<=sizeLine;decide,fun t nt=>?_⟩
 have s3:=aq.upd (o:= .tup [.str (S r0), .str (S w0)]) nt
 refine ⟨y,t,[r0,w0],rfl,hy,wG,zw sr.1 sw.1 sr.2 (by omega),ah,fun n H4 s4 e=>?_⟩
 have Hb:=qz.trans (s3.trans s4)
 refine ⟨_,rfl,_,rfl,wt,_,_,_,rfl,rfl,cT.of (Hb _ _ p5),aw,y,w0,rfl,hy,wG,sw.1,by omega,fun m H5 s5 g=>?_⟩
 refine ⟨_,_,rfl,rfl,_,rfl,xG ?_ ?_⟩
 ·rw[Ek,fr.own r0 Uz,(fr.two r0 Uz w0 (Xj _ Uz)).1]at e
  rw[decide_eq_true (show (n:Int)=m by omega)]
  rfl
 have TZ:=Hb.trans s5
 have R8:=hb.same TZ
 refine ⟨_,rfl,_,rfl,y,rfl,by omega,fun p2 l2 H6 n2 jF AD _ s6=>?_⟩
 have Wf:=AD.length_eq
 have Rz:(y.filter fun c=>decide (c∈aP)).length<=y.length:=X_ _ _
 refine ⟨b,p2,l2,rfl,R8.same s6,bA.of jF,by omega,fun p3 l3 H7 n3 b3 uC Qa OM s7=>?_⟩
 have T1:=(aW.of (TZ.trans s6)).trans s7
 have dv:(y.length:Int) / 2=((y.length / 2:Nat):Int):=(Y_ _ _).symm
 refine ⟨_,rfl,_,rfl,y,rfl,by omega,_,_,rfl,rfl,⟨by decide,by decide⟩,b,_,rfl,OM,by rw[dv];omega,by rw[dv];omega,fun k H8 hk T3 s8=>?_⟩
 have Wg:=s8 _ _ uC b3
 refine ⟨_,_,rfl,rfl,_,rfl,p3,_,rfl,bA.of Wg,fun p4 n4=>?_⟩
 have ec:lN (cg l3) none (some ((1:Int)+k))=cg (l3.take (k+1)):=by
  rw[show (1:Int)+k=((k+1:Nat):Int) by omega]
  show cut (cg l3) none (some ((k+1:Nat):Int))=_
  rw[eM]
  unfold cg
  rw[Za]
 rw[ec]
 have T4:=T3.ne n4
 have Wh:=T3.eh (o:= .lst (cg (l3.take (k+1)))) T4
 have Ie:upd H8 p4 (.lst (cg (l3.take (k+1)))) p4=some (.lst (cg (l3.take (k+1)))):=ah
 have R9:=(T1.trans s8).eh (o:= .lst (cg (l3.take (k+1)))) ((T1.trans s8).none n4 T4)
 have m3: ∀d∈l3.take (k+1),d∈aP/\d∈y:=fun d hd=>by
  obtain ⟨g1,g2⟩:=Xk.mp (AD.mem_iff.mp (Qa.mem_iff.mp (Yn hd)))
  exact ⟨of_decide_eq_true g2,g1⟩
 have T5:(l3.take (k+1)).Nodup:=((Qa.trans AD).nodup_iff.mpr (hy.nd.filter _)).sublist (List.take_sublist _ _)
 have W0:l3.length<=8:=by rw[Qa.length_eq];omega
 have ne3:l3.take (k+1)≠[]:=fun e=>by
  have e0:l3=[]:=by
   cases l3 with
   | nil=>rfl
   | cons c r=>cases e
  have e1:(y.filter fun c=>decide (c∈aP))=[]:=by
   have:=(Qa.trans AD).length_eq
   rw[e0]at this
   exact XM.mp this.symm
  obtain ⟨c,hc⟩: ∃c,c∈y:=⟨y[0],Xp (by omega)⟩
  have no: ∀d∈y,d∉aP:=fun d hd hm=>by
   have:d∈y.filter fun c=>decide (c∈aP):=Xk.mpr ⟨hd,decide_eq_true hm⟩
   rw[e1]at this
   cases this
  rcases hy.lt c hc with g | g
  ·exact no c hc g
  ·exact no _ (hy.cl c hc) (bE c g).2.2.2
 have tz:(l3.take (k+1)).length<=8:=by rw[Xh];omega
 generalize upd H8 p4 (.lst (cg (l3.take (k+1))))=H9 at Wh Ie R9 ⊢
 generalize l3.take (k+1)=m at Ie m3 T5 ne3 tz ⊢
 have hz:=hy.within fun d hd=>(m3 d hd).1
 have Wi:=tG hy (fun d hd=>(m3 d hd).1) T5 fun d hd=>(m3 d hd).2
 have z8:(y.filter (kept m)).length<=8:=Xt (X_ _ _) wG
 have z2:2<=(y.filter (kept m)).length:=by
  obtain ⟨d,hd⟩: ∃d,d∈m:=List.exists_mem_of_ne_nil m ne3
  have d1:d∈y.filter (kept m):=(Xk.mp (Wi.mem_iff.mpr hd)).1
  have d2:=hz.cl d d1
  have dn:=iO (hz.lt d d1)
  cases e:y.filter (kept m) with
  | nil=>rw[e]at d1;cases d1
  | cons a r=>
   cases r with
   | nil=>
    rw[e]at d1 d2
    rw[O8.mp d1]at d2 dn
    exact absurd (O8.mp d2) dn
   | cons a2 r2=>simp
 refine ⟨_,rfl,rfl,_,rfl,p4,m.map fun c=>[c],rfl,rfl,bA.of (by rw[Ie, <-dh]),by rw[vE];omega,?_⟩
 rw[mV]
 refine ⟨y,m,rfl,CO hy.lt,by omega,fun Wj T6=>?_⟩
 have Ii:=(R9.after T6) _ _ p5 wb
 have Ta: ∀c,c∈y.filter (kept m)->c∈y:=fun c hc=>(Xk.mp hc).1
 generalize rO:y.filter (kept m)=z at hz z8 z2
 refine ⟨_,rfl,wt,rfl,⟨_,cT.of Ii⟩,?_⟩
 refine oN (K:=K) (a:=wt) (xs:=dI (w0::Hf)) (fun i acc H'=>aq Wj H'/\ ∃us:List (List Nat),acc=dI us/\us.length<=i/\ ∀u∈us,u∈w0::Hf/\ ∀c∈u,c∈z) (by rw[bD];omega) (fun i acc H' h=>cT.of (h.1 _ _ Ii)) ⟨aq.refl _,[],rfl,SA _,fun _ h=>absurd h Xg⟩ ?_ ?_
 ·rintro i x acc Qb Nx hi hx wz ⟨R_,us,rfl,ul,uZ⟩ nx
  have hj:i<(w0::Hf).length:=by rw[bD]at hi;exact hi
  rw[gW hj]at hx
  cases hx
  have hu:=Xp hj
  generalize (w0::Hf)[i]=u at hu ⊢
  have uz:u.length<=10:=(ME u hu).2
  refine ⟨⟨rfl,trivial⟩,?_⟩
  refine ⟨_,rfl,u,rfl,?_⟩
  refine fG (xs:=cg u) (fun j acc H'=>H'=Qb/\acc=((u.take j).map fun c=>decide (c∈z)).map V.bl) (by rw[aN];omega) ⟨rfl,rfl⟩ ?_ ?_
  ·rintro j x acc Sa W2 W3 FT ON ⟨rfl,rfl⟩ RU
   obtain ⟨c,hc,rfl⟩:=dU FT
   refine ⟨⟨rfl,trivial⟩,fW ⟨_,rfl,_,rfl,c,_,rfl,rfl,RU _ _ (by simpa using ON) ⟨rfl,?_⟩⟩⟩
   rw[<-take_snoc hc,WI,WI]
   rfl
  ·rintro acc Sa D ON ⟨rfl,rfl⟩ hD
   rw[aN,Xo (SA _)]
   refine ⟨D,u.map fun c=>decide (c∈z),rfl,bA.of ah,_,rfl,?_⟩
   have MG:=R_.trans (aq.upd (o:= .lst ((u.map fun c=>decide (c∈z)).map V.bl)) hD)
   generalize upd Sa D (.lst ((u.map fun c=>decide (c∈z)).map V.bl))=Wl at MG ⊢
   refine bS (fun c=>?_) (fun c=>?_)
   ·refine ⟨_,rfl,nx _ _ (by rw[SD];simp;omega) ⟨MG,us++[u],by rw[kL],by rw[SD];simp;omega,fun v hv=>?_⟩⟩
    rcases WJ.mp hv with g | g
    ·exact uZ v g
    ·rw[O8.mp g]
     refine ⟨hu,fun d hd=>?_⟩
     rw[List.all_map,YN]at c
     exact of_decide_eq_true (c d hd)
   ·exact nx _ _ (Xt wz (Yp _)) ⟨MG,us,rfl,Xt ul (Yp _),uZ⟩
 ·rintro acc Qb D wz ⟨R_,us,rfl,ul,uZ⟩ hD
  rw[bD]at ul
  have T7:upd Qb D (.lst (dI us)) D=some (.lst (dI us)):=ah
  have MG:=R_.trans (aq.upd (o:= .lst (dI us)) hD)
  generalize upd Qb D (.lst (dI us))=Sa at T7 MG ⊢
  refine ⟨_,rfl,_,rfl,z,rfl,hz,z2,z8,fun p9 L9 Wl T8 W4 Wm T9=>?_⟩
  have f9:=T8.lU.1
  subst rO
  have Wn:G4 y L9 us:=G6 hy hz z2 wG T8 fun v hv=>by
   obtain ⟨a1,a2⟩:=uZ v hv
   obtain ⟨b1,b2⟩:=ME v a1
   exact ⟨⟨b1.ne,a2,b1.red⟩,b2⟩
  refine ⟨_,rfl,y,p9,D,L9,us,rfl,hy,wG,Wm,by omega, .inl (T9 _ _ T7),by omega,Wn,fun Wo Wq=>?_⟩
  exact q Wo (R9.after (T6.trans (MG.trans (T9.trans Wq))))
theorem si:bC P w K mg base eR 2 LM Mp ["_law_box_here","_law_yard_here","_law_top"] (rC K):=by
 have bU:=gK (P:=P) (w:=w) (base:=base) T
 have fg:=mM (P:=P) (w:=w) (base:=base) T
 refine T.Fc.fn.ok cN (fun vs H Q E h=>xR h) (fun cx A outer s H vs Q E hr h=>?_)
 refine ⟨_,(ag (ao (i:=3) cN.nd rfl (Or.inl rfl) (aE bj aj (ak bU (hr.mono (by decide)) rfl T.gu.mg T.gu.fn.kp T.gu.bd .nil aB (aa (pv 0) (aa (pv 2) ae)))))
   (ag (ao (i:=4) cN.nd rfl (Or.inl rfl) (ak bU (hr.mono (by decide)) rfl T.gu.mg T.gu.fn.kp T.gu.bd .nil aB (aa (pv 0) (aa aj ae))))
   (ag (ao (i:=5) cN.nd rfl (Or.inl rfl) (iJ [] (by decide+kernel)))
   (jl (cJ PassesOwn.never (aI oj (aD aR rfl T.z_len W_ (aa (pv 5) ae)) (pv 3) (aT _)) (ag (ao (i:=6) cN.nd rfl (Or.inl rfl) (aV gQ (pv 1) (ak bU (hr.mono (by decide)) rfl T.gu.mg T.gu.fn.kp T.gu.bd .nil aB (aa (pv 0) (aa (aD aR rfl T.z_len W_ (aa (pv 1) ae)) ae))) (fun _ _=>rfl)))
   (jl (bV (PW.pt (jZ (aI j6 (pv 4) aj (aT _)) (jZ (aI om (aD aR rfl T.z_len W_ (aa (pv 5) ae)) aj (aT _)) (ji (aI oj (aD aR rfl T.z_len W_ (aa (pv 5) ae)) aj (aT _)))))) (ai (ao (i:=6) cN.nd rfl (Or.inl rfl) (aV gQ (pv 5) (aE eI (aD aR rfl T.z_len W_ (aa (pv 5) ae)) aj) (fun _ _=>rfl)))) bu)
   (ai (bV (PW.pt (BW (aI gS (pv 5) (iJ [] (by decide+kernel)) (aT _)) (wU (aI Cz (pv 6) (ak fg (hr.mono (by decide)) rfl T.uq.mg T.uq.fn.kp T.uq.bd .nil aB (aa (aV gQ (pv 5) (kx gO aj) (fun _ _=>rfl)) ae)) (aT _))))) (ai (ao (i:=5) cN.nd rfl (Or.inl rfl) (aE gP (pv 5) (pv 6)))) (ai (ao (i:=5) cN.nd rfl (Or.inl rfl) (aE gP (pv 5) (aV gQ (pv 5) (kx gO aj) (fun _ _=>rfl))))))))))
   (jl (cJ PassesOwn.never (PW.pt (jZ (aI om (aD aR rfl T.z_len W_ (aa (pv 5) ae)) aj (aT _)) (ji (aI gS (aV gQ (pv 5) aj (fun _ _=>rfl)) (ak fg (hr.mono (by decide)) rfl T.uq.mg T.uq.fn.kp T.uq.bd .nil aB (aa (aV gQ (pv 5) (kx gO aj) (fun _ _=>rfl)) ae)) (aT _))))) (ai (ao (i:=5) cN.nd rfl (Or.inl rfl) (bO m8 (pv 5) dc (bK (kx gO aj))))))
   (jl (bV (PW.pt (jZ (aI j6 (pv 4) aj (aT _)) (ji (aI Hz (aE j4 (aD aR rfl T.z_len W_ (aa (pv 5) ae)) aj) (pv 2) (aT _))))) (ai (ao (i:=5) cN.nd rfl (Or.inl rfl) (aE gP (pv 5) (pv 5)))) bu)
   (ai (aG (pv 5))))))))),?_⟩
 obtain ⟨b,y,top,rfl,hb,hy,EO,wG,BS,Mz,q⟩:=h
 have hs:(100000:Nat)<sizeLine:=by decide
 have MF:y.length<=sizeLine:=by omega
 refine ⟨_,rfl,_,rfl,b,_,rfl,hb,by omega,by omega,fun n H1 hn vy s1=>?_⟩
 refine ⟨_,_,rfl,rfl,_,rfl,b,5,rfl,vy,by decide,by decide,fun fm H2 Wr j7 s2=>?_⟩
 have W5:n+1<=top:=by omega
 have qz:=s1.trans s2
 walk_at "wk"
 refine ⟨fun σ' H'=> ∃(w:List Nat) (lv:Option V),σ'=[some (.ref b),some (.str (S y)),some (.int top),some (.int (1+(n:Int))),some (.int fm),some (.str (S w)),lv]/\Wd y w/\1<=w.length/\w.length<=n+1/\cf H' b/\aW b H H',?_,?_⟩
 ·refine ⟨fun k σ H'=> ∃(w:List Nat) (lv:Option V),σ=[some (.ref b),some (.str (S y)),some (.int top),some (.int (1+(n:Int))),some (.int fm),some (.str (S w)),lv]/\k=n+1 - w.length/\Wd y w/\w.length<=n+1/\cf H' b/\aW b H H',⟨_,[],none,rfl,rfl,⟨Ba.nil,fun _ h=>absurd h Xg⟩,Xb _,j7,qz⟩,?_⟩
  rintro k σ H3 ⟨w,lv,rfl,rfl,hw,lK,qG,s3⟩
  have nH:w.length<=sizeLine:=by omega
  refine ⟨_,rfl,w,rfl,nH,_,rfl,_,_,rfl,rfl,_,rfl,bS (fun z=>?_) (fun z=>?_)⟩
  ·have z1:(w.length:Int)<1+(n:Int):=of_decide_eq_true z
   refine ⟨_,rfl,_,rfl,_,rfl,y,rfl,MF,b,_,rfl,qG,by omega,by omega,fun r H4 Ih Ag s4=>?_⟩
   have hr:r<y.length:=by omega
   refine ⟨y,_,_,rfl,rfl,MF,bY (Jd hr),?_⟩
   have wJ:y[r]∈y:=Xp hr
   generalize y[r]=c at wJ ⊢
   refine ⟨fun σ' H'=>H'=H4/\ ∃e,e∈y/\σ'=[some (.ref b),some (.str (S y)),some (.int top),some (.int (1+(n:Int))),some (.int fm),some (.str (S w)),some (.str (S [e]))],?_,?_⟩
   ·refine ⟨_,rfl,_,_,rfl,rfl,_,rfl,bS (fun f1=>?_) (fun f1=>?_)⟩
    ·refine ⟨_,rfl,w,rfl,nH,_,_,rfl,rfl,_,rfl,bS (fun f2=>?_) (fun f2=>?_)⟩
     ·have g2:(1:Int)<w.length:=of_decide_eq_true f2
      have cP:w≠[]:=fun g=>by rw[g]at g2;simp at g2
      refine ⟨_,rfl,w,rfl,nH,_,_,rfl,rfl,_,rfl,bS (fun f3=>?_) (fun f3=>?_)⟩
      ·refine ⟨_,rfl,_,rfl,w,rfl,nH,_,_,rfl,rfl,by show (0:Int)<2;decide,w,_,_,rfl,rfl,nH,kS (by show -(w.length:Int)<=(w.length:Int)%2;omega) (by show (w.length:Int)%2<_;omega),?_⟩
       exact ⟨rfl,_,hw.bo _ (g5 cP _),rfl⟩
      ·exact ⟨rfl,c,wJ,rfl⟩
     ·refine AG ?_
      exact ⟨rfl,c,wJ,rfl⟩
    ·refine AG ?_
     exact ⟨rfl,c,wJ,rfl⟩
   rintro σ5 H5 ⟨rfl,e,zR,rfl⟩
   have s5:=s3.trans s4
   refine ⟨_,rfl,w,[],rfl,rfl,_,rfl,bS (fun f=>?_) (fun f=>?_)⟩
   ·have OK:w=[]:=of_decide_eq_true f
    refine Jf ?_
    refine ⟨_,rfl,_,rfl,w,[e],rfl,rfl,by show w.length+1<=_;omega,?_⟩
    exact ⟨n+1 - (w++[e]).length,by rw[SD];show n+1 - (w.length+1)<_;omega,w++[e],_,rfl,rfl,hw.more zR fun g=>absurd OK g,by rw[SD];show w.length+1<=_;omega,Ag,s5⟩
   ·have cP:w≠[]:=fun g=>f (decide_eq_true g)
    have qr:0<w.length:=SE.mpr cP
    have BP:rd w (-1)∈y:=hw.bo _ (g5 cP _)
    have Fe:m6 w (-1)=some (rd w (-1)):=kS (by omega) (by omega)
    refine ⟨_,rfl,_,rfl,_,rfl,w,_,_,rfl,rfl,nH,Fe,_,rfl,hy.lt _ BP,[e],_,rfl,rfl,_,rfl,bS (fun f2=>?_) (fun f2=>?_)⟩
    ·have Sb:e≠aC (rd w (-1)):=fun g=>by rw[g]at f2;simp at f2
     refine ⟨_,rfl,_,rfl,w,[e],rfl,rfl,by show w.length+1<=_;omega,?_⟩
     exact ⟨n+1 - (w++[e]).length,by rw[SD];show n+1 - (w.length+1)<_;omega,w++[e],_,rfl,rfl,hw.more zR fun _=>Sb,by rw[SD];show w.length+1<=_;omega,Ag,s5⟩
    ·refine ⟨_,rfl,_,rfl,_,rfl,w,_,_,rfl,rfl,nH,Fe,w,[rd w (-1)],rfl,rfl,by show w.length+1<=_;omega,?_⟩
     exact ⟨n+1 - (w++[rd w (-1)]).length,by rw[SD];show n+1 - (w.length+1)<_;omega,w++[rd w (-1)],_,rfl,rfl,hw.more BP fun _ g=>iO (hy.lt _ BP) g.symm,by rw[SD];show w.length+1<=_;omega,Ag,s5⟩
  ·have z1: ¬(w.length:Int)<1+(n:Int):=fun g=>z (decide_eq_true g)
   exact ⟨w,lv,rfl,hw,by omega,lK,qG,s3⟩
 rintro σ6 H3 ⟨w,lv,rfl,hw,Ff,lK,qG,s3⟩
 refine ⟨fun σ' H'=>H'=H3/\ ∃w:List Nat,σ'=[some (.ref b),some (.str (S y)),some (.int top),some (.int (1+(n:Int))),some (.int fm),some (.str (S w)),lv]/\SW y w/\w.length<=n+1,?_,?_⟩
 ·refine ⟨fun k σ H'=>H'=H3/\ ∃w:List Nat,σ=[some (.ref b),some (.str (S y)),some (.int top),some (.int (1+(n:Int))),some (.int fm),some (.str (S w)),lv]/\k=w.length/\Wd y w/\1<=w.length/\w.length<=n+1,⟨_,rfl,w,rfl,rfl,hw,Ff,lK⟩,?_⟩
  clear hw lK Ff w
  rintro k σ H4 ⟨rfl,w,rfl,rfl,hw,Ff,lK⟩
  have nH:w.length<=sizeLine:=by omega
  have cP:w≠[]:=fun g=>by rw[g]at Ff;simp at Ff
  have BP: ∀k,rd w k∈y:=fun k=>hw.bo _ (g5 cP k)
  refine ⟨_,rfl,w,rfl,nH,_,_,rfl,rfl,_,rfl,bS (fun f=>?_) (fun f=>?_)⟩
  ·have g1:(1:Int)<w.length:=of_decide_eq_true f
   have Fe:m6 w (-1)=some (rd w (-1)):=kS (by omega) (by omega)
   refine ⟨_,rfl,w,_,_,rfl,rfl,nH,kS (k:=0) (by omega) (by omega),_,rfl,_,rfl,w,_,_,rfl,rfl,nH,Fe,_,rfl,hy.lt _ (BP _),[rd w 0],_,rfl,rfl,_,rfl,bS (fun f2=>?_) (fun f2=>?_)⟩
   ·refine ⟨_,rfl,_,rfl,_,rfl,w,rfl,nH,?_⟩
    rw[C_]
    exact ⟨(w.take (w.length - 1)).length,by rw[Xh];omega,rfl,w.take (w.length - 1),rfl,rfl,⟨hw.E7.take _,fun c hc=>hw.bo c (Yn hc)⟩,by rw[Xh];omega,by rw[Xh];omega⟩
   ·have Sb:rd w 0≠aC (rd w (-1)):=fun g=>f2 (by simp[g])
    exact ⟨rfl,w,rfl,hw.sw cP Sb,lK⟩
  ·have g1: ¬(1:Int)<w.length:=fun g=>f (decide_eq_true g)
   refine AG ?_
   exact ⟨rfl,w,rfl,hw.one hy (by omega),lK⟩
 rintro σ7 H7 ⟨rfl,w7,rfl,sw,Ws⟩
 clear hw Ff lK w
 refine ⟨fun σ' H'=>H'=H7/\ ∃w:List Nat,σ'=[some (.ref b),some (.str (S y)),some (.int top),some (.int (1+(n:Int))),some (.int fm),some (.str (S w)),lv]/\SW y w/\w.length<=top,?_,?_⟩
 ·refine ⟨_,rfl,_,_,rfl,rfl,_,rfl,bS (fun f=>?_) (fun f=>?_)⟩
  ·refine ⟨_,rfl,w7,rfl,by omega,_,_,rfl,rfl, .inl ⟨by omega,by omega⟩,_,rfl,_,_,rfl,rfl,_,rfl,bS (fun f2=>?_) (fun f2=>?_)⟩
   ·have g2:(w7.length:Int)*2<=top:=of_decide_eq_true f2
    refine ⟨_,rfl,_,rfl,w7,w7,rfl,rfl,by omega,?_⟩
    exact ⟨rfl,_,rfl,sw.twice,by rw[SD];omega⟩
   ·exact ⟨rfl,_,rfl,sw,by omega⟩
  ·refine AG ?_
   exact ⟨rfl,_,rfl,sw,by omega⟩
 rintro σ8 H8 ⟨rfl,w8,rfl,Wt,Sd⟩
 exact ⟨_,rfl,q w8 _ Wt Sd qG s3⟩
theorem ER:bC P w K mg base eR 3 LN Mq ["_law_box_here","_law_yard_here","_law_word","_law_top"] (vM K):=by
 have bU:=gK (P:=P) (w:=w) (base:=base) T
 have fg:=mM (P:=P) (w:=w) (base:=base) T
 have lE:=si (P:=P) (w:=w) (base:=base) T
 refine T.PM.fn.ok jg (fun vs H Q E h=>Bd h) (fun cx A outer s H vs Q E hr h=>?_)
 refine ⟨_,(ag (ao (i:=4) jg.nd rfl (Or.inl rfl) (ak bU (hr.mono (by decide)) rfl T.gu.mg T.gu.fn.kp T.gu.bd .nil aB (aa (pv 0) (aa aj ae))))
   (ag (ao (i:=5) jg.nd rfl (Or.inl rfl) (ak bU (hr.mono (by decide)) rfl T.gu.mg T.gu.fn.kp T.gu.bd .nil aB (aa (pv 0) (aa (aD aR rfl T.z_len W_ (aa (pv 2) ae)) ae))))
   (ag (bV (aI j6 (pv 4) aj (aT _)) (ai (aG (aE gP (bO m8 (pv 2) (bK (pv 5)) dc) (bO m8 (pv 2) dc (bK (pv 5)))))) bu)
   (ag (bV (aI j6 (pv 4) aj (aT _)) (ai (aG (bL K rfl Xc Yh Yg (fH K rfl) (iJ [] (by decide+kernel)) (aa (cV ["_law_letter"] [none] (Cv rfl T.z_reversed (aa (pv 2) ae)) trivial (fun _ _ _ _=>(aQ (i:=0) (by decide+kernel:List.Nodup (["_law_letter"]:List Str)) rfl (Or.inl rfl))) (fun _ _ _ _=>iI) (fun _ _ _ _=>(ak fg (hr.mono (by decide)) rfl T.uq.mg T.uq.fn.kp T.uq.bd .nil aB (aa (pv 0) ae)))) ae)))) bu)
   (ag (bV (aI j6 (pv 4) aj (aT _)) (ag (ao (i:=6) jg.nd rfl (Or.inl rfl) (aV gQ (pv 1) (ak bU (hr.mono (by decide)) rfl T.gu.mg T.gu.fn.kp T.gu.bd .nil aB (aa (pv 0) (aa (aD aR rfl T.z_len W_ (aa (pv 1) ae)) ae))) (fun _ _=>rfl)))
   (ag (ao (i:=7) jg.nd rfl (Or.inl rfl) (aE gP (bO m8 (pv 2) dc (bK (pv 5))) (pv 6)))
   (ai (bV (aI (FQ K rfl) (pv 6) (dS (aa (ak fg (hr.mono (by decide)) rfl T.uq.mg T.uq.fn.kp T.uq.bd .nil aB (aa (aV gQ (pv 7) aj (fun _ _=>rfl)) ae)) (aa (ak fg (hr.mono (by decide)) rfl T.uq.mg T.uq.fn.kp T.uq.bd .nil aB (aa (aV gQ (bO m8 (pv 7) (bK (kx gO aj)) dc) aj (fun _ _=>rfl)) ae)) ae))) (by with_unfolding_all rfl)) (ai (aG (pv 7))) bu)))) bu)
   (ai (aG (ak lE (hr.mono (by decide)) rfl T.Fc.mg T.Fc.fn.kp T.Fc.bd .nil aB (aa (pv 0) (aa (pv 1) (aa (pv 3) ae))))))))))),?_⟩
 obtain ⟨b,y,w,top,rfl,hb,hy,EO,wG,BS,Mz,sw,p5,q⟩:=h
 have hs:(100000:Nat)<sizeLine:=by decide
 have MF:y.length<=sizeLine:=by omega
 have lK:w.length<=sizeLine:=by omega
 have qr:0<w.length:=SE.mpr sw.ne
 have lw: ∀c∈w,Lt c:=fun c hc=>hy.lt c (sw.bo c hc)
 refine ⟨_,rfl,b,5,rfl,hb,by decide,by decide,fun fm H1 Wr vy s1=>?_⟩
 refine ⟨_,rfl,_,rfl,w,rfl,lK,b,_,rfl,vy,by omega,by omega,fun at' H2 TY j7 s2=>?_⟩
 have qz:=s1.trans s2
 have Wu:at'<w.length:=by omega
 refine ⟨_,rfl,_,_,rfl,rfl,_,rfl,bS (fun f0=>?_) (fun f0=>?_)⟩
 ·have hlen:(cut w (some (at':Int)) none).length+(cut w none (some (at':Int))).length<=sizeLine:=by rw[eM,iQ,Xn,Xh];omega
  have Ks:cut w (some (at':Int)) none++cut w none (some (at':Int))=w.drop at'++w.take at':=by rw[eM,iQ]
  refine ⟨_,rfl,_,rfl,_,rfl,w,rfl,lK,_,rfl,_,rfl,_,rfl,w,rfl,lK,_,_,rfl,rfl,hlen,?_⟩
  rw[Ks]
  exact q _ _ (sw.dk (by omega)) (by rw[SD,Xn,Xh];omega) j7 qz
 ·refine ⟨_,rfl,_,_,rfl,rfl,_,rfl,bS (fun f1=>?_) (fun f1=>?_)⟩
  ·refine ⟨rfl,_,rfl,w,rfl,by omega,?_⟩
   rw[ze]
   refine fG (xs:=cg w.reverse) (fun i acc H'=>aq H2 H'/\acc=cg ((w.reverse.take i).map aC)) (by rw[aN,XA];omega) ⟨aq.refl H2,rfl⟩ ?_ ?_
   ·rintro i x acc H3 Nx hi hx hl ⟨s3,rfl⟩ nx
    obtain ⟨c,qj,rfl⟩:=dU hx
    refine ⟨trivial,fW ⟨_,rfl,c,rfl,lw c (Zw.mp (W9 qj)),nx _ _ (by simpa using hl) ⟨s3,?_⟩⟩⟩
    rw[cW, <-take_snoc qj,WI]
    rfl
   ·rintro acc H3 D hl ⟨s3,rfl⟩ hD
    refine ⟨D,(gv w).map fun c=>[c],rfl,rfl,bA.of ?_,?_,?_⟩
    ·rw[ah, <-dh,aN,Xo (SA _),YL]
     rfl
    ·rw[vE]
     unfold gv
     rw[XA,K4]
     omega
    ·rw[mV]
     exact q _ _ (sw.gv hy) (by rw[cj];omega) ((j7.same s3).same (aq.upd hD)) (qz.after (s3.trans (aq.upd hD)))
  ·refine ⟨_,rfl,_,_,rfl,rfl,_,rfl,bS (fun f2=>?_) (fun f2=>?_)⟩
   ·refine ⟨_,rfl,_,rfl,_,rfl,y,rfl,MF,b,_,rfl,j7,by omega,by omega,fun r H3 TQ qG s3=>?_⟩
    have EC:=qz.trans s3
    have hr:r<y.length:=by omega
    refine ⟨y,_,_,rfl,rfl,MF,bY (Jd hr),?_⟩
    have wJ:y[r]∈y:=Xp hr
    generalize y[r]=c at wJ ⊢
    have W6:=hy.lt c wJ
    have hlen:(cut w none (some (at':Int))).length+[c].length<=sizeLine:=by rw[eM,Xh];show _+1<=_;omega
    refine ⟨_,rfl,_,rfl,_,rfl,w,rfl,lK,_,rfl,_,_,rfl,rfl,hlen,?_⟩
    rw[eM]
    have Fd:(w.take at').length=at':=by rw[Xh];omega
    have OO:=sw.E7.take at'
    have KH: ∀a∈w.take at',a∈y:=fun a ha=>sw.bo a (Yn ha)
    generalize w.take at'=u at Fd OO KH ⊢
    have HN:(u++[c]).length=at'+1:=by rw[SD,Fd];rfl
    have OP:u++[c]≠[]:=by simp
    have T_: ∀a∈u++[c],a∈y:=fun a ha=>(WJ.mp ha).elim (KH a) fun g=>by rw[O8.mp g];exact wJ
    have g0:m6 (u++[c]) (0:Int)=some (rd (u++[c]) 0):=kS (by omega) (by omega)
    have Ph:cut (u++[c]) (some (-2)) none=(u++[c]).drop (at'+1 - 2):=by rw[JB,HN]
    have Se:((u++[c]).drop (at'+1 - 2)).length=at'+1 - (at'+1 - 2):=by rw[Xn,HN]
    have OQ:(u++[c]).drop (at'+1 - 2)≠[]:=fun z=>by rw[z]at Se;simp at Se;omega
    have g2:m6 ((u++[c]).drop (at'+1 - 2)) (0:Int)=some (rd ((u++[c]).drop (at'+1 - 2)) 0):=kS (by omega) (by omega)
    have Ua:=T_ _ (g5 OP 0)
    have Ub:=T_ _ (Zb (g5 OQ 0))
    have e0: ∀a,u.head? =some a->rd (u++[c]) 0=a:=fun a ha=>by
     have h1:=nR OP
     cases u with
     | nil=>cases ha
     | cons x r=>exact (Xa (h1.symm.trans (show (x::r++[c]).head? =some a from ha)))
    have e2: ∀a,u.getLast? =some a->rd ((u++[c]).drop (at'+1 - 2)) 0=a:=fun a ha=>by
     have h1:=nR OQ
     have JH:u≠[]:=fun z=>by rw[z]at ha;cases ha
     have nX:=SE.mpr JH
     rw[ZF, Yl,XG (by omega)]at h1
     rw[YQ, Fd]at ha
     rw[show at'+1 - 2+0=at' - 1 by omega]at h1
     exact Xa (h1.symm.trans ha)
    generalize rd (u++[c]) 0=x0 at g0 Ua e0
    generalize rd ((u++[c]).drop (at'+1 - 2)) 0=x2 at g2 Ub e2
    refine ⟨_,rfl,_,rfl,_,_,_,rfl,rfl,by omega,g0,_,rfl,hy.lt _ Ua,?_⟩
    refine ⟨_,rfl,_,rfl,_,rfl,u++[c],rfl,by omega,?_⟩
    rw[Ph]
    refine ⟨_,_,_,rfl,rfl,by rw[Se];omega,g2,_,rfl,hy.lt _ Ub,by show 2<=sizeLine;decide,fun p np=>?_⟩
    have Sf:=qG.ne np
    have P9:=EC.none np Sf
    refine ⟨p,_,rfl, .inl (bA.of ah),rfl,rfl,?_⟩
    have iv:=FU c (aC x0) (aC x2)
    rw[show (if true=true then !K3 (.str (S [c])) [.str (S [aC x0]), .str (S [aC x2])] else K3 (.str (S [c])) [.str (S [aC x0]), .str (S [aC x2])])=!(decide (c=aC x0)||decide (c=aC x2)) by rw[if_pos rfl,iv]]
    refine ⟨_,rfl,bS (fun f3=>?_) (fun f3=>?_)⟩
    ·have hn:c≠aC x0/\c≠aC x2:=by simpa using f3
     refine ⟨_,rfl,q (u++[c]) _ (SW.snoc hy OO KH wJ (fun a ha=>by rw[<-e2 a ha];exact hn.2) fun a ha=>by rw[<-e0 a ha];exact hn.1) (by omega) (qG.eh Sf) (EC.eh P9)⟩
    ·exact ⟨_,rfl,_,rfl,_,rfl,b,y,top,rfl,qG.eh Sf,hy,EO,wG,BS,Mz,fun l H4 hl Fe Ag s4=>q l H4 hl Fe Ag ((EC.eh P9).trans s4)⟩
   ·exact ⟨_,rfl,_,rfl,_,rfl,b,y,top,rfl,j7,hy,EO,wG,BS,Mz,fun l H3 hl Fe qG s3=>q l H3 hl Fe qG (qz.trans s3)⟩
theorem BK:bC P w K mg base eR 4 LQ Mt ["_law_box_here","_law_yard_here","_law_many","_law_top"] (rY K):=by
 have lE:=si (P:=P) (w:=w) (base:=base) T
 have bU:=gK (P:=P) (w:=w) (base:=base) T
 have Hg:=ER (P:=P) (w:=w) (base:=base) T
 refine T.PR.fn.ok jC (fun vs H Q E h=>yt h) (fun cx A outer s H vs Q E hr h=>?_)
 refine ⟨_,(ag (ao (i:=4) jC.nd rfl (Or.inl rfl) (dS (aa (ak lE (hr.mono (by decide)) rfl T.Fc.mg T.Fc.fn.kp T.Fc.bd .nil aB (aa (pv 0) (aa (pv 1) (aa (pv 3) ae)))) ae)))
   (ag (ck PassesOwn.never rfl (gx rfl T.z_range (aa (ak bU (hr.mono (by decide)) rfl T.gu.mg T.gu.fn.kp T.gu.bd .nil aB (aa (pv 0) (aa (pv 2) ae))) ae)) (aQ (i:=5) jC.nd rfl (Or.inl rfl)) (ag (ao (i:=6) jC.nd rfl (Or.inl rfl) (aV (bX K rfl) (pv 4) (ak bU (hr.mono (by decide)) rfl T.gu.mg T.gu.fn.kp T.gu.bd .nil aB (aa (pv 0) (aa (aD (a_ K rfl) rfl T.z_len W_ (aa (pv 4) ae)) ae))) (fun _ _=>rfl)))
   (ai (bV (aI j6 (ak bU (hr.mono (by decide)) rfl T.gu.mg T.gu.fn.kp T.gu.bd .nil aB (aa (pv 0) (aa aj ae))) aj (aT _)) (ai (da (bL K rfl Xs XR XQ de (pv 4) (aa (ak lE (hr.mono (by decide)) rfl T.Fc.mg T.Fc.fn.kp T.Fc.bd .nil aB (aa (pv 0) (aa (pv 1) (aa (pv 3) ae)))) ae)))) (ai (da (bL K rfl Xs XR XQ de (pv 4) (aa (ak Hg (hr.mono (by decide)) rfl T.PM.mg T.PM.fn.kp T.PM.bd .nil aB (aa (pv 0) (aa (pv 1) (aa (pv 6) (aa (pv 3) ae))))) ae))))))))
   (ai (aG (cI (dX K rfl) rfl T.z_tuple boot_tuple (aa (pv 4) ae)))))),?_⟩
 obtain ⟨b,y,many,top,rfl,hb,hy,EO,wG,K6,E5,BS,Mz,q⟩:=h
 have hs:(100000:Nat)<sizeLine:=by decide
 refine ⟨_,rfl,_,rfl,_,rfl,b,y,top,rfl,hb,hy,EO,wG,BS,by omega,fun w1 H1 Wv Ww vy s1=>?_⟩
 refine ⟨by show 1<=sizeLine;decide,fun t nt=>?_⟩
 have tb:t≠b:=vy.ne nt
 have Sg:=s1.none nt tb
 have OR:upd H1 t (.lst [.str (S w1)]) t=some (.lst (dI [w1])):=ah
 have j7:=vy.eh (o:= .lst [.str (S w1)]) tb
 have s2:=s1.eh (o:= .lst [.str (S w1)]) Sg
 generalize upd H1 t (.lst [.str (S w1)])=H2 at OR j7 s2 ⊢
 refine ⟨_,rfl,_,rfl,b,many,rfl,j7,by omega,by omega,fun r H3 hr qG s3=>?_⟩
 refine ⟨_,rfl,by omega,by omega,?_⟩
 rw[UA]
 have W7:r<many:=by omega
 refine fB (fun i σ H'=> ∃(ws:List (List Nat)) (kv ov:Option V),σ=[some (.ref b),some (.str (S y)),some (.int many),some (.int top),some (.ref t),kv,ov]/\H' t=some (.lst (dI ws))/\ws.length=i+1/\(∀w∈ws,SW y w/\w.length<=top)/\cf H' b/\aW b H H')
  ⟨[w1],none,none,rfl,s3 _ _ OR tb,rfl,fun w hw=>by rw[O8.mp hw];exact ⟨Wv,Ww⟩,qG,s2.trans s3⟩ ?_ ?_
 ·rintro i σ H4 hi ⟨ws,kv,ov,rfl,OS,Sh,OT,Ag,s4⟩
  refine ⟨_,rfl,_,rfl,_,rfl,t,_,rfl, .inl (bA.of OS),b,_,rfl,Ag,by rw[bD];omega,by rw[bD];omega,fun r5 H5 KD R8 s5=>?_⟩
  rw[bD]at KD
  have OU:r5<ws.length:=by omega
  refine ⟨t,_,_,_,rfl,rfl,bA.of (s5 _ _ OS tb),bY (gW OU),?_⟩
  obtain ⟨so,lo⟩:=OT _ (Xp OU)
  generalize ws[r5]=one at so lo ⊢
  refine ⟨_,rfl,b,3,rfl,R8,by decide,by decide,fun r6 H6 W8 Uc s6=>?_⟩
  have Qc:=s6 _ _ (s5 _ _ OS tb) tb
  have P_:=s4.trans (s5.trans s6)
  refine ⟨_,_,rfl,rfl,_,rfl,bS (fun f=>?_) (fun f=>?_)⟩
  ·refine ⟨_,rfl, .inl ⟨rfl,_,bA.of Qc⟩,_,rfl,_,rfl,_,rfl,b,y,top,rfl,Uc,hy,EO,wG,BS,by omega,fun w7 H7 Si Sj OM s7=>?_⟩
   refine ⟨t,dI ws,_,rfl,rfl,s7 _ _ Qc tb,by rw[bD];omega,?_⟩
   refine ⟨ws++[w7],_,_,rfl,by rw[ah,kL],by rw[SD,Sh];rfl,fun w hw=>?_,OM.eh tb,(P_.trans s7).eh Sg⟩
   rcases WJ.mp hw with g | g
   ·exact OT w g
   ·rw[O8.mp g];exact ⟨Si,Sj⟩
  ·refine ⟨_,rfl, .inl ⟨rfl,_,bA.of Qc⟩,_,rfl,_,rfl,_,rfl,_,rfl,b,y,one,top,rfl,Uc,hy,EO,wG,BS,by omega,so,lo,fun w7 H7 Si Sj OM s7=>?_⟩
   refine ⟨t,dI ws,_,rfl,rfl,s7 _ _ Qc tb,by rw[bD];omega,?_⟩
   refine ⟨ws++[w7],_,_,rfl,by rw[ah,kL],by rw[SD,Sh];rfl,fun w hw=>?_,OM.eh tb,(P_.trans s7).eh Sg⟩
   rcases WJ.mp hw with g | g
   ·exact OT w g
   ·rw[O8.mp g];exact ⟨Si,Sj⟩
 ·rintro σ H4 ⟨ws,kv,ov,rfl,OS,Sh,OT,Ag,s4⟩
  refine ⟨_,rfl,t,_,rfl, .inl ⟨bA.of OS,fun u nu=>?_⟩⟩
  have ub:u≠b:=Ag.ne nu
  have Ud:=s4.none nu ub
  exact q u ws _ Ud ub ah (by omega) (by omega) OT (Ag.eh ub) (s4.eh Ud)
theorem KI:bC P w K mg base eR 13 LU Mw ["_law_script"] (lO K):=by
 have KJ:=Hc (P:=P) (w:=w) (base:=base) T
 have Hh:=EG (P:=P) (w:=w) (base:=base) T
 have ES:=BJ (P:=P) (w:=w) (base:=base) T
 have ET:=BK (P:=P) (w:=w) (base:=base) T
 refine T.Vp.fn.ok uu (fun vs H Q E h=>Gg h) (fun cx A outer s H vs Q E hr h=>?_)
 refine ⟨_,(ag (ck PassesOwn.never rfl (gx rfl T.z_range (aa (aE bj aj (aD (a_ K rfl) rfl T.z_len W_ (aa (bO (iM K rfl) (pv 0) (bK aj) (bK aj)) ae))) ae)) (aQ (i:=1) uu.nd rfl (Or.inl rfl)) (ag (ao (i:=2) uu.nd rfl (Or.inl rfl) (ak KJ (hr.mono (by decide)) rfl T.PK.mg T.PK.fn.kp T.PK.bd .nil aB (aa (pv 0) (aa (pv 1) ae))))
   (ag (ao (i:=3) uu.nd rfl (Or.inl rfl) (ak Hh (hr.mono (by decide)) rfl T.PL.mg T.PL.fn.kp T.PL.bd .nil aB (aa (pv 2) (aa aj (aa aj ae)))))
   (ai (bV (BX (gM (ak ES (hr.mono (by decide)) rfl T.PU.mg T.PU.fn.kp T.PU.bd .nil aB (aa (pv 2) (aa (pv 3) (aa (ak ET (hr.mono (by decide)) rfl T.PR.mg T.PR.fn.kp T.PR.bd .nil aB (aa (pv 2) (aa (pv 3) (aa aj (aa aj ae))))) ae)))))) (ai (aG mN)) bu)))))
   (ai (aG mN))),?_⟩
 obtain ⟨a,ns,rfl,hS,hl,q⟩:=h
 have hs:(100000:Nat)<sizeLine:=by decide
 refine ⟨_,rfl,_,rfl,_,rfl,a,_,rfl,hS,fun p1 n1=>?_⟩
 have Rw:(lN (ns.map V.int) (some 2) (some 6)).length<=4:=by unfold lN;rw[Xh];exact Xt (Nat.min_le_left _ _) (by have e1: ∀n d:Nat,HT.hZ n d (some ((2:Nat):Int))=min 2 n:=fun n d=>HT.fV _ _ _;have e2: ∀n d:Nat,HT.hZ n d (some ((6:Nat):Int))=min 6 n:=fun n d=>HT.fV _ _ _;show HT.hZ _ _ (some ((6:Nat):Int)) - HT.hZ _ _ (some ((2:Nat):Int))<=4;rw[e1,e2];omega)
 refine ⟨p1,_,rfl, .inl (bA.of ah),_,_,rfl,rfl,?_⟩
 have s1:=aq.upd (o:= .lst (lN (ns.map V.int) (some 2) (some 6))) n1
 generalize (lN (ns.map V.int) (some 2) (some 6)).length=m at Rw ⊢
 generalize upd H p1 (.lst (lN (ns.map V.int) (some 2) (some 6)))=H1 at s1 ⊢
 refine ⟨_,rfl,by omega,by omega,?_⟩
 rw[show ((2:Int)+(m:Int)).toNat=2+m by omega]
 refine fB (fun i σ H'=> ∃v1 v2 v3:Option V,σ=[some (.ref a),v1,v2,v3]/\aq H H') ⟨none,none,none,rfl,s1⟩ ?_ ?_
 ·rintro i σ H2 hi ⟨v1,v2,v3,rfl,s2⟩
  refine ⟨_,rfl,_,rfl,a,ns,i,by rw[Y5];rfl,s2.seq hS,by omega,fun b H3 nb bx s3=>?_⟩
  refine ⟨_,rfl,b,1,4,rfl,bx,by decide,by decide,by decide,fun y H4 hy EO wG Wx s4=>?_⟩
  refine ⟨_,rfl,_,rfl,_,rfl,_,rfl,b,y,4,10,rfl,Wx,hy,by omega,by omega,by decide,by decide,by decide,by decide,fun t ws H5 nt tb ht Ff Oo ME Wy s5=>?_⟩
  refine ⟨b,y,t,ws,rfl,Wy,hy,by omega,by omega,tb,ht,Ff,Oo,ME,fun H6 s6=>?_⟩
  refine ⟨_,rfl,xG rfl ?_⟩
  exact ⟨_,_,_,rfl,s2.trans (aW.same nb s3 (s4.trans (s5.trans s6)))⟩
 ·rintro σ H2 ⟨v1,v2,v3,rfl,s2⟩
  exact q H2
end
theorem bW {M:List Value->Prop} (h:M []): ∀us:List Value,us.length=0->M us
 | [],_=>h
theorem aM {M:List Value->Prop} {n:Nat} (h: ∀(a:Value) (us:List Value),us.length=n->M (a::us)): ∀us:List Value,us.length=n+1->M us
 | a::us,e=>h a us (Nat.succ.inj e)
def Dn (K:PySem.W.Frag) (x:Str) (st:Stmt) (f:Addr) (fd:FuncData):Prop:=PySem.W.nsIn K mainGlobals x=some (some (.ref f))/\FC K x x st f fd
theorem dn {K:PySem.W.Frag} {x:Str} {st:Stmt} {f:Addr} {oc:Value} {od an:Option Addr} {E1:Array (Option Value)} {kV doc pm cx ct:Value} (a:PySem.W.nsIn K mainGlobals x=some (some (.ref f))) (l:K.lookup f=some ⟨oc,od, .func (PySem.W.fnOf x x (fu st) (eQ st) (au st) .none kV doc pm an cx ct),E1⟩) (c:PySem.W.codeIn K cx x=true) (k:PySem.W.keepIn K (.ref f)=true):Dn K x st f (PySem.W.fnOf x x (fu st) (eQ st) (au st) .none kV doc pm an cx ct):=⟨a,xj l c k⟩
theorem fS {K:PySem.W.Frag} {h:Heap} {mg:Str->Option Value} {x:Str} {st:Stmt} {f:Addr} {fd:FuncData} {ps:List Str} (X:K.In h) (G:h.Ns mainGlobals mg) (a:Dn K x st f fd) (b: ∀(kV doc pm:Value) (an:Option Addr) (cx ct:Value) (us:List Value),us.length=ps.length->bindArgs (PySem.W.fnOf x x (fu st) (eQ st) (au st) .none kV doc pm an cx ct) ⟨us,[]⟩=pure (ps.zip us)):bf K mg x st ps f fd:=⟨a.2,ZP X G a.1,a.2.binds b⟩
theorem all_mk {l:PySem.W.OpenLaw} {w:World} {K:PySem.W.Frag} {h:Heap} {mg:Str->Option Value} {fa f0 f1 f2 f3 f4 f5 f6 f7 f8 f9 Lj Lk Ll Lm Ln Lo Lp Lq Lr Eu Ew Ls Lu Lv Lw Ly Lz LA LB LC LD LF LG LH LI LJ LK LL LM LN LO LP LQ LR LS LU aO aY jT gs:Addr} (X:K.In h) (G:h.Ns mainGlobals mg) (Pj:mg "law"=some (.ref fa))
  {d0 d1 d2 d3 d4 d5 d6 d7 d8 d9 LV LW LX LY LZ L0 L1 L3 L4 L5 L6 L7 L8 L_ Ma Mb Mc Md Me Mf Mg Mh Mi Mj Ml Mm Mn Mo Mp Mq Mr Ms Mt Mu Mv Mw:FuncData}
  {KL KN Hi Hj:Option Addr} {KO Hk:Array (Option Value)} {KP KQ KR KS EU KU Hl Hm Hn Ho Ah Hq:Value}
  (a0:Dn K "contrary" kf f0 d0)
  (a1:Dn K "turned" pE f1 d1)
  (a2:Dn K "bands" ui f2 d2)
  (a3:Dn K "steps_round" gk f3 d3)
  (a4:Dn K "within" pH f4 d4)
  (a5:Dn K "strands_at" g8 f5 d5)
  (a6:Dn K "points" pJ f6 d6)
  (a7:Dn K "corner_points" fk f7 d7)
  (a8:Dn K "corners" mD f8 d8)
  (a9:Dn K "chord_starts" fN f9 d9)
  (a10:Dn K "number_in" jd Lj LV)
  (a11:Dn K "count_meetings" eO Lk LW)
  (a12:Dn K "strands_in" g9 Ll LX)
  (a13:Dn K "corner_ends" gm Lm LY)
  (a14:Dn K "shortened" je Ln LZ)
  (a15:Dn K "shortest" kg Lo L0)
  (a16:Dn K "ring" yx Lp L1)
  (a17:Dn K "root" yy Lq L3)
  (a18:Dn K "corner_steps" fO Lr L4)
  (a19:Dn K "steps_ahead" gn Eu L5)
  (a20:Dn K "steps_back" g_ Ew L6)
  (a21:Dn K "parting" mE Ls L7)
  (a22:Dn K "side_of" mF Lu L8)
  (a23:Dn K "comes_ahead" gp Lv L_)
  (a24:Dn K "number_among" fP Lw Ma)
  (a25:Dn K "seen_strand" gq Ly Mb)
  (a26:Dn K "taut_order" hJ Lz Mc)
  (a27:Dn K "taut" yz LA Md)
  (a28:Dn K "least" uj LB Me)
  (a29:Dn K "own" Es LC Mf)
  (a30:Dn K "between" mG LD Mg)
  (a31:Dn K "next_end" kh LF Mh)
  (a32:Dn K "rim_behind" hU LG Mi)
  (a33:Dn K "rims" yA LH Mj)
  (a34:Dn K "_law_box" yB LI Ml)
  (a35:Dn K "_law_take" uk LJ Mm)
  (a36:Dn K "_law_other" pK LK Mn)
  (a37:Dn K "_law_yard" um LL Mo)
  (a38:Dn K "_law_short" pL LM Mp)
  (a39:Dn K "_law_near" uo LN Mq)
  (a40:Dn K "_law_order" pM LO Mr)
  (a41:Dn K "_law_bands" pN LP Ms)
  (a42:Dn K "_law_words" pQ LQ Mt)
  (a43:Dn K "_law_apart" pR LR Mu)
  (a44:Dn K "_law_right" pT LS Mv)
  (a45:Dn K "law" Et LU Mw)
  (q_Seen:PySem.W.nsIn K mainGlobals "Seen"=some (some (.ref aO)))
  (pg_Seen:PySem.W.plainGet K aO Str.empty=true)
  (hd_Seen:PySem.W.hasDictIn K aO=true)
  (po_Seen:PySem.W.plainOver K aO=true)
  (sa_Seen:PySem.W.findIn K (.ref aO) "__setattr__"=some (some (.builtin "object.__setattr__")))
  (n_Seen_strand:PySem.W.findIn K (.ref aO) "strand"=some none)
  (n_Seen_way:PySem.W.findIn K (.ref aO) "way"=some none)
  (n_Seen_place:PySem.W.findIn K (.ref aO) "place"=some none)
  (q_Way:PySem.W.nsIn K mainGlobals "Way"=some (some (.ref aY)))
  (pg_Way:PySem.W.plainGet K aY Str.empty=true)
  (hd_Way:PySem.W.hasDictIn K aY=true)
  (po_Way:PySem.W.plainOver K aY=true)
  (sa_Way:PySem.W.findIn K (.ref aY) "__setattr__"=some (some (.builtin "object.__setattr__")))
  (n_Way_size:PySem.W.findIn K (.ref aY) "size"=some none)
  (n_Way_root_size:PySem.W.findIn K (.ref aY) "root_size"=some none)
  (n_Way_leads:PySem.W.findIn K (.ref aY) "leads"=some none)
  (n_Way_onward:PySem.W.findIn K (.ref aY) "onward"=some none)
  (n_Way_backward:PySem.W.findIn K (.ref aY) "backward"=some none)
  (mk_Way:PySem.W.makesIn K aY=true)
  (qi_Way:PySem.W.findIn K (.ref aY) "__init__"=some (some (.ref jT)))
  (fi_Way:PySem.W.isFn K (.ref jT)=true)
  (kc_Way:PySem.W.keepIn K (.ref aY)=true)
  (li_Way:K.lookup jT=some ⟨KP,KL, .func (PySem.W.fnOf "__init__" "Way.__init__" (fu jy) (eQ jy) (au jy) .none KQ KR KS KN EU KU),KO⟩)
  (ci_Way:PySem.W.codeIn K EU "Way.__init__"=true)
  (ki_Way:PySem.W.keepIn K (.ref jT)=true)
  (mk_Seen:PySem.W.makesIn K aO=true)
  (qi_Seen:PySem.W.findIn K (.ref aO) "__init__"=some (some (.ref gs)))
  (fi_Seen:PySem.W.isFn K (.ref gs)=true)
  (kc_Seen:PySem.W.keepIn K (.ref aO)=true)
  (li_Seen:K.lookup gs=some ⟨Hl,Hi, .func (PySem.W.fnOf "__init__" "Seen.__init__" (fu gH) (eQ gH) (au gH) .none Hm Hn Ho Hj Ah Hq),Hk⟩)
  (ci_Seen:PySem.W.codeIn K Ah "Seen.__init__"=true)
  (ki_Seen:PySem.W.keepIn K (.ref gs)=true)
  (z_all:PySem.W.nsIn K mainGlobals "all"=some none)
  (z_enumerate:PySem.W.nsIn K mainGlobals "enumerate"=some none)
  (z_int:PySem.W.nsIn K mainGlobals "int"=some none)
  (z_len:PySem.W.nsIn K mainGlobals "len"=some none)
  (z_list:PySem.W.nsIn K mainGlobals "list"=some none)
  (z_max:PySem.W.nsIn K mainGlobals "max"=some none)
  (z_min:PySem.W.nsIn K mainGlobals "min"=some none)
  (z_range:PySem.W.nsIn K mainGlobals "range"=some none)
  (z_reversed:PySem.W.nsIn K mainGlobals "reversed"=some none)
  (z_sorted:PySem.W.nsIn K mainGlobals "sorted"=some none)
  (z_str:PySem.W.nsIn K mainGlobals "str"=some none)
  (z_tuple:PySem.W.nsIn K mainGlobals "tuple"=some none):
  ∃fd:FuncData,(∀(s:Shared) (v:Value),BindsTo s fd ⟨[v],[]⟩ [("_law_script",v)])/\ ∀base:Heap,K.In base->base.Ns mainGlobals mg->bC l.prog w K mg base eR 13 fa fd ["_law_script"] (lO K):=by
 have e:=Pj.symm.trans (ZP X G a45.1)
 cases e
 obtain ⟨_,_,_,_,_,_,_,_,_,rfl,_⟩:=a45.2.ex
 have EV:=xj (st:=jy) li_Way ci_Way ki_Way
 have KW:=EV.binds (ps:=["self","yard","word","longest"]) fun _ _ _ _ _ _=>aM fun _=>aM fun _=>aM fun _=>aM fun _=>bW rfl
 have Ai:=xj (st:=gH) li_Seen ci_Seen ki_Seen
 have Hr:=Ai.binds (ps:=["self","strand","way","place"]) fun _ _ _ _ _ _=>aM fun _=>aM fun _=>aM fun _=>aM fun _=>bW rfl
 have T:Txt K mg _ _ _ _ _ _ _ _ _ _ _ _ _ _ _ _ _ _ _ _ _ _ _ _ _ _ _ _ _ _ _ _ _ _ _ _ _ _ _ _ _ _ _ _ _ _ _ _ _ _ _ _ _ _ _ _ _ _ _ _ _ _ _ _ _ _ _ _ _ _ _ _ _ _ _ _ _ _ _ _ _ _ _ _ _ _ _ _ _ _ _ _ _ _ _ _ _ _:=⟨fS X G a0 fun _ _ _ _ _ _=>aM fun _=>bW rfl,fS X G a1 fun _ _ _ _ _ _=>aM fun _=>bW rfl,fS X G a2 fun _ _ _ _ _ _=>aM fun _=>bW rfl,fS X G a3 fun _ _ _ _ _ _=>aM fun _=>aM fun _=>aM fun _=>bW rfl,fS X G a4 fun _ _ _ _ _ _=>aM fun _=>aM fun _=>bW rfl,fS X G a5 fun _ _ _ _ _ _=>aM fun _=>aM fun _=>aM fun _=>bW rfl,fS X G a6 fun _ _ _ _ _ _=>aM fun _=>aM fun _=>bW rfl,fS X G a7 fun _ _ _ _ _ _=>aM fun _=>aM fun _=>aM fun _=>bW rfl,fS X G a8 fun _ _ _ _ _ _=>aM fun _=>aM fun _=>bW rfl,fS X G a9 fun _ _ _ _ _ _=>aM fun _=>bW rfl,fS X G a10 fun _ _ _ _ _ _=>aM fun _=>aM fun _=>bW rfl,fS X G a11 fun _ _ _ _ _ _=>aM fun _=>bW rfl,fS X G a12 fun _ _ _ _ _ _=>aM fun _=>aM fun _=>bW rfl,fS X G a13 fun _ _ _ _ _ _=>aM fun _=>aM fun _=>bW rfl,fS X G a14 fun _ _ _ _ _ _=>aM fun _=>bW rfl,fS X G a15 fun _ _ _ _ _ _=>aM fun _=>bW rfl,fS X G a16 fun _ _ _ _ _ _=>aM fun _=>bW rfl,fS X G a17 fun _ _ _ _ _ _=>aM fun _=>bW rfl,fS X G a18 fun _ _ _ _ _ _=>aM fun _=>aM fun _=>aM fun _=>bW rfl,fS X G a19 fun _ _ _ _ _ _=>aM fun _=>aM fun _=>aM fun _=>bW rfl,fS X G a20 fun _ _ _ _ _ _=>aM fun _=>aM fun _=>aM fun _=>bW rfl,fS X G a21 fun _ _ _ _ _ _=>aM fun _=>aM fun _=>aM fun _=>aM fun _=>bW rfl,fS X G a22 fun _ _ _ _ _ _=>aM fun _=>bW rfl,fS X G a23 fun _ _ _ _ _ _=>aM fun _=>aM fun _=>bW rfl,fS X G a24 fun _ _ _ _ _ _=>aM fun _=>aM fun _=>bW rfl,fS X G a25 fun _ _ _ _ _ _=>aM fun _=>aM fun _=>aM fun _=>bW rfl,fS X G a26 fun _ _ _ _ _ _=>aM fun _=>aM fun _=>aM fun _=>bW rfl,fS X G a27 fun _ _ _ _ _ _=>aM fun _=>aM fun _=>bW rfl,fS X G a28 fun _ _ _ _ _ _=>aM fun _=>aM fun _=>bW rfl,fS X G a29 fun _ _ _ _ _ _=>aM fun _=>aM fun _=>bW rfl,fS X G a30 fun _ _ _ _ _ _=>aM fun _=>aM fun _=>aM fun _=>bW rfl,fS X G a31 fun _ _ _ _ _ _=>aM fun _=>aM fun _=>bW rfl,fS X G a32 fun _ _ _ _ _ _=>aM fun _=>aM fun _=>bW rfl,fS X G a33 fun _ _ _ _ _ _=>aM fun _=>bW rfl,fS X G a34 fun _ _ _ _ _ _=>aM fun _=>aM fun _=>bW rfl,fS X G a35 fun _ _ _ _ _ _=>aM fun _=>aM fun _=>bW rfl,fS X G a36 fun _ _ _ _ _ _=>aM fun _=>bW rfl,fS X G a37 fun _ _ _ _ _ _=>aM fun _=>aM fun _=>aM fun _=>bW rfl,fS X G a38 fun _ _ _ _ _ _=>aM fun _=>aM fun _=>aM fun _=>bW rfl,fS X G a39 fun _ _ _ _ _ _=>aM fun _=>aM fun _=>aM fun _=>aM fun _=>bW rfl,fS X G a40 fun _ _ _ _ _ _=>aM fun _=>aM fun _=>bW rfl,fS X G a41 fun _ _ _ _ _ _=>aM fun _=>bW rfl,fS X G a42 fun _ _ _ _ _ _=>aM fun _=>aM fun _=>aM fun _=>aM fun _=>bW rfl,fS X G a43 fun _ _ _ _ _ _=>aM fun _=>aM fun _=>aM fun _=>bW rfl,fS X G a44 fun _ _ _ _ _ _=>aM fun _=>aM fun _=>aM fun _=>bW rfl,fS X G a45 fun _ _ _ _ _ _=>aM fun _=>bW rfl,ZP X G q_Seen,⟨pg_Seen,hd_Seen,po_Seen,sa_Seen⟩,n_Seen_strand,n_Seen_way,n_Seen_place,ZP X G q_Way,⟨pg_Way,hd_Way,po_Way,sa_Way⟩,n_Way_size,n_Way_root_size,n_Way_leads,n_Way_onward,n_Way_backward,⟨mk_Way,qi_Way,fi_Way,kc_Way⟩,EV,KW,⟨mk_Seen,qi_Seen,fi_Seen,kc_Seen⟩,Ai,Hr,XO X G z_all,XO X G z_enumerate,XO X G z_int,XO X G z_len,XO X G z_list,XO X G z_max,XO X G z_min,XO X G z_range,XO X G z_reversed,XO X G z_sorted,XO X G z_str,XO X G z_tuple⟩
 exact ⟨_,fun s v=> .of_eq rfl,fun base _ _=>KI T⟩
theorem walk {l:PySem.W.OpenLaw} {q:Program} {loose:List Str} {XP:(Str->Option Value)->Heap->Prop} {YP:World->Heap->Prop} {d:DefRec} {K:Params->PySem.W.Frag} (hn:l.most=some 63) (Nu:d.params.defaults=[])
  (hY: ∀(w:World) (h:Heap),YP w h->(K w.params).In h)
  (F: ∀(w:World) (mg:Str->Option Value) (fa:Addr) (h:Heap),(K w.params).In h->h.Ns mainGlobals mg->mg d.name=some (.ref fa)->
   ∃fd:FuncData,(∀(s:Shared) (u:Value),BindsTo s fd ⟨[u],[]⟩ [("_law_script",u)])/\ ∀base:Heap,(K w.params).In base->base.Ns mainGlobals mg->bC l.prog w (K w.params) mg base eR 13 fa fd ["_law_script"] (lO (K w.params))):
  PySem.W.WalkO q loose XP YP l.row.toRowW d [] (fun f vs=>PySem.call f vs):=
 L2.yU (n:=63) (k:=13) (x:="_law_script") (CX:=fun _=>eR) (sp:=fun w=>lO (K w.params)) hn (by decide) Nu ⟨rfl,by decide,by decide,rfl⟩ hY F (fun _ _ a ns hl _ hS=>⟨a,ns,rfl,hS,hl,fun _=>rfl⟩) fun _ _ _ _ _ z=>z
end My
namespace PySem.W.Fast
def tw1001045083957000435:=Nat
def tw10184742046727810330:=Nat
def tw10512329028687755081:=Nat
def tw10534141287477439334:=Nat
def tw10540842471499832803:=Nat
def tw10835709946993454374:=Nat
def tw10864931740849968568:=Nat
def tw10968467028528405069:=Nat
def tw11119754051096498312:=Nat
def tw11159499181280482571:=Nat
def tw11234060283566411267:=Nat
def tw1128634355116435663:=Nat
def tw11336301010688129901:=Nat
def tw11436116001405540221:=Nat
def tw11452767765310204423:=Nat
def tw11580613719899860457:=Nat
def tw1166609674907474714:=Nat
def tw11697986181298070797:=Nat
def tw11775511321335778236:=Nat
def tw11846122361060720141:=Nat
def tw11846331073621596381:=Nat
def tw12112656569938750562:=Nat
def tw1229179829910481086:=Nat
def tw12336030540050927030:=Nat
def tw12389840840577768960:=Nat
def tw12534770539507171645:=Nat
def tw12863319908743165594:=Nat
def tw12877048958844581780:=Nat
def tw12958379301010348572:=Nat
def tw12968158721969725539:=Nat
def tw13164292042340949571:=Nat
def tw13296020424058752295:=Nat
def tw13472728989057557646:=Nat
def tw13546840499165439513:=Nat
def tw13781503904072591610:=Nat
def tw13968736317330097017:=Nat
def tw14004896323717975194:=Nat
def tw14032506977386929998:=Nat
def tw14084761800812072114:=Nat
def tw14136543869428006450:=Nat
def tw14207648787992943341:=Nat
def tw14251742071917167668:=Nat
def tw14278357660746811853:=Nat
def tw14350886617628487810:=Nat
def tw14385516866452581444:=Nat
def tw14586124327641418662:=Nat
def tw14652251209176856556:=Nat
def tw1476664502022897082:=Nat
def tw14812644343893115615:=Nat
def tw14815523442830638881:=Nat
def tw1485460167899803285:=Nat
def tw14899950303092659371:=Nat
def tw15115346834949518223:=Nat
def tw15287498279214630759:=Nat
def tw15318454140285657358:=Nat
def tw15359885528087113988:=Nat
def tw15441364285478829042:=Nat
def tw15543037376206326031:=Nat
def tw15557012043748274693:=Nat
def tw15580217714287186215:=Nat
def tw15601313292776864319:=Nat
def tw15745916099912350037:=Nat
def tw15776681178858339756:=Nat
def tw15840571349628270349:=Nat
def tw15887680075178555810:=Nat
def tw16109027271643378494:=Nat
def tw16238165695472709133:=Nat
def tw16344717474457012663:=Nat
def tw16385093894049037091:=Nat
def tw16534156656827195457:=Nat
def tw16550574406878431226:=Nat
def tw16557472096594244729:=Nat
def tw16628373495230828352:=Nat
def tw16770323993087454672:=Nat
def tw16895793331015800781:=Nat
def tw16949735626204839893:=Nat
def tw16992484141533516807:=Nat
def tw17032377918312134227:=Nat
def tw17042342257286379463:=Nat
def tw17051620884218259762:=Nat
def tw17260475812949064300:=Nat
def tw17405742815200998693:=Nat
def tw17516537547967910386:=Nat
def tw17538806206777190001:=Nat
def tw1769957277011928057:=Nat
def tw17809425638885411364:=Nat
def tw17845611318722861176:=Nat
def tw17859363047847755482:=Nat
def tw17911038479345383570:=Nat
def tw17956109733729262841:=Nat
def tw18010820972303721593:=Nat
def tw18013338856964929345:=Nat
def tw18111561761851165801:=Nat
def tw18125755861725241947:=Nat
def tw18236688769277794274:=Nat
def tw1999843961645688065:=Nat
def tw2136266020861685566:=Nat
def tw2266180009123394549:=Nat
def tw2268673633868565352:=Nat
def tw2276538595542973095:=Nat
def tw2358888047304629034:=Nat
def tw2573910800484860097:=Nat
def tw2622735236479089902:=Nat
def tw2649693083385935844:=Nat
def tw2677041052287630961:=Nat
def tw2798884679735731508:=Nat
def tw2816985703839232316:=Nat
def tw2897226612735693874:=Nat
def tw2932126403655421975:=Nat
def tw2971052042931197272:=Nat
def tw3020358470988216507:=Nat
def tw3051414072473159890:=Nat
def tw3085930659237970658:=Nat
def tw3140666955437826024:=Nat
def tw3169772931049317376:=Nat
def tw3179732240842628788:=Nat
def tw3184050956506145719:=Nat
def tw3283318340741450646:=Nat
def tw3296484867919568731:=Nat
def tw3579545482996520875:=Nat
def tw3587467998052362125:=Nat
def tw3641667901490160943:=Nat
def tw3691873602987628830:=Nat
def tw3717809730326547527:=Nat
def tw3764690972996936062:=Nat
def tw3792906981024969760:=Nat
def tw3797493391632069992:=Nat
def tw3982321460540066053:=Nat
def tw4081617013312998833:=Nat
def tw4348505135037803096:=Nat
def tw4387087812406227873:=Nat
def tw4476923249818828811:=Nat
def tw4613317805766337964:=Nat
def tw4614509938447562092:=Nat
def tw4713149973122561680:=Nat
def tw48571669578476819:=Nat
def tw496935165443473885:=Nat
def tw5255600539001569704:=Nat
def tw5282599549511564100:=Nat
def tw5358002249990957371:=Nat
def tw5438404715926312274:=Nat
def tw5469684368269553719:=Nat
def tw5501801407103615922:=Nat
def tw5559960874607056874:=Nat
def tw5723797196651524086:=Nat
def tw5769084245842947469:=Nat
def tw5783815689338224568:=Nat
def tw5908606293129787590:=Nat
def tw6142180995767198899:=Nat
def tw6177784462342539419:=Nat
def tw6180774070608828713:=Nat
def tw6202348634796282902:=Nat
def tw6215992929547658493:=Nat
def tw6238606812904780182:=Nat
def tw6358574729872329824:=Nat
def tw6410877592787842280:=Nat
def tw6541984241799533972:=Nat
def tw6666798833456396040:=Nat
def tw6687712942889437209:=Nat
def tw6788578750914430139:=Nat
def tw6843128122323146651:=Nat
def tw685116834665014388:=Nat
def tw6951780584890626080:=Nat
def tw6982838030655075586:=Nat
def tw6993362123799630031:=Nat
def tw7055145559698733287:=Nat
def tw7080951711634650535:=Nat
def tw711467041049287428:=Nat
def tw7387951376958649727:=Nat
def tw7402663988296420230:=Nat
def tw7447955696953456985:=Nat
def tw7513482587075146300:=Nat
def tw7516608752508269385:=Nat
def tw751830477010034877:=Nat
def tw7541991201118063019:=Nat
def tw7666326577524568266:=Nat
def tw7685182025259115175:=Nat
def tw7705431887016366573:=Nat
def tw7925390816460347755:=Nat
def tw8156628654123456178:=Nat
def tw8313650850868762372:=Nat
def tw8425578191037274383:=Nat
def tw8485443972551355366:=Nat
def tw8513230296114258154:=Nat
def tw8549714974563465705:=Nat
def tw8550421566455042021:=Nat
def tw86552054964978006:=Nat
def tw8781332410754211238:=Nat
def tw8793033141010227043:=Nat
def tw882305956741407938:=Nat
def tw910300551777038109:=Nat
def tw9298405181747921970:=Nat
def tw9382400000073625420:=Nat
def tw9412174274030197990:=Nat
def tw9681875141128584435:=Nat
def tw9694191353520552200:=Nat
def tw9736136749778178987:=Nat
def tw9741876789873062835:=Nat
def tw9897164128060651981:=Nat
def tw9908239851208534831:=Nat
end PySem.W.Fast
open PySem PySem.W PyProof.Rows
set_option maxRecDepth 100000 in
set_option maxHeartbeats 0 in
theorem PySem.Challenge.cw_mustmeet_k31_whole_rims_meet_nothing_holds : PySem.Challenge.rw_mustmeet_k31_whole_rims_meet_nothing.Holds := by
 w_on;o_law;k_head;(case hw=>w_witness2)
 k_fill
 refine My.walk (l:=PySem.Challenge.rw_mustmeet_k31_whole_rims_meet_nothing) rfl rfl (fun w h Y=>PySem.W.kIn_of Y) ?F
 case F=>
  intro w mg fa h KX G hmg
  refine' My.all_mk KX G hmg (My.dn ?a0 ?l0 ?c0 ?k0) (My.dn ?a1 ?l1 ?c1 ?k1) (My.dn ?a2 ?l2 ?c2 ?k2) (My.dn ?a3 ?l3 ?c3 ?k3) (My.dn ?a4 ?l4 ?c4 ?k4) (My.dn ?a5 ?l5 ?c5 ?k5) (My.dn ?a6 ?l6 ?c6 ?k6) (My.dn ?a7 ?l7 ?c7 ?k7) (My.dn ?a8 ?l8 ?c8 ?k8) (My.dn ?a9 ?l9 ?c9 ?k9) (My.dn ?a10 ?l10 ?c10 ?k10) (My.dn ?a11 ?l11 ?c11 ?k11) (My.dn ?a12 ?l12 ?c12 ?k12) (My.dn ?a13 ?l13 ?c13 ?k13) (My.dn ?a14 ?l14 ?c14 ?k14) (My.dn ?a15 ?l15 ?c15 ?k15) (My.dn ?a16 ?l16 ?c16 ?k16) (My.dn ?a17 ?l17 ?c17 ?k17) (My.dn ?a18 ?l18 ?c18 ?k18) (My.dn ?a19 ?l19 ?c19 ?k19) (My.dn ?a20 ?l20 ?c20 ?k20) (My.dn ?a21 ?l21 ?c21 ?k21) (My.dn ?a22 ?l22 ?c22 ?k22) (My.dn ?a23 ?l23 ?c23 ?k23) (My.dn ?a24 ?l24 ?c24 ?k24) (My.dn ?a25 ?l25 ?c25 ?k25) (My.dn ?a26 ?l26 ?c26 ?k26) (My.dn ?a27 ?l27 ?c27 ?k27) (My.dn ?a28 ?l28 ?c28 ?k28) (My.dn ?a29 ?l29 ?c29 ?k29) (My.dn ?a30 ?l30 ?c30 ?k30) (My.dn ?a31 ?l31 ?c31 ?k31) (My.dn ?a32 ?l32 ?c32 ?k32) (My.dn ?a33 ?l33 ?c33 ?k33) (My.dn ?a34 ?l34 ?c34 ?k34) (My.dn ?a35 ?l35 ?c35 ?k35) (My.dn ?a36 ?l36 ?c36 ?k36) (My.dn ?a37 ?l37 ?c37 ?k37) (My.dn ?a38 ?l38 ?c38 ?k38) (My.dn ?a39 ?l39 ?c39 ?k39) (My.dn ?a40 ?l40 ?c40 ?k40) (My.dn ?a41 ?l41 ?c41 ?k41) (My.dn ?a42 ?l42 ?c42 ?k42) (My.dn ?a43 ?l43 ?c43 ?k43) (My.dn ?a44 ?l44 ?c44 ?k44) (My.dn ?a45 ?l45 ?c45 ?k45) ?q_Seen ?pg_Seen ?hd_Seen ?po_Seen ?sa_Seen ?n_Seen_strand ?n_Seen_way ?n_Seen_place ?q_Way ?pg_Way ?hd_Way ?po_Way ?sa_Way ?n_Way_size ?n_Way_root_size ?n_Way_leads ?n_Way_onward ?n_Way_backward ?mk_Way ?qi_Way ?fi_Way ?kc_Way ?li_Way ?ci_Way ?ki_Way ?mk_Seen ?qi_Seen ?fi_Seen ?kc_Seen ?li_Seen ?ci_Seen ?ki_Seen ?z_all ?z_enumerate ?z_int ?z_len ?z_list ?z_max ?z_min ?z_range ?z_reversed ?z_sorted ?z_str ?z_tuple
  case a0|l0|c0|k0|a1|l1|c1|k1|a2|l2|c2|k2|a3|l3|c3|k3|a4|l4|c4|k4|a5|l5|c5|k5|a6|l6|c6|k6|a7|l7|c7|k7|a8|l8|c8|k8|a9|l9|c9|k9|a10|l10|c10|k10|a11|l11|c11|k11|a12|l12|c12|k12|a13|l13|c13|k13|a14|l14|c14|k14|a15|l15|c15|k15|a16|l16|c16|k16|a17|l17|c17|k17|a18|l18|c18|k18|a19|l19|c19|k19|a20|l20|c20|k20|a21|l21|c21|k21|a22|l22|c22|k22|a23|l23|c23|k23|a24|l24|c24|k24|a25|l25|c25|k25|a26|l26|c26|k26|a27|l27|c27|k27|a28|l28|c28|k28|a29|l29|c29|k29|a30|l30|c30|k30|a31|l31|c31|k31|a32|l32|c32|k32|a33|l33|c33|k33|a34|l34|c34|k34|a35|l35|c35|k35|a36|l36|c36|k36|a37|l37|c37|k37|a38|l38|c38|k38|a39|l39|c39|k39|a40|l40|c40|k40|a41|l41|c41|k41|a42|l42|c42|k42|a43|l43|c43|k43|a44|l44|c44|k44|a45|l45|c45|k45|q_Seen|pg_Seen|hd_Seen|po_Seen|sa_Seen|n_Seen_strand|n_Seen_way|n_Seen_place|q_Way|pg_Way|hd_Way|po_Way|sa_Way|n_Way_size|n_Way_root_size|n_Way_leads|n_Way_onward|n_Way_backward|mk_Way|qi_Way|fi_Way|kc_Way|li_Way|ci_Way|ki_Way|mk_Seen|qi_Seen|fi_Seen|kc_Seen|li_Seen|ci_Seen|ki_Seen|z_all|z_enumerate|z_int|z_len|z_list|z_max|z_min|z_range|z_reversed|z_sorted|z_str|z_tuple=>k_is
