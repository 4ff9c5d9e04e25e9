import PyProof.Rows.All
import Wide.All
import OpenK.AllK
import Wide.FinOn
import Lean
import PyProof.EqAt
import PyProof.EqKinds
import PyProof.TupleCall
import PySem.Challenge.RW_mustmeet_k30_whole_so_many_times_round
set_option Elab.async false
set_option linter.all false
set_option maxRecDepth 100000
open List renaming getElem?_eq_getElem→GJ,getElem?_eq_some_iff→GK,length_pos_iff→IC,length_map→Py,mem_singleton→PC,length_append→Rk,size_toArray→Rl,idxOf_lt_length_of_mem→Rm,map_append→Rn,getD_eq_getElem?_getD→Ro,mem_cons→T3,mem_cons_of_mem→T5,mem_cons_self→UA,length_take→UB,mem_of_getElem?→UC,getElem?_map→UI,map_cons→UK,mem_append_right→UM,mem_append→UO,not_mem_nil→UP,mem_map→UQ,take_of_length_le→UR,length_drop→US,filter_cons_of_neg→UT,length_reverse→UY,length_cons→U1,flatMap_cons→U2,filter_cons_of_pos→U3,nodup_cons→U4,mem_flatMap→U5,lookup_cons→U6,mem_filter→U7,getElem?_append_left→Va,getElem_mem→Vb,flatMap_append→Vc,drop_eq_getElem_cons→Vf,append_nil→Vh,map_map→Vj,length_eq_zero_iff→Vk,getElem?_append_right→Vl,pairwise_map→Vo,mem_range→Vp,range_succ→Vq,getElem_idxOf→Vt,nodup_append→Vw,drop_of_length_le→Vx,take_append_drop→Vz,take_length→VA,pairwise_cons→VI,getElem?_drop→VJ,getElem?_eq_none→VL,find?_cons→VM,pairwise_append→VN,append_assoc→VO,sum_cons→VP,filter_append→VT,any_cons→VX,flatten_cons→V1,mem_of_mem_take→V2,mem_append_left→V3,map_reverse→V7,pairwise_iff_getElem→V8,getElem?_take→Wb,eraseIdx_cons_succ→Wc,lt_irrefl→Wf,flatMap_singleton→Wg,drop_eq_nil_of_le→Wh,getElem?_reverse→Wm,eq_nil_of_length_eq_zero→Wq,forIn_cons→Wu,foldl_cons→Wv,map_congr_left→Wx,getElem_of_mem→Wy,getLast?_eq_getElem?→WE,length_range→WG,mem_reverse→WM,getElem_map→WN,all_eq_true→WO,length_filter_le→W4,cons_lt_cons_iff→W5,nodup_nil→W7,mem_of_mem_drop→W8,dropLast_concat→W9,replicate_succ→W_,filterMap_cons→Xa,map_take→Xd,map_drop→Xe,take_add_one→Xm,filter_congr→Xn,ext_getElem?→Xo,any_eq_false→Xp,flatMap_nil→Xw,map_id→Xz,of_mem_zip→XA
open Nat renaming le_refl→Mq,zero_le→T6,ne_of_lt→UJ,lt_of_lt_of_le→UN,le_trans→UW,lt_of_le_of_lt→UX,le_of_lt→U0,lt_irrefl→U_,min_eq_left→Vd,min_eq_right→Vn,mul_comm→VD,dvd_of_mod_eq_zero→VE,succ_le_succ→VF,mod_eq_of_lt→VG,lt_succ_self→VH,le_succ→VR,lt_or_gt_of_ne→VS,max_eq_left→VW,lt_succ_of_lt→V0,succ_mul→V4,max_eq_right→V5,lt_trans→V6,div_add_mod→V_,mod_lt→Wa,ne_of_gt→We,succ_ne_zero→Wn,div_le_self→Wt,lt_asymm→Wz,mul_le_mul→WB,succ_ne_self→WL,zero_add→WW,not_lt_zero→WZ,mod_add_div→W0,le_antisymm→W2,div_lt_iff_lt_mul→W3,le_of_dvd→Xc,mod_eq_sub_mod→Xj,zero_mul→Xk,add_comm→Xl,mul_pos→Xy
open PySem.Heap renaming get?_push_of_some→Pz,lt_size→UD,get?_push_size→UG,get?_update_other→U9,get?_update_self→Vu,size_push→Ws
open Int renaming toNat_natCast→PB,emod_eq_of_lt→UU,natCast_add→U8,emod_lt_of_pos→Vm,natCast_mul→Vr,emod_nonneg→Vs,zero_add→Vy,natCast_ediv→VQ,add_emod_right→VU,sub_zero→Wi,natCast_emod→Wo,emod_emod_of_dvd→Wr,natCast_nonneg→WC,add_mul_emod_self_left→WD,add_assoc→WK,add_zero→WX,emod_add_mul_ediv→W6,mul_assoc→Xg,sub_emod→Xr,mul_left_comm→Xs,mul_comm→Xt,emod_add_emod→Xu,add_comm→Xv,emod_self→XD
open PySem renaming boot_len→T4,mem_of_lookup→V9
open Option.some renaming inj→UE
open Bool renaming false_ne_true→UH,and_eq_true→Ve,false_eq_true→VV,eq_iff_iff→Ww,not_true→Xh,false_or→Xi,decide_and→XB,not_false→XC,or_false→XE
open PySem.F renaming plainAttrs_str→UL,plainAttrs_list→UZ,plain_max_loop→Vv,type_list_append→VB,slot_list_append→VC,type_str_join→VY,slot_str_join→VZ,type_list_pop→Wj,slot_list_pop→Wl,type_str_islower→WH,slot_str_islower→WI,type_str_lower→WR,type_str_index→WS,slot_str_lower→WT,slot_str_index→WU,entry_max_loop→WV
open PySem.W renaming mg_none_of→Vg,callWith_K→WA,mg_of→Xb
open PyProof.Rows renaming callWith_type1→Vi
open List.Pairwise renaming imp_of_mem→WJ,imp→Xq
open Array renaming toList_inj→WQ
open Option renaming map_some→WY
open Int.ofNat renaming inj→Xf
open PySem.Heap.SameBut renaming update→Xx
namespace L2
open PySem PySem.Spec PyProof.Rows
abbrev Key:=Sum Int Str
noncomputable def pE:Key->Value->Bool
 | .inl k,v=>Value.isInt k v
 | .inr x,v=>Value.isStrOf x v
noncomputable def Nb (w:World):Key->Int
 | .inl k=>hashInt k
 | .inr x=>hashStr w x
theorem bT: ∀{k:Key} {v:Value},pE k v=true->(∃i t,k=Sum.inl i/\v=Value.int i t)\/(∃x t,k=Sum.inr x/\v=Value.str x t)
 | .inl i,v,h=>by
  obtain ⟨t,e⟩:=Value.isInt_shape (k:=i) (v:=v) h
  exact .inl ⟨i,t,rfl,e⟩
 | .inr x,v,h=>by
  obtain ⟨t,e⟩:=Value.isStrOf_shape (x:=x) (v:=v) h
  exact .inr ⟨x,t,rfl,e⟩
theorem yv (i:Int) (t:Tok):pE (.inl i) (.int i t)=true:=by simp[pE,Value.isInt]
theorem yx (x:Str) (t:Tok):pE (.inr x) (.str x t)=true:=by simp[pE,Value.isStrOf]
theorem FP (a b:Int):decide ((Sum.inl a:Key)=Sum.inl b)=(a==b):=by
 by_cases e:a=b
 ·subst e;simp
 ·have h: ¬(Sum.inl a:Key)=Sum.inl b:=fun q=>e (Sum.inl.inj q)
  rw[decide_eq_false h]
  exact (beq_eq_false_iff_ne.mpr e).symm
theorem FQ (a b:Str):decide ((Sum.inr a:Key)=Sum.inr b)=decide (a=b):=by
 by_cases e:a=b
 ·subst e;simp
 ·have h: ¬(Sum.inr a:Key)=Sum.inr b:=fun q=>e (Sum.inr.inj q)
  rw[decide_eq_false h,decide_eq_false e]
theorem FR (a:Int) (b:Str):decide ((Sum.inl a:Key)=Sum.inr b)=false:=decide_eq_false (fun q=>nomatch q)
theorem FT (a:Str) (b:Int):decide ((Sum.inr a:Key)=Sum.inl b)=false:=decide_eq_false (fun q=>nomatch q)
noncomputable def b9 (prog:Program) (w:World):PySem.KeyKind prog w Key where
 is:=pE
 hash:=Nb w
 inj:=fun v a b ha hb=>by
  rcases bT ha with ⟨i,t,rfl,rfl⟩ | ⟨x,t,rfl,rfl⟩
  ·rcases bT hb with ⟨j,u,rfl,e⟩ | ⟨y,u,rfl,e⟩
   ·injection e with e1 _;rw[e1]
   ·exact nomatch e
  ·rcases bT hb with ⟨j,u,rfl,e⟩ | ⟨y,u,rfl,e⟩
   ·exact nomatch e
   ·injection e with e1 _;rw[e1]
 byValue:=fun k v h=>by
  rcases bT h with ⟨i,t,rfl,rfl⟩ | ⟨x,t,rfl,rfl⟩<;>rfl
 pyHash:=fun hv h=>by
  rcases bT hv with ⟨i,t,rfl,rfl⟩ | ⟨x,t,rfl,rfl⟩
  ·exact wpAny_pyHash_int h
  ·exact wpAny_pyHash_str h
 eqBool:=fun hu hv h=>by
  rcases bT hu with ⟨i,t,rfl,rfl⟩ | ⟨x,t,rfl,rfl⟩
  ·rcases bT hv with ⟨j,u,rfl,rfl⟩ | ⟨y,u,rfl,rfl⟩
   ·rw[FP]at h;exact wpAny_eqBool_int h
   ·rw[FR]at h;exact SeqAt.EqAt.int_str i t y u _ _ _ _ h
  ·rcases bT hv with ⟨j,u,rfl,rfl⟩ | ⟨y,u,rfl,rfl⟩
   ·rw[FT]at h;exact SeqAt.EqAt.str_int x t j u _ _ _ _ h
   ·rw[FQ]at h;exact wpAny_eqBool_str h
 «strs» :=fun k x t v h=>by
  rcases bT h with ⟨i,u,rfl,e⟩ | ⟨y,u,rfl,e⟩
  ·exact nomatch e
  ·injection e with e1 _
   subst e1
   cases v<;>rfl
theorem sU (prog:Program) (w:World) (i:Int) (t:Tok):(b9 prog w).is (.inl i) (.int i t)=true:=yv i t
theorem sV (prog:Program) (w:World) (x:Str) (t:Tok):(b9 prog w).is (.inr x) (.str x t)=true:=yx x t
inductive V where
 | fq | bl (b:Bool) | int (i:Int) | str (x:Str) | wZ (b:Array UInt8) | Md (b:UInt64) | ref (a:Addr) | ty (n:String)
 deriving DecidableEq
def RelV:V->Value->Prop
 | .fq,u=>u=Value.none
 | .bl b,u=>u=Value.bool b
 | .int i,u=> ∃t,u=Value.int i t
 | .str x,u=> ∃t,u=Value.str x t
 | .wZ b,u=> ∃t,u=Value.bytes b t
 | .Md b,u=> ∃t,u=Value.float b t
 | .ref a,u=>u=Value.ref a
 | .ty n,u=>u=Value.type n
abbrev Vals:List V->List Value->Prop:=Paired RelV
theorem Vals.length {xs:List V} {us:List Value} (r:Vals xs us):xs.length=us.length:=Paired.length r
theorem Vals.get: ∀{xs:List V} {us:List Value} {i:Nat} {x:V},Vals xs us->xs[i]? =some x-> ∃u,us[i]? =some u/\RelV x u
 | _,_,_,_, .nil,e=>by simp at e
 | _,_,0,_, .cons r _,e=>by simp at e;subst e;exact ⟨_,rfl,r⟩
 | _,_,i+1,x, .cons _ t,e=>by
  obtain ⟨u,h1,h2⟩:=Vals.get (i:=i) (x:=x) t (by simpa using e)
  exact ⟨u,by simpa using h1,h2⟩
theorem Vals.set {x:V} {u:Value} (r:RelV x u): ∀{xs:List V} {us:List Value} (i:Nat),Vals xs us->Vals (xs.set i x) (us.set i u)
 | _,_,_, .nil=> .nil
 | _,_,0, .cons _ t=> .cons r t
 | _,_,i+1, .cons q t=> .cons q (Vals.set r i t)
theorem Vals.append: ∀{xs ys:List V} {us ws:List Value},Vals xs us->Vals ys ws->Vals (xs++ys) (us++ws)
 | _,_,_,_, .nil,s=>s
 | _,_,_,_, .cons r t,s=> .cons r (Vals.append t s)
theorem Vals.take: ∀{xs:List V} {us:List Value} (n:Nat),Vals xs us->Vals (xs.take n) (us.take n)
 | _,_,0,_=> .nil
 | _,_,_+1, .nil=> .nil
 | _,_,n+1, .cons r t=> .cons r (Vals.take n t)
theorem Vals.drop: ∀{xs:List V} {us:List Value} (n:Nat),Vals xs us->Vals (xs.drop n) (us.drop n)
 | _,_,0,r=>r
 | _,_,_+1, .nil=> .nil
 | _,_,n+1, .cons _ t=>Vals.drop n t
def kB:Option V->Option Value->Prop
 | some v,some u=>RelV v u
 | none,none=>True
 | _,_=>False
def KV {κ:Type}:List (κ×V)->List (κ×Value)->Prop:=Paired fun (p:κ×V) (q:κ×Value)=>p.1=q.1/\RelV p.2 q.2
noncomputable def kV:Key->V
 | .inl i=> .int i
 | .inr x=> .str x
inductive HO where
  | lst (xs:List V)
  | tup (xs:List V)
  | dK (aK:List (Key×V)) | dT (aK:List (List Key×V))
  | set (S:Int->Bool) (n:Nat)
  | ins (C dx:Addr) (fs:List (Str×V))
  | own (x:Addr)
  | xd (fs:List (Str×V))
  | met (f x:Addr)
  | Nd (lo hi:Int)
  | CK (o:Obj) (u:HO)
  | FU (ps:Array Value)
  | ext (φ:Heap->Prop)
abbrev Hp:=Addr->Option HO
noncomputable def upd (H:Hp) (a:Addr) (o:HO):Hp:=fun b=>if b=a then some o else H b
theorem ag {H:Hp} {a:Addr} {o:HO}:upd H a o a=some o:=by unfold upd;rw[if_pos rfl]
theorem au {H:Hp} {a b:Addr} {o:HO} (h:b≠a):upd H a o b=H b:=by unfold upd;rw[if_neg h]
theorem J2 {H:Hp} {a b:Addr} {o u:HO} (h:H a=some o) (h':H b=some u) (d:o≠u):a≠b:=by
 intro e;subst e;rw[h]at h';exact d (UE h')
theorem aq {H:Hp} {a b:Addr} {o:HO} (h:H a=some o) (h':H b=none):a≠b:=by
 intro e;subst e;rw[h]at h';cases h'
section
variable (P:Program) (w:World)
def cD (H:Hp) (h:Heap) (a:Addr):HO->Prop
 | .lst xs=>xs.length<=sizeLine/\ ∃(aI:List Value) (n:Nat),Vals xs aI/\h.get? a=some { cls:= .type "list",data:= .seq aI.toArray n }
 | .tup xs=>xs.length<=sizeLine/\ ∃aI:List Value,Vals xs aI/\IsTup h a aI.toArray
 | .dK aK=>aK.length<=sizeLine/\(a==sysModules)=false/\ ∃vs,KV aK vs/\h.DictOf (b9 P w) a vs
 | .dT aK=>aK.length<=sizeLine/\(a==sysModules)=false/\ ∃xs:List (List Key×Addr×Value),
   Paired (fun (p:List Key×V) (q:List Key×Addr×Value)=>p.1=q.1/\H q.2.1=some (.tup (p.1.map kV))/\RelV p.2 q.2.2) aK xs/\
   ∃o es ep,h.get? a=some o/\o.ExactDict/\o.data= .dict es ep/\es.toList=xs.map (entryOfKey (tupleKind (b9 P w)))/\(xs.map (·.1)).Nodup
 | .set S n=>h.SetOf (intKind P w) a S n
 | .ins C dx fs=>H dx=some (.own a)/\fs.length<=1000/\dx≠a/\h.get? a=some (PySem.W.instObj C dx)/\
   ∃mA,h.Ns1 dx mA/\(∀f,kB (fs.lookup f) (mA f))/\PySem.Within mA (fs.map (·.1))
 | .own _=> ∃o,h.get? a=some o
 | .xd fs=> ∃mA,h.Ns1 a mA/\ ∀f,kB (fs.lookup f) (mA f)
 | .Nd lo hi=> ∃t u v,h.get? a=some { cls:= .type "range",data:= .fields #[.int lo t, .int hi u, .int 1 v] }
 | .CK o u=>h.get? a=some o/\cD H h a u
 | .FU ps=>h.get? a=some { cls:= .none,data:= .fields ps }
 | .met f x=>h.get? a=some (PySem.W.methodObj (.ref f) (.ref x))
 | .ext φ=>φ h/\(∃o,h.get? a=some o)/\ ∀h1 h2:Heap,φ h1->(∀o,h1.get? a=some o->h2.get? a=some o)->φ h2
def jl (H:Hp) (h:Heap):Prop:= ∀a o,H a=some o->cD P w H h a o
end
section
variable {P:Program} {w:World} {H H':Hp} {h h':Heap} {a:Addr} {o:HO}
theorem cD.lt (x:cD P w H h a o):a<h.objs.size:=by
 cases o with
 | lst xs=>obtain ⟨_,_,_,_,e⟩:=x;exact UD e
 | tup xs=>obtain ⟨_,_,_,p⟩:=x;exact p.lt
 | dK aK=>obtain ⟨_,_,_,_,o,_,_,e,_⟩:=x;exact UD e
 | dT aK=>obtain ⟨_,_,_,_,o,_,_,e,_⟩:=x;exact UD e
 | set S n=>obtain ⟨o,_,_,_,e,_⟩:=x;exact UD e
 | ins C dx fs=>obtain ⟨_,_,_,e,_⟩:=x;exact UD e
 | own y=>obtain ⟨_,e⟩:=x;exact UD e
 | xd fs=>obtain ⟨_,⟨_,_,_,e,_⟩,_⟩:=x;exact UD e
 | Nd lo hi=>obtain ⟨_,_,_,e⟩:=x;exact UD e
 | CK ob u=>obtain ⟨e,_⟩:=x;exact UD e
 | FU ps=>exact UD (show h.get? a=some _ from x)
 | met f y=>exact UD (show h.get? a=some _ from x)
 | ext φ=>obtain ⟨_,⟨_,e⟩,_⟩:=x;exact UD e
theorem Paired.FV {α β:Type} {F G:α->β->Prop}: ∀{l₁:List α} {l₂:List β},Paired F l₁ l₂->(∀a b,F a b->G a b)->Paired G l₁ l₂
 | _,_, .nil,_=> .nil
 | _,_, .cons r t,f=> .cons (f _ _ r) (Paired.FV t f)
theorem cD.sW (x:cD P w H h a o) (k: ∀b u,(b=a\/H b=some (.own a))->h.get? b=some u->h'.get? b=some u)
  (ho: ∀b,H b=some (.own a)->H' b=some (.own a)) (ht: ∀b xs,H b=some (.tup xs)->H' b=some (.tup xs)):cD P w H' h' a o:=by
 induction o with
 | lst xs=>obtain ⟨z,aI,n,r,e⟩:=x;exact ⟨z,aI,n,r,k _ _ (.inl rfl) e⟩
 | tup xs=>obtain ⟨z,aI,r,ob,e,c⟩:=x;exact ⟨z,aI,r,ob,k _ _ (.inl rfl) e,c⟩
 | dK aK=>obtain ⟨z,y,vs,r,ob,es,ep,e,c⟩:=x;exact ⟨z,y,vs,r,ob,es,ep,k _ _ (.inl rfl) e,c⟩
 | dT aK=>
  obtain ⟨z,y,xs,r,ob,es,ep,e,c⟩:=x
  exact ⟨z,y,xs,Paired.FV r fun p q z=>⟨z.1,ht _ _ z.2.1,z.2.2⟩,ob,es,ep,k _ _ (.inl rfl) e,c⟩
 | set S n=>obtain ⟨ob,es,ep,t,e,c⟩:=x;exact ⟨ob,es,ep,t,k _ _ (.inl rfl) e,c⟩
 | ins C dx fs=>
  obtain ⟨d,z,ne,e,mA,⟨od,es,ep,e2,c⟩,r⟩:=x
  exact ⟨ho _ d,z,ne,k _ _ (.inl rfl) e,mA,⟨od,es,ep,k _ _ (.inr d) e2,c⟩,r⟩
 | own y=>obtain ⟨ob,e⟩:=x;exact ⟨ob,k _ _ (.inl rfl) e⟩
 | xd fs=>obtain ⟨mA,⟨od,es,ep,e,c⟩,r⟩:=x;exact ⟨mA,⟨od,es,ep,k _ _ (.inl rfl) e,c⟩,r⟩
 | Nd lo hi=>obtain ⟨t,u,v,e⟩:=x;exact ⟨t,u,v,k _ _ (.inl rfl) e⟩
 | CK ob u ih=>obtain ⟨e,q⟩:=x;exact ⟨k _ _ (.inl rfl) e,ih q⟩
 | FU ps=>
  have e:h.get? a=some { cls:= .none,data:= .fields ps }:=x
  show h'.get? a=some { cls:= .none,data:= .fields ps }
  exact k a _ (.inl rfl) e
 | met f y=>
  have e:h.get? a=some (PySem.W.methodObj (.ref f) (.ref y)):=x
  show h'.get? a=some (PySem.W.methodObj (.ref f) (.ref y))
  exact k a _ (.inl rfl) e
 | ext φ=>obtain ⟨p,⟨o,e⟩,st⟩:=x;exact ⟨st _ _ p fun o q=>k _ _ (.inl rfl) q,⟨o,k _ _ (.inl rfl) e⟩,st⟩
theorem jl.lt (x:jl P w H h) (e:H a=some o):a<h.objs.size:=(x a o e).lt
theorem jl.fresh (x:jl P w H h) (e:h.objs.size<=a):H a=none:=by
 cases q:H a with
 | none=>rfl
 | some u=>exact absurd (UN (x.lt q) e) (U_ _)
theorem jl.kept (x:jl P w H h) (k: ∀b u,h.get? b=some u->h'.get? b=some u):jl P w H h':=fun a o e=>
 (x a o e).sW (fun b u _ q=>k b u q) (fun _ q=>q) fun _ _ q=>q
theorem jl.laid (x:jl P w H h) (k: ∀b u,h.get? b=some u->h'.get? b=some u) (hp:h.objs.size<=a) (new:cD P w (upd H a o) h' a o):jl P w (upd H a o) h':=fun b u e=>by
 have hn:=x.fresh hp
 by_cases hb:b=a
 ·subst hb;rw[ag]at e;cases e;exact new
 ·rw[au hb]at e
  exact (x b u e).sW (fun c v _ q=>k c v q) (fun c q=>by rw[au (aq q hn)];exact q) fun c xs q=>by rw[au (aq q hn)];exact q
end
def Rd (H:Hp) (a:Addr) (u:HO):Prop:=H a=some u\/ ∃o,H a=some (.CK o u)
theorem Rd.ok {P:Program} {w:World} {H:Hp} {h:Heap} {a:Addr} {u:HO} (r:Rd H a u) (x:jl P w H h):cD P w H h a u:=by
 rcases r with r | ⟨o,r⟩
 ·exact x a u r
 ·obtain ⟨_,q⟩:=x a _ r
  exact q
def J3:Option HO->Prop
 | some (.lst _)=>True
 | some (.dK _)=>True
 | some (.dT _)=>True
 | some (.set _ _)=>True
 | some (.ins _ _ _)=>True
 | some (.ext _)=>True
 | _=>False
section
variable {P:Program} {w:World} {H:Hp} {h h':Heap} {x e:Addr} {o':HO}
theorem jl.write (ok:jl P w H h) (mu:J3 (H x)) (he:e=x\/H e=some (.own x)) (k: ∀b u,b≠e->h.get? b=some u->h'.get? b=some u) (Iy: ∃u,h'.get? e=some u)
  (new:cD P w (upd H x o') h' x o'):jl P w (upd H x o') h':=fun b u q=>by
 have J4: ∀c y,H c=some (.own y)->c≠x:=fun c y r z=>by subst z;rw[r]at mu;exact mu
 have Nf: ∀c xs,H c=some (.tup xs)->c≠x:=fun c xs r z=>by subst z;rw[r]at mu;exact mu
 by_cases hb:b=x
 ·subst hb;rw[ag]at q;cases q;exact new
 ·rw[au hb]at q
  by_cases CL:b=e
  ·have q':H b=some (.own x):=by
    rcases he with z | z
    ·exact absurd (CL.trans z) hb
    ·rw[CL];exact z
   rw[q]at q';cases q'
   obtain ⟨v,hv⟩:=Iy
   exact ⟨v,by rw[CL];exact hv⟩
  ·refine (ok b u q).sW (fun c v hc r=>k c v ?_ r) (fun c r=>by rw[au (J4 c b r)];exact r) fun c xs r=>by rw[au (Nf c xs r)];exact r
   rcases hc with rfl | hc
   ·exact CL
   ·rintro rfl
    rcases he with z | z
    ·exact J4 c b hc z
    ·rw[hc]at z;cases z;exact hb rfl
end
structure Un (fs ex:List Addr) (H H':Hp) (h h':Heap):Prop where
 keep: ∀b o,h.get? b=some o->H b=none->b∉fs->b∉ex->h'.get? b=some o
 slot: ∀b o,h.get? b=some o->H b=none->b∈fs->b∉ex-> ∃sl,h'.get? b=some { o with slots:=sl }
 free: ∀b o,h.get? b=some o->H b=none->b∉ex->H' b=none
 there: ∀b o,h.get? b=some o->b∉ex-> ∃o',h'.get? b=some o'
 oS: ∀b xs,H b=some (.tup xs)->H' b=some (.tup xs)
 mV: ∀b o u,H b=some (.CK o u)->H' b=some (.CK o u)
 qO: ∀b ps,H b=some (.FU ps)-> ∃more,H' b=some (.FU (ps++more))
section
variable {fs QV ex TU:List Addr} {H H1 H2:Hp} {h h1 h2 h':Heap} {a x e:Addr} {o:HO}
theorem Un.any (u:Un fs ex H H1 h h1) {b:Addr} {ob:Obj} (q:h.get? b=some ob) (n:H b=none) (hx:b∉ex): ∃sl,h1.get? b=some { ob with slots:=sl }:=by
 by_cases hb:b∈fs
 ·exact u.slot b ob q n hb hx
 ·exact ⟨ob.slots,u.keep b ob q n hb hx⟩
theorem Un.kept (k: ∀b u,h.get? b=some u->h'.get? b=some u):Un fs ex H H h h':=
 ⟨fun b ob q _ _ _=>k b ob q,fun b ob q _ _ _=>⟨ob.slots,k b ob q⟩,fun _ _ _ n _=>n,fun b ob q _=>⟨ob,k b ob q⟩,fun _ _ q=>q,fun _ _ _ q=>q,fun _ ps q=>⟨#[],by rw[q];simp⟩⟩
theorem Un.refl:Un fs ex H H h h:=Un.kept fun _ _ q=>q
theorem Un.laid (k: ∀b u,h.get? b=some u->h'.get? b=some u) (hp:h.objs.size<=a) (hn:H a=none):Un fs ex H (upd H a o) h h' where
 keep:=fun b u q _ _ _=>k b u q
 slot:=fun b u q _ _ _=>⟨u.slots,k b u q⟩
 free:=fun b u q n _=>by rw[au (UJ (UN (UD q) hp))];exact n
 there:=fun b u q _=>⟨u,k b u q⟩
 oS:=fun b xs q=>by rw[au (aq q hn)];exact q
 mV:=fun b u xs q=>by rw[au (aq q hn)];exact q
 qO:=fun b ps q=>⟨#[],by rw[au (aq q hn),q];simp⟩
theorem Un.write (mu:J3 (H x)) (he:e=x\/H e=some (.own x)) (k: ∀b u,b≠e->h.get? b=some u->h'.get? b=some u) (Iy: ∃u,h'.get? e=some u):Un fs ex H (upd H x o) h h':=by
 have hx: ∀b,H b=none->b≠x:=fun b n z=>by subst z;rw[n]at mu;exact mu
 have hb: ∀b,H b=none->b≠e:=fun b n z=>by
  subst z
  rcases he with r | r
  ·exact hx b n r
  ·rw[n]at r;cases r
 have hm: ∀b u,H b=some u-> ¬J3 (some u)->b≠x:=fun b u q nm z=>by subst z;rw[q]at mu;exact nm mu
 refine ⟨fun b u q n _ _=>k b u (hb b n) q,fun b u q n _ _=>⟨u.slots,k b u (hb b n) q⟩,fun b u q n _=>by rw[au (hx b n)];exact n,fun b u q _=>?_,
  fun b xs q=>by rw[au (hm b _ q fun z=>z)];exact q,fun b u xs q=>by rw[au (hm b _ q fun z=>z)];exact q,fun b ps q=>⟨#[],by rw[au (hm b _ q fun z=>z),q];simp⟩⟩
 by_cases CL:b=e
 ·subst CL;exact Iy
 ·exact ⟨u,k b u CL q⟩
end
noncomputable def Me (h:Heap) (H:Hp):List Addr:=(List.range h.objs.size).filter fun a=>(H a).isSome
noncomputable def qP (h:Heap) (H:Hp):Heap:=PySem.W.hideAll h (Me h H)
theorem yy (h:Heap) (H:Hp):(qP h H).objs.size=h.objs.size:=PySem.W.hideAll_size _ _
theorem z7 {h:Heap} {H:Hp} {b:Addr} {o:Obj} (e:h.get? b=some o) (n:H b=none):(qP h H).get? b=some o:=
 PySem.W.hideAll_get _ e fun hm=>by
  have q:(H b).isSome=true:=(U7.mp hm).2
  rw[n]at q;simp at q
theorem C8 {h:Heap} {H:Hp} {b:Addr} {o:Obj} (e:(qP h H).get? b=some o):h.get? b=some o/\H b=none:=by
 have e':h.get? b=some o:=PySem.W.of_hideAll (Me h H) e
 refine ⟨e',?_⟩
 cases q:H b with
 | none=>rfl
 | some x=>
  have hm:b∈Me h H:=U7.mpr ⟨Vp.mpr (UD e'),by simp[q]⟩
  have z:(qP h H).get? b=none:=PySem.W.hideAll_none (Me h H) hm
  rw[z]at e;cases e
structure Mod (K:PySem.W.Frag) (mg:Str->Option Value) (base:Heap):Prop where
 Iz:K.In base
 glob:base.Ns mainGlobals mg
 blt: ∃mb,base.Ns builtinsNs mb/\ ∀x:Str,x≠"__name__"->mb x=bootBuiltins x
 nolimit:base.NoLimit
structure Cx where
 prog:Program
 w:World
 K:PySem.W.Frag
 mg:Str->Option Value
 base:Heap
 A:Around
 N:List Str
 s₀:Shared
 H₀:Hp
 env:Env
 outer:List Env
 stack:List Env
 ex:List Addr
 fn:Str->Bool
 calm:Bool
 pn:List (Addr×Obj)
 xe:Value->Shared->Prop
noncomputable def w4 (l:List Env):List Addr:=l.filterMap (·.frame)
noncomputable abbrev Cx.fs (X:Cx):List Addr:=w4 X.outer
def J5 (sc:Scope) (x:Str):Prop:=sc.names.lookup x=some .local\/sc.names.lookup x=some .cell\/sc.names.lookup x=some .free
def Loc (sc:Scope) (x:Str):Prop:=sc.names.lookup x=some .local\/sc.names.lookup x=some .cell
def Look (env:Env) (h:Heap) (m:Str->Option Value) (x:Str) (u:Value):Prop:=
 (env.kindOf x=some .local/\m x=some u)\/((env.kindOf x=some .cell\/env.kindOf x=some .free)/\ ∃c,env.cells.lookup x=some c/\h.IsCell c (some u))
structure Cx.Ok (X:Cx):Prop where
 mod:Mod X.K X.mg X.base
 kind:X.env.scope.kind= .function
 glob:X.env.globals=mainGlobals
 blt:X.env.builtins=builtinsNs
 above:X.s₀.heap.objs.size<=X.env.locals
 inj: ∀x y c,X.env.cells.lookup x=some c->X.env.cells.lookup y=some c->x=y
 has: ∀x,(X.env.kindOf x=some .cell\/X.env.kindOf x=some .free)-> ∃c,X.env.cells.lookup x=some c
 J6: ∀x c,X.fn x=true->X.env.cells.lookup x=some c->X.s₀.heap.objs.size<=c
 hd:X.calm=true->X.A.handled=none
 frames:X.A.frames=some X.stack
 Mf:X.stack=X.outer\/(X.stack=X.env::X.outer/\X.env.frame=some X.env.locals)
 Pe: ∀b∈X.ex,b≠X.env.locals/\ ∀x c,X.env.cells.lookup x=some c->c≠b
 bs: ∀b o,X.base.get? b=some o->X.s₀.heap.get? b=some o/\X.H₀ b=none
 C9:X.base.objs.size<=X.s₀.heap.objs.size
 z8: ∀b o,X.base.get? b=some o->b∉X.ex
 C_: ∀b∈X.ex,b∉X.fs
 lS:X.s₀.heap.FunFrames X.base X.outer
 FW: ∀b∈X.fs,X.H₀ b=none
structure Inv (X:Cx) (pins:List (Addr×Obj)) (σ:List (Option V)) (H:Hp) (s:Shared):Prop where
 ok:X.Ok
 os:s.os=X.s₀.os
 bare:AllBare s.gens
 base:Un X.fs X.ex X.H₀ H X.s₀.heap s.heap
 loc: ∃m,s.heap.Ns X.env.locals m/\ ∀(i:Nat) (x:Str) (v:V),X.N[i]? =some x->σ[i]? =some (some v)->J5 X.env.scope x-> ∃u,RelV v u/\Look X.env s.heap m x u
 cell: ∀x c,X.env.cells.lookup x=some c-> ∃v,s.heap.IsCell c v
 free:H X.env.locals=none
 g8: ∀x c,X.env.cells.lookup x=some c->H c=none
 pin: ∀p∈X.pn++pins,s.heap.get? p.1=some p.2/\H p.1=none/\p.1≠X.env.locals/\p.1∉X.fs/\ ∀v,p.2.data≠ .cell v
 bR:jl X.prog X.w H s.heap
 len:σ.length=X.N.length
section
variable {X:Cx} {pins:List (Addr×Obj)} {σ:List (Option V)} {H H':Hp} {s:Shared} {h':Heap}
theorem Cx.Ok.Ng (ok:X.Ok) {b:Addr} {o:Obj} (e:X.base.get? b=some o):b∉X.fs:=fun hb=>by
 have:=(ok.lS.mem hb).1
 rw[e]at this;cases this
theorem Inv.bs (I:Inv X pins σ H s): ∀b o,X.base.get? b=some o->s.heap.get? b=some o/\H b=none:=fun b o e=>
 ⟨I.base.keep b o (I.ok.bs b o e).1 (I.ok.bs b o e).2 (I.ok.Ng e) (I.ok.z8 b o e),I.base.free b o (I.ok.bs b o e).1 (I.ok.bs b o e).2 (I.ok.z8 b o e)⟩
theorem Inv.bk (I:Inv X pins σ H s): ∀b o,X.base.get? b=some o->s.heap.get? b=some o:=fun b o e=>(I.bs b o e).1
theorem Inv.mod (I:Inv X pins σ H s):Mod X.K X.mg X.base:=I.ok.mod
theorem Inv.yz (I:Inv X pins σ H s):X.K.In s.heap:=I.ok.mod.Iz.keeps I.bk
theorem Inv.lt (I:Inv X pins σ H s):X.env.locals<s.heap.objs.size:=let ⟨_,hn,_⟩:=I.loc;hn.lt
theorem Inv.sz (I:Inv X pins σ H s):X.s₀.heap.objs.size<=s.heap.objs.size:=UW I.ok.above (U0 I.lt)
theorem Inv.FX (I:Inv X pins σ H s) {a:Addr} (h:s.heap.objs.size<=a):a∉X.fs:=fun hb=>by
 obtain ⟨_,o,ho,_⟩:=I.ok.lS.mem hb
 exact absurd (UN (UD ho) (UW I.sz h)) (U_ _)
theorem Inv.FY (I:Inv X pins σ H s): ∀x c,X.env.cells.lookup x=some c->c≠X.env.locals:=fun x c e z=>by
 obtain ⟨v,o,ho,hd⟩:=I.cell x c e
 obtain ⟨m,⟨o',es,ep,Dc,Nh,_⟩,_⟩:=I.loc
 rw[z,Dc]at ho;cases ho;rw[Nh]at hd;cases hd
theorem Inv.lS (I:Inv X pins σ H s):s.heap.FunFrames X.base X.outer:=by
 have all: ∀(l:List Env),(∀b∈w4 l,b∈X.fs)->X.s₀.heap.FunFrames X.base l->s.heap.FunFrames X.base l:=by
  intro l
  induction l with
  | nil=>intro _ _;trivial
  | cons env r ih=>
   intro hs hl
   obtain ⟨hk,⟨L,o,hf,hn,ho,hd⟩,hr⟩:=hl
   have hL:L∈X.fs:=hs L (by unfold w4;rw[Xa,hf];exact UA)
   obtain ⟨sl,e⟩:=I.base.slot L o ho (I.ok.FW L hL) hL fun z=>I.ok.C_ L z hL
   exact ⟨hk,⟨L,_,hf,hn,e,hd⟩,ih (fun b hb=>hs b (by unfold w4;rw[Xa,hf];exact T5 _ hb)) hr⟩
 exact all X.outer (fun _ hb=>hb) I.ok.lS
theorem Inv.stack (I:Inv X pins σ H s):s.heap.FunFrames X.base X.stack:=by
 rcases I.ok.Mf with e | ⟨e,hf⟩
 ·rw[e];exact I.lS
 ·rw[e]
  obtain ⟨m,hn,_⟩:=I.loc
  refine .cons (by rw[I.ok.kind];decide) hf hn ?_ I.lS
  exact Heap.get?_none_of_le (UW I.ok.C9 I.ok.above)
theorem Inv.mW (I:Inv X pins σ H s): ∀b∈w4 X.stack,b∈X.env.locals::X.fs:=fun b hb=>by
 rcases I.ok.Mf with e | ⟨e,hf⟩
 ·rw[e]at hb;exact T5 _ hb
 ·rw[e]at hb
  unfold w4 at hb
  rw[Xa,hf]at hb
  exact hb
theorem Inv.w5 (I:Inv X pins σ H s): ∀b∈w4 X.stack,H b=none:=fun b hb=>by
 rcases T3.mp (I.mW b hb) with e | hb
 ·rw[e];exact I.free
 ·obtain ⟨_,o,ho,_⟩:=I.ok.lS.mem hb
  exact I.base.free b o ho (I.ok.FW b hb) fun z=>I.ok.C_ b z hb
theorem Inv.step {g':Array GenState} {t':Nat} {d':Drawn} {ch:List Addr} (I:Inv X pins σ H s)
  (CM: ∀b∈ch,(b∈X.ex\/X.s₀.heap.objs.size<=b)/\b≠X.env.locals/\(∀x c,X.env.cells.lookup x=some c->c≠b)/\ ∀p∈X.pn++pins,p.1≠b)
  (keep: ∀b o,b≠X.env.locals->b∉X.fs->b∉ch->s.heap.get? b=some o->H b=none->h'.get? b=some o)
  (slot: ∀b o,b≠X.env.locals->b∈X.fs->b∉ch->s.heap.get? b=some o->H b=none-> ∃sl,h'.get? b=some { o with slots:=sl }) (free: ∀b o,b∉ch->s.heap.get? b=some o->H b=none->H' b=none)
  (there: ∀b o,b∉ch->s.heap.get? b=some o-> ∃o',h'.get? b=some o')
  (oS: ∀b xs,H b=some (.tup xs)->H' b=some (.tup xs)) (mV: ∀b o u,H b=some (.CK o u)->H' b=some (.CK o u)) (qO: ∀b ps,H b=some (.FU ps)-> ∃more,H' b=some (.FU (ps++more)))
  (ns: ∀m,s.heap.Ns X.env.locals m->h'.Ns X.env.locals m) (bR:jl X.prog X.w H' h') (hg:AllBare g'):
  Inv X pins σ H' { s with heap:=h',gens:=g',drawn:=d',toks:=t' }:=by
 have Ph: ∀b o,X.s₀.heap.get? b=some o->b≠X.env.locals:=fun b o e=>UJ (UN (UD e) I.ok.above)
 have FZ: ∀b o,X.s₀.heap.get? b=some o->b∉X.ex->b∉ch:=fun b o e hx hb=>by
  rcases (CM b hb).1 with z | z
  ·exact hx z
  ·exact absurd (UN (UD e) z) (U_ _)
 have cellK: ∀x c,X.env.cells.lookup x=some c-> ∀v,s.heap.IsCell c v->h'.IsCell c v:=fun x c e v ⟨o,ho,hd⟩=>by
  have J9:c∉ch:=fun z=>(CM c z).2.2.1 x c e rfl
  by_cases hc:c∈X.fs
  ·obtain ⟨sl,q⟩:=slot c o (I.FY x c e) hc J9 ho (I.g8 x c e)
   exact ⟨_,q,hd⟩
  ·exact ⟨o,keep c o (I.FY x c e) hc J9 ho (I.g8 x c e),hd⟩
 refine ⟨I.ok,I.os,hg,⟨fun b o e n hb hx=>?_,fun b o e n hb hx=>?_,fun b o e n hx=>?_,fun b o e hx=>?_,fun b xs e=>oS b xs (I.base.oS b xs e),fun b o xs e=>mV b o xs (I.base.mV b o xs e),fun b ps e=>?_⟩,?_,fun x c e=>?_,?_,fun x c e=>?_,fun p hp=>?_,bR,I.len⟩
 ·exact keep b o (Ph b o e) hb (FZ b o e hx) (I.base.keep b o e n hb hx) (I.base.free b o e n hx)
 ·obtain ⟨sl,e1⟩:=I.base.slot b o e n hb hx
  obtain ⟨QW,e2⟩:=slot b _ (Ph b o e) hb (FZ b o e hx) e1 (I.base.free b o e n hx)
  exact ⟨QW,e2⟩
 ·obtain ⟨o',e1⟩:=I.base.there b o e hx
  exact free b o' (FZ b o e hx) e1 (I.base.free b o e n hx)
 ·obtain ⟨o',e1⟩:=I.base.there b o e hx
  exact there b o' (FZ b o e hx) e1
 ·obtain ⟨m1,e1⟩:=I.base.qO b ps e
  obtain ⟨m2,e2⟩:=qO b _ e1
  exact ⟨m1++m2,by rw[e2,Array.append_assoc]⟩
 ·obtain ⟨m,hn,hl⟩:=I.loc
  refine ⟨m,ns m hn,fun i x v e1 e2 e3=>?_⟩
  obtain ⟨u,r,l⟩:=hl i x v e1 e2 e3
  refine ⟨u,r,?_⟩
  rcases l with l | ⟨k,c,e,z⟩
  ·exact .inl l
  ·exact .inr ⟨k,c,e,cellK x c e _ z⟩
 ·obtain ⟨v,z⟩:=I.cell x c e
  exact ⟨v,cellK x c e v z⟩
 ·obtain ⟨m,⟨o,_,_,ho,_⟩,_⟩:=I.loc
  exact free _ o (fun z=>(CM _ z).2.1 rfl) ho I.free
 ·obtain ⟨v,o,ho,hd⟩:=I.cell x c e
  exact free c o (fun z=>(CM c z).2.2.1 x c e rfl) ho (I.g8 x c e)
 ·obtain ⟨e,n,ne,nf,d⟩:=I.pin p hp
  have J9:p.1∉ch:=fun z=>(CM p.1 z).2.2.2 p hp rfl
  exact ⟨keep p.1 p.2 ne nf J9 e n,free p.1 p.2 J9 e n,ne,nf,d⟩
theorem Inv.un {t':Nat} (I:Inv X pins σ H s) (u:Un X.fs [] H H' s.heap h') (bR:jl X.prog X.w H' h'):Inv X pins σ H' { s with heap:=h',toks:=t' }:=by
 obtain ⟨m,⟨o,es,ep,ho,r⟩,_⟩:=id I.loc
 obtain ⟨sl,hL⟩:=u.any ho I.free (by simp)
 exact I.step (g':=s.gens) (d':=s.drawn) (ch:=[]) (fun _ z=>nomatch z) (fun b o _ hb _ e n=>u.keep b o e n hb (by simp)) (fun b o _ hb _ e n=>u.slot b o e n hb (by simp)) (fun b o _ e n=>u.free b o e n (by simp)) (fun b o _ e=>u.there b o e (by simp)) u.oS u.mV u.qO (fun m' hm=>by
  obtain ⟨o',Ni,J_,Dc,r'⟩:=hm
  rw[ho]at Dc;cases Dc
  exact ⟨_,Ni,J_,hL,r'⟩) bR I.bare
theorem Inv.call {g':Array GenState} {t':Nat} {d':Drawn} {ch:List Addr} (I:Inv X pins σ H s) (u:Un (w4 X.stack) ch H H' s.heap h') (bR:jl X.prog X.w H' h') (hg:AllBare g')
  (CM: ∀b∈ch,(b∈X.ex\/X.s₀.heap.objs.size<=b)/\b≠X.env.locals/\(∀x c,X.env.cells.lookup x=some c->c≠b)/\ ∀p∈X.pn++pins,p.1≠b):
  Inv X pins σ H' { s with heap:=h',gens:=g',drawn:=d',toks:=t' }:=by
 obtain ⟨m,⟨o,es,ep,ho,r⟩,_⟩:=id I.loc
 obtain ⟨sl,hL⟩:=u.any ho I.free fun z=>(CM _ z).2.1 rfl
 exact I.step (ch:=ch) CM (fun b o hL hb hc e n=>u.keep b o e n (fun z=>(T3.mp (I.mW b z)).elim hL hb) hc) (fun b o _ _ hc e n=>u.any e n hc) (fun b o hc e n=>u.free b o e n hc) (fun b o hc e=>u.there b o e hc) u.oS u.mV u.qO (fun m' hm=>by
  obtain ⟨o',Ni,J_,Dc,r'⟩:=hm
  rw[ho]at Dc;cases Dc
  exact ⟨_,Ni,J_,hL,r'⟩) bR hg
theorem Inv.turned {t':Nat} {it:Addr} (I:Inv X pins σ H s) (k: ∀b o,b≠it->s.heap.get? b=some o->h'.get? b=some o) (hn:H it=none) (hL:it≠X.env.locals)
  (h1:it∈X.ex\/X.s₀.heap.objs.size<=it) (h2: ∀x c,X.env.cells.lookup x=some c->c≠it) (h3: ∀p∈X.pn++pins,p.1≠it):Inv X pins σ H { s with heap:=h',toks:=t' }:=by
 have EY: ∀b u,H b=some u->b≠it:=fun b u e z=>by rw[z,hn]at e;cases e
 refine I.step (g':=s.gens) (d':=s.drawn) (ch:=[it]) (fun b hb=>?_) (fun b o _ _ hc e _=>k b o (fun z=>hc (by simp[z])) e) (fun b o _ _ hc e _=>⟨o.slots,k b o (fun z=>hc (by simp[z])) e⟩) (fun _ _ _ _ n=>n)
  (fun b o hc e=>⟨o,k b o (fun z=>hc (by simp[z])) e⟩) (fun _ _ e=>e) (fun _ _ _ e=>e) (fun b ps e=>⟨#[],by rw[e];simp⟩) (fun m hm=>?_) (fun b u e=>?_) I.bare
 ·have e:b=it:=by simpa using hb
  subst e
  exact ⟨h1,hL,h2,h3⟩
 ·obtain ⟨o,es,ep,ho,r⟩:=hm
  exact ⟨o,es,ep,k _ o (Ne.symm hL) ho,r⟩
 ·refine (I.bR b u e).sW (fun c v hc q=>k c v ?_ q) (fun _ q=>q) fun _ _ q=>q
  rcases hc with z | z
  ·rw[z];exact EY b u e
  ·exact EY c _ z
theorem Inv.tok (I:Inv X pins σ H s) (t:Nat):Inv X pins σ H { s with toks:=t }:=I.un (h':=s.heap) (t':=t) Un.refl I.bR
theorem Inv.kept {t':Nat} (I:Inv X pins σ H s) (k: ∀b u,s.heap.get? b=some u->h'.get? b=some u):Inv X pins σ H { s with heap:=h',toks:=t' }:=I.un (Un.kept k) (I.bR.kept k)
theorem Inv.laid {a:Addr} {o:HO} {t':Nat} (I:Inv X pins σ H s) (k: ∀b u,s.heap.get? b=some u->h'.get? b=some u) (hp:s.heap.objs.size<=a) (new:cD X.prog X.w (upd H a o) h' a o):
  Inv X pins σ (upd H a o) { s with heap:=h',toks:=t' }:=I.un (Un.laid k hp (I.bR.fresh hp)) (I.bR.laid k hp new)
theorem Inv.write {x e:Addr} {o:HO} {t':Nat} (I:Inv X pins σ H s) (mu:J3 (H x)) (he:e=x\/H e=some (.own x)) (k: ∀b u,b≠e->s.heap.get? b=some u->h'.get? b=some u) (Iy: ∃u,h'.get? e=some u)
  (new:cD X.prog X.w (upd H x o) h' x o):Inv X pins σ (upd H x o) { s with heap:=h',toks:=t' }:=I.un (Un.write mu he k Iy) (I.bR.write mu he k Iy new)
theorem Inv.weak {σ':List (Option V)} (I:Inv X pins σ H s) (hl:σ'.length=σ.length) (w: ∀(i:Nat) v,σ'[i]? =some (some v)->σ[i]? =some (some v)):Inv X pins σ' H s:=
 ⟨I.ok,I.os,I.bare,I.base,let ⟨m,hn,w6⟩:=I.loc;⟨m,hn,fun i x v e1 e2 e3=>w6 i x v e1 (w i v e2) e3⟩,I.cell,I.free,I.g8,I.pin,I.bR,hl.trans I.len⟩
theorem Inv.jG {w9:List (Addr×Obj)} (I:Inv X pins σ H s) (h: ∀p∈w9,s.heap.get? p.1=some p.2/\H p.1=none/\p.1≠X.env.locals/\p.1∉X.fs/\ ∀v,p.2.data≠ .cell v):Inv X w9 σ H s:=
 ⟨I.ok,I.os,I.bare,I.base,I.loc,I.cell,I.free,I.g8,fun p hp=>(UO.mp hp).elim (fun z=>I.pin p (V3 _ z)) (h p),I.bR,I.len⟩
theorem sX {N:List Str} (hN:N.Nodup) {i j:Nat} {x:Str} (a:N[i]? =some x) (b:N[j]? =some x):i=j:=by
 obtain ⟨h1,e1⟩:=GK.mp a
 obtain ⟨h2,e2⟩:=GK.mp b
 exact (List.getElem_inj hN).mp (e1.trans e2.symm)
theorem yA {M:Model} {A:Around} {E:Value->Shared->Prop} {i:Nat} {x:Str} {v:V} {u:Value} {Q:Unit->Shared->Prop} (I:Inv X pins σ H s) (hN:X.N.Nodup) (hi:X.N[i]? =some x) (hx:Loc X.env.scope x) (r:RelV v u)
  (h: ∀s',Inv X pins (σ.set i (some v)) H s'->(∃a,Heap.SameBut a s.heap s'.heap/\(a=X.env.locals\/X.env.cells.lookup x=some a))->Q () s') (hf:X.fn x=true\/X.env.scope.names.lookup x=some .local:=by first | exact .inl rfl | exact .inr rfl | assumption):wpAny M A (storeName X.env x u) Q E s:=by
 obtain ⟨m,hn,hl⟩:=id I.loc
 have Nj:(X.env.scope.kind== .class||(X.env.scope.kind== .module&&X.env.locals != X.env.globals))=false:=by rw[I.ok.kind];rfl
 have Pj:i<σ.length:=by rw[I.len];exact (GK.mp hi).1
 have FY:=I.FY
 have tracked: ∀{a:Addr} {h':Heap},(∃o,s.heap.get? a=some o/\H a=none)->Heap.SameBut a s.heap h'->jl X.prog X.w H h':=fun {a h'} ha hs b ob e=>by
  obtain ⟨_,_,EZ⟩:=ha
  refine (I.bR b ob e).sW (fun c w' hc q=>(hs.2 c ?_).trans q) (fun _ q=>q) fun _ _ q=>q
  rintro rfl
  rcases hc with rfl | hc
  ·rw[EZ]at e;cases e
  ·rw[EZ]at hc;cases hc
 rcases hx with hk | hk
 ·refine wpAny_storeName_local hk hn (fun h' Mg hs=>?_) Nj
  obtain ⟨oL,_,_,Ka,_⟩:=id hn
  refine h _ ⟨I.ok,I.os,I.bare,⟨fun b o e n hb hx=>?_,fun b o e n hb hx=>?_,I.base.free,fun b o e hx=>?_,I.base.oS,I.base.mV,I.base.qO⟩,⟨_,Mg,fun j y v' e1 e2 e3=>?_⟩,fun y c e=>?_,I.free,I.g8,fun p hp=>?_,tracked ⟨oL,Ka,I.free⟩ hs,by simpa using I.len⟩ ⟨_,hs, .inl rfl⟩
  ·exact (hs.2 b (UJ (UN (UD e) I.ok.above))).trans (I.base.keep b o e n hb hx)
  ·obtain ⟨sl,e1⟩:=I.base.slot b o e n hb hx
   exact ⟨sl,(hs.2 b (UJ (UN (UD e) I.ok.above))).trans e1⟩
  ·obtain ⟨o',e1⟩:=I.base.there b o e hx
   exact ⟨o',(hs.2 b (UJ (UN (UD e) I.ok.above))).trans e1⟩
  ·by_cases hj:j=i
   ·subst hj
    rw[hi]at e1;cases e1
    rw[List.getElem?_set_self Pj]at e2
    cases e2
    exact ⟨u,r, .inl ⟨hk,by simp⟩⟩
   ·rw[List.getElem?_set_ne (Ne.symm hj)]at e2
    obtain ⟨u',r',q⟩:=hl j y v' e1 e2 e3
    refine ⟨u',r',?_⟩
    rcases q with ⟨k,e⟩ | ⟨k,c,e,z⟩
    ·refine .inl ⟨k,?_⟩
     have:y≠x:=fun e=>hj (sX hN e1 (e▸hi))
     simp[this,e]
    ·exact .inr ⟨k,c,e,z.sameBut hs (FY y c e)⟩
  ·obtain ⟨w',z⟩:=I.cell y c e
   exact ⟨w',z.sameBut hs (FY y c e)⟩
  ·obtain ⟨e,n,ne,nf,d⟩:=I.pin p hp
   exact ⟨(hs.2 p.1 ne).trans e,n,ne,nf,d⟩
 ·have Nk:X.fn x=true:=by
   rcases hf with z | z
   ·exact z
   ·rw[z]at hk;cases hk
  obtain ⟨c,hc⟩:=I.ok.has x (.inl hk)
  obtain ⟨w',z⟩:=I.cell x c hc
  refine wpAny_storeName_cell I.ok.kind hk hc z (fun h' oT hs=>?_)
  obtain ⟨oc,Pk,Nl⟩:=id z
  refine h { s with heap:=h' } ⟨I.ok,I.os,I.bare,⟨fun b o e n hb hx=>?_,fun b o e n hb hx=>?_,I.base.free,fun b o e hx=>?_,I.base.oS,I.base.mV,I.base.qO⟩,⟨m,hn.sameBut hs (Ne.symm (FY x c hc)),fun j y v' e1 e2 e3=>?_⟩,fun y c' e=>?_,I.free,I.g8,fun p hp=>?_,tracked ⟨oc,Pk,I.g8 x c hc⟩ hs,by simpa using I.len⟩ ⟨c,hs, .inr hc⟩
  ·exact (hs.2 b (UJ (UN (UD e) (I.ok.J6 x c Nk hc)))).trans (I.base.keep b o e n hb hx)
  ·obtain ⟨sl,e1⟩:=I.base.slot b o e n hb hx
   exact ⟨sl,(hs.2 b (UJ (UN (UD e) (I.ok.J6 x c Nk hc)))).trans e1⟩
  ·obtain ⟨o',e1⟩:=I.base.there b o e hx
   exact ⟨o',(hs.2 b (UJ (UN (UD e) (I.ok.J6 x c Nk hc)))).trans e1⟩
  ·by_cases hj:j=i
   ·subst hj
    rw[hi]at e1;cases e1
    rw[List.getElem?_set_self Pj]at e2
    cases e2
    exact ⟨u,r, .inr ⟨.inl hk,c,hc,oT⟩⟩
   ·rw[List.getElem?_set_ne (Ne.symm hj)]at e2
    obtain ⟨u',r',q⟩:=hl j y v' e1 e2 e3
    refine ⟨u',r',?_⟩
    rcases q with q | ⟨k,c',e,z'⟩
    ·exact .inl q
    ·refine .inr ⟨k,c',e,z'.sameBut hs ?_⟩
     rintro rfl
     exact hj (sX hN e1 (I.ok.inj _ _ _ e hc▸hi))
  ·by_cases IA:c'=c
   ·subst IA;exact ⟨_,oT⟩
   ·obtain ⟨w2,z2⟩:=I.cell y c' e
    exact ⟨w2,z2.sameBut hs IA⟩
  ·obtain ⟨e,n,ne,nf,d⟩:=I.pin p hp
   refine ⟨(hs.2 p.1 ?_).trans e,n,ne,nf,d⟩
   intro q
   rw[q,Pk]at e
   have q':oc=p.2:=UE e
   exact d w' (by rw[<-q'];exact Nl)
theorem gg {M:Model} {A:Around} {E:Value->Shared->Prop} {i:Nat} {x:Str} {v:V} {u:Value} {Q:Unit->Shared->Prop} (I:Inv X pins σ H s) (hN:X.N.Nodup) (hi:X.N[i]? =some x) (hx:Loc X.env.scope x) (r:RelV v u)
  (h: ∀s',Inv X pins (σ.set i (some v)) H s'->Q () s') (hf:X.fn x=true\/X.env.scope.names.lookup x=some .local:=by first | exact .inl rfl | exact .inr rfl | assumption):wpAny M A (storeName X.env x u) Q E s:=
 yA I hN hi hx r (fun s' I' _=>h s' I') hf
theorem Inv.Kb {s':Shared} {ch:List Addr} (I:Inv X pins σ H s) (ho:s'.os=s.os) (u:Un (w4 X.stack) ch H H' s.heap s'.heap) (bR:jl X.prog X.w H' s'.heap) (hg:AllBare s'.gens)
  (CM: ∀b∈ch,(b∈X.ex\/X.s₀.heap.objs.size<=b)/\b≠X.env.locals/\(∀x c,X.env.cells.lookup x=some c->c≠b)/\ ∀p∈X.pn++pins,p.1≠b):Inv X pins σ H' s':=by
 obtain ⟨h',g',d',t',o'⟩:=s'
 have e:o'=s.os:=ho
 subst e
 exact I.call (g':=g') (t':=t') (d':=d') u bR hg CM
end
abbrev XK:=Value->Option Addr->Hp->Prop
abbrev St:=List (Option V)
abbrev VK:=V->Hp->Prop
abbrev TE:=St->Hp->VK->Prop
abbrev TT:=St->Hp->(Bool->Hp->Prop)->Prop
abbrev TA:=St->Hp->(List V->Hp->Prop)->Prop
structure Ends where
 nx:St->Hp->Prop
 rt:VK
 bk:St->Hp->Prop:=fun _ _=>False
 ct:St->Hp->Prop:=fun _ _=>False
abbrev TS:=Ends->St->Hp->Prop
def EP (X:Cx) (pins:List (Addr×Obj)) (σ:St) (Q:VK) (u:Value) (s':Shared):Prop:= ∃v H',Inv X pins σ H' s'/\RelV v u/\Q v H'
def TP (X:Cx) (pins:List (Addr×Obj)) (σ:St) (Q:Bool->Hp->Prop) (b:Bool) (s':Shared):Prop:= ∃H',Inv X pins σ H' s'/\Q b H'
def AP (X:Cx) (pins:List (Addr×Obj)) (σ:St) (Q:List V->Hp->Prop) (us:List Value) (s':Shared):Prop:= ∃vs H',Inv X pins σ H' s'/\Vals vs us/\Q vs H'
def SP (X:Cx) (pins:List (Addr×Obj)) (D:Ends) (f:Flow) (s':Shared):Prop:=
 match f with
 | .next=> ∃σ' H',Inv X pins σ' H' s'/\D.nx σ' H'
 | .brk=> ∃σ' H',Inv X pins σ' H' s'/\D.bk σ' H'
 | .cont=> ∃σ' H',Inv X pins σ' H' s'/\D.ct σ' H'
 | .ret u=> ∃v σ' H',Inv X pins σ' H' s'/\RelV v u/\D.rt v H'
def PE (X:Cx) (e:Expr) (t:TE):Prop:=
 ∀(pins:List (Addr×Obj)) (s:Shared) (σ:St) (H:Hp) (Q:VK),Inv X pins σ H s->t σ H Q->wpAny (model X.prog X.w) X.A (eval e X.env) (EP X pins σ Q) X.xe s
def PT (X:Cx) (e:Expr) (t:TT):Prop:=
 ∀(pins:List (Addr×Obj)) (s:Shared) (σ:St) (H:Hp) (Q:Bool->Hp->Prop),Inv X pins σ H s->t σ H Q->wpAny (model X.prog X.w) X.A (isTrue e X.env (eval e X.env)) (TP X pins σ Q) X.xe s
def PW (X:Cx) (e:Expr) (t:TT):Prop:=
 ∀(whole:Sem Value) (pins:List (Addr×Obj)) (s:Shared) (σ:St) (H:Hp) (Q:Bool->Hp->Prop),Inv X pins σ H s->t σ H Q->wpAny (model X.prog X.w) X.A (isTrue e X.env whole) (TP X pins σ Q) X.xe s
theorem PW.pt {X:Cx} {e:Expr} {t:TT} (h:PW X e t):PT X e t:=h _
def PA (X:Cx) (es:List Expr) (t:TA):Prop:=
 ∀(pos:Pos) (pins:List (Addr×Obj)) (s:Shared) (σ:St) (H:Hp) (Q:List V->Hp->Prop),Inv X pins σ H s->t σ H Q->wpAny (model X.prog X.w) X.A (spliced (backTo pos (starEach es X.env))) (AP X pins σ Q) X.xe s
def PS (X:Cx) (st:Stmt) (t:TS):Prop:=
 ∀(pins:List (Addr×Obj)) (s:Shared) (σ:St) (H:Hp) (D:Ends),Inv X pins σ H s->t D σ H->wpAny (model X.prog X.w) X.A (exec st X.env) (SP X pins D) X.xe s
def u_ (X:Cx) (st:List Stmt) (t:TS):Prop:=
 ∀(pins:List (Addr×Obj)) (s:Shared) (σ:St) (H:Hp) (D:Ends),Inv X pins σ H s->t D σ H->wpAny (model X.prog X.w) X.A (execs st X.env) (SP X pins D) X.xe s
theorem bZ {α:Type} {t:Sem α} {Q Q':α->Shared->Prop} {M:Model} {A:Around} {E:Value->Shared->Prop} {s:Shared} (h:wpAny M A t Q E s) (hQ: ∀a s,Q a s->Q' a s):wpAny M A t Q' E s:=wpAny_mono h hQ fun _ _ x=>x
section
variable {X:Cx}
def F_ (i:Nat):TE:=fun σ H Q=> ∃v,σ[i]? =some (some v)/\Q v H
def tC (v:V):TE:=fun _ H Q=>Q v H
theorem Ga {i:Nat} {x:Str} {pos:Pos} (hN:X.N[i]? =some x) (hv:J5 X.env.scope x) (hd:(x==("__debug__":Str))=false:=by decide) (lT:(x==("__classdict__":Str))=false:=by decide):PE X (.Name x pos) (F_ i):=by
 intro pins s σ H Q I h
 obtain ⟨v,e,h⟩:=h
 obtain ⟨m,hn,hl⟩:=I.loc
 obtain ⟨u,r,l⟩:=hl i x v hN e hv
 have fin:EP X pins σ Q u s:=⟨v,H,I,r,h⟩
 rcases l with ⟨hk,hm⟩ | ⟨hk,c,hc,gh⟩
 ·exact wpAny_Name (wpAny_loadName_local I.ok.kind hk hn hm fin) hd
 ·rcases hk with hk | hk
  ·exact wpAny_Name (wpAny_loadName_cell I.ok.kind hk hc gh fin) hd
  ·exact wpAny_Name (wpAny_loadName_free I.ok.kind hk hc gh fin lT) hd
theorem ai {i j pos}:PE X (.Constant (.int i) j pos) (tC (.int i)):=fun _ _ _ H _ I h=>wpAny_Constant_int ⟨.int i,H,I.tok _,⟨_,rfl⟩,h⟩
theorem sY {b j pos}:PE X (.Constant (.bool b) j pos) (tC (.bl b)):=fun _ _ _ H _ I h=>Constant_bool ⟨.bl b,H,I,rfl,h⟩
theorem Gb {x j pos}:PE X (.Constant (.str x) j pos) (tC (.str x)):=fun _ _ _ H _ I h=>Calls.Constant_str ⟨.str x,H,I.tok _,⟨_,rfl⟩,h⟩
def Gl (X:Cx) (x:Str):Prop:=X.env.kindOf x=some .globalImplicit
theorem qQ {E:Value->Shared->Prop} {pins:List (Addr×Obj)} {s:Shared} {σ:St} {H:Hp} {x:Str} {u:Value} {pos:Pos} {Q:Value->Shared->Prop} (I:Inv X pins σ H s) (hg:Gl X x) (hm:X.mg x=some u) (h:Q u s)
  (hd:(x==("__debug__":Str))=false:=by decide):wpAny (model X.prog X.w) X.A (eval (.Name x pos) X.env) Q E s:=
 Calls.Name_function_global I.ok.kind hg (Calls.loadGlobal_global (by rw[I.ok.glob];exact I.mod.glob.keeps I.bk) hm h) hd
theorem gy {E:Value->Shared->Prop} {pins:List (Addr×Obj)} {s:Shared} {σ:St} {H:Hp} {x:Str} {u:Value} {pos:Pos} {Q:Value->Shared->Prop} (I:Inv X pins σ H s) (hg:Gl X x) (hm:X.mg x=none) (hv:bootBuiltins x=some u) (h:Q u s)
  (hn:x≠"__name__":=by decide) (hd:(x==("__debug__":Str))=false:=by decide):wpAny (model X.prog X.w) X.A (eval (.Name x pos) X.env) Q E s:=by
 obtain ⟨mb,h1,h2⟩:=I.mod.blt
 exact Calls.Name_function_global I.ok.kind hg (Calls.loadGlobal_builtin (by rw[I.ok.glob];exact I.mod.glob.keeps I.bk) hm (by rw[I.ok.blt];exact h1.keeps I.bk) ((h2 x hn).trans hv) h) hd
theorem w_ {x:Str} {v:V} {u:Value} {pos:Pos} (hg:Gl X x) (hm:X.mg x=some u) (r:RelV v u) (hd:(x==("__debug__":Str))=false:=by decide):PE X (.Name x pos) (tC v):=
 fun _ _ _ H _ I h=>qQ I hg hm ⟨v,H,I,r,h⟩ hd
variable {a b:Expr} {ta tb:TE} {pos:Pos}
def tB (t:TE):TT:=fun σ H Q=>t σ H fun x H1=> ∃c,x= .bl c/\Q c H1
theorem g9 {e:Expr} {t:TE} (h:PE X e t) (he: ∀whole,isTrue e X.env whole=(do let v <-whole;standAt e.pos;holding [v] (truthy v)):=by intro _;rfl):PT X e (tB t):=by
 intro pins s σ H Q I hw
 refine isTrue_plain (bZ (h pins s σ H _ I hw) fun v s1 ⟨x,H1,I1,r1,q1⟩=>?_) (he _)
 obtain ⟨d,rfl,q⟩:=q1
 cases r1
 exact wpAny_truthy_bool ⟨H1,I1,q⟩
variable {tA Mh:TT} {rest:List Expr}
def Nm (t u:TT):TT:=fun σ H Q=>t σ H fun c H1=>if c=true then u σ H1 Q else Q false H1
def QX (t u:TT):TT:=fun σ H Q=>t σ H fun c H1=>if c=true then Q true H1 else u σ H1 Q
def Nn (t:TT):TT:=fun σ H Q=>t σ H fun c H1=>Q (!c) H1
theorem gz (ha:PT X a tA):PW X (.BoolOp .And [a] pos) tA:=by
 intro wh pins s σ H Q I h
 refine isTrue_and (bZ (ha pins s σ H Q I h) fun c s1 e=>?_)
 cases c with
 | true=>exact isTrue_and_nil e
 | false=>exact e
theorem z9 (ha:PT X a tA):PW X (.BoolOp .Or [a] pos) tA:=by
 intro wh pins s σ H Q I h
 refine isTrue_or (bZ (ha pins s σ H Q I h) fun c s1 e=>?_)
 cases c with
 | false=>exact isTrue_or_nil e
 | true=>exact e
theorem g_ (ha:PT X a tA) (hb:PW X (.BoolOp .And (b::rest) pos) Mh):PW X (.BoolOp .And (a::b::rest) pos) (Nm tA Mh):=by
 intro wh pins s σ H Q I h
 refine isTrue_and (bZ (ha pins s σ H _ I h) fun c s1 ⟨H1,I1,q1⟩=>?_)
 cases c with
 | true=>exact hb wh pins s1 σ H1 Q I1 q1
 | false=>exact ⟨H1,I1,q1⟩
theorem E1 (ha:PT X a tA) (hb:PW X (.BoolOp .Or (b::rest) pos) Mh):PW X (.BoolOp .Or (a::b::rest) pos) (QX tA Mh):=by
 intro wh pins s σ H Q I h
 refine isTrue_or (bZ (ha pins s σ H _ I h) fun c s1 ⟨H1,I1,q1⟩=>?_)
 cases c with
 | true=>exact ⟨H1,I1,q1⟩
 | false=>exact hb wh pins s1 σ H1 Q I1 q1
theorem Gd (ha:PT X a tA):PT X (.UnaryOp .Not a pos) (Nn tA):=by
 intro pins s σ H Q I h
 exact isTrue_not (ha pins s σ H (fun c H1=>Q (!c) H1) I h)
def Np (ta tb:TE):TE:=fun σ H Q=>ta σ H fun x H1=> ∃c,x= .bl c/\if c=true then Q (.bl true) H1 else tb σ H1 Q
theorem Ge {op} {t:TE} (h:PE X a t):PE X (.BoolOp op [a] pos) t:=fun pins s σ H Q I hw=>BoolOp_one (h pins s σ H Q I hw)
theorem Kc (ha:PE X a ta) (hb:PE X (.BoolOp .Or (b::rest) pos) tb):PE X (.BoolOp .Or (a::b::rest) pos) (Np ta tb):=by
 intro pins s σ H Q I h
 refine BoolOp_or (bZ (ha pins s σ H _ I h) fun v s1 ⟨x,H1,I1,r1,q1⟩=>?_)
 obtain ⟨c,rfl,q1⟩:=q1
 cases r1
 refine wpAny_truthy_bool ?_
 cases c with
 | false=>exact hb pins s1 σ H1 Q I1 q1
 | true=>exact ⟨.bl true,H1,I1,rfl,q1⟩
end
def bJ (K:PySem.W.Frag) (H:Hp) (a:Addr) (xs:List V):Prop:=
 Rd H a (.lst xs)\/
  ∃(o:Obj) (aI:Array Value) (n:Nat),K.lookup a=some o/\o.cls= .type "list"/\o.dict=none/\o.data= .seq aI n/\aI.size<=sizeLine/\Vals xs aI.toList
def cS (K:PySem.W.Frag) (H:Hp) (a:Addr) (xs:List V):Prop:=
 Rd H a (.tup xs)\/
  ∃(o:Obj) (aI:Array Value) (n:Nat),K.lookup a=some o/\o.cls= .type "tuple"/\o.data= .seq aI n/\aI.size<=sizeLine/\Vals xs aI.toList
noncomputable def Nq:Value->Option V
 | .none=>some .fq
 | .bool b=>some (.bl b)
 | .int i _=>some (.int i)
 | .str x _=>some (.str x)
 | .bytes b _=>some (.wZ b)
 | .float b _=>some (.Md b)
 | .ref a=>some (.ref a)
 | .type n=>some (.ty n)
 | _=>none
theorem RelV.abs {x:V} {u:Value} (r:RelV x u):Nq u=some x:=by
 cases x with
 | fq=>cases r;rfl
 | bl _=>cases r;rfl
 | int _=>obtain ⟨t,rfl⟩:=r;rfl
 | str _=>obtain ⟨t,rfl⟩:=r;rfl
 | wZ _=>obtain ⟨t,rfl⟩:=r;rfl
 | Md _=>obtain ⟨t,rfl⟩:=r;rfl
 | ref _=>cases r;rfl
 | ty _=>cases r;rfl
theorem RelV.inj {x y:V} {u:Value} (r:RelV x u) (q:RelV y u):x=y:=UE (r.abs.symm.trans q.abs)
theorem Vals.inj: ∀{xs ys:List V} {us:List Value},Vals xs us->Vals ys us->xs=ys
 | _,_,_, .nil, .nil=>rfl
 | _,_,_, .cons r t, .cons r' t'=>by rw[r.inj r',Vals.inj t t']
section
variable {X:Cx} {pins:List (Addr×Obj)} {σ:St} {H:Hp} {s:Shared} {a:Addr} {xs ys:List V}
theorem bJ.of {K:PySem.W.Frag} (h:H a=some (.lst xs)):bJ K H a xs:= .inl (.inl h)
theorem cS.of {K:PySem.W.Frag} (h:H a=some (.tup xs)):cS K H a xs:= .inl (.inl h)
theorem Inv.list (I:Inv X pins σ H s) (h:bJ X.K H a xs): ∃aI:List Value,Vals xs aI/\PlainL s.heap a aI.toArray/\xs.length<=sizeLine:=by
 rcases h with h | ⟨o,aI,n,hk,hc,hd,hs,hz,r⟩
 ·obtain ⟨z,aI,n,r,e⟩:=h.ok I.bR
  exact ⟨aI,r,⟨_,n,e,rfl,rfl,rfl⟩,z⟩
 ·refine ⟨aI.toList,r,⟨o,n,I.yz a o hk,hc,hd,by simpa using hs⟩,?_⟩
  have e:=r.length
  simp only[Array.length_toList]at e
  omega
theorem Inv.tuple (I:Inv X pins σ H s) (h:cS X.K H a xs): ∃aI:List Value,Vals xs aI/\IsTup s.heap a aI.toArray/\xs.length<=sizeLine:=by
 rcases h with h | ⟨o,aI,n,hk,hc,hs,hz,r⟩
 ·obtain ⟨z,aI,r,p⟩:=h.ok I.bR
  exact ⟨aI,r,p,z⟩
 ·refine ⟨aI.toList,r,⟨o,I.yz a o hk,hc,n,by simpa using hs⟩,?_⟩
  have e:=r.length
  simp only[Array.length_toList]at e
  omega
theorem Inv.sZ (I:Inv X pins σ H s) (h:bJ X.K H a xs) (h':bJ X.K H a ys):xs=ys:=by
 obtain ⟨aI,r,⟨o,n,e,_,_,d⟩,_⟩:=I.list h
 obtain ⟨its',r',⟨o',n',e',_,_,d'⟩,_⟩:=I.list h'
 rw[e]at e';cases e'
 rw[d]at d'
 injection d' with d1 _
 have:aI=its':=by simpa using congrArg Array.toList d1
 subst this
 exact r.inj r'
theorem Inv.pH (I:Inv X pins σ H s) (h:cS X.K H a xs) (h':cS X.K H a ys):xs=ys:=by
 obtain ⟨aI,r,⟨o,e,_,n,d⟩,_⟩:=I.tuple h
 obtain ⟨its',r',⟨o',e',_,n',d'⟩,_⟩:=I.tuple h'
 rw[e]at e';cases e'
 rw[d]at d'
 injection d' with d1 _
 have:aI=its':=by simpa using congrArg Array.toList d1
 subst this
 exact r.inj r'
end
noncomputable abbrev Cx.oU (X:Cx) (E:Value->Shared->Prop):Cx:={ X with xe:=E }
noncomputable abbrev Cx.Mi (X:Cx):Cx:=X.oU fun _ _=>False
theorem Cx.Ok.oU {X:Cx} (ok:X.Ok) (E:Value->Shared->Prop):(X.oU E).Ok:=
 ⟨ok.mod,ok.kind,ok.glob,ok.blt,ok.above,ok.inj,ok.has,ok.J6,ok.hd,ok.frames,ok.Mf,ok.Pe,ok.bs,ok.C9,ok.z8,ok.C_,ok.lS,ok.FW⟩
theorem Cx.Ok.hJ {X:Cx} {E:Value->Shared->Prop} (ok:(X.oU E).Ok):X.Ok:=
 ⟨ok.mod,ok.kind,ok.glob,ok.blt,ok.above,ok.inj,ok.has,ok.J6,ok.hd,ok.frames,ok.Mf,ok.Pe,ok.bs,ok.C9,ok.z8,ok.C_,ok.lS,ok.FW⟩
section
variable {X:Cx} {pins:List (Addr×Obj)} {σ:St} {H:Hp} {s:Shared} {E:Value->Shared->Prop}
theorem Inv.oU (I:Inv X pins σ H s) (E:Value->Shared->Prop):Inv (X.oU E) pins σ H s:=⟨I.ok.oU E,I.os,I.bare,I.base,I.loc,I.cell,I.free,I.g8,I.pin,I.bR,I.len⟩
theorem Inv.hJ (I:Inv (X.oU E) pins σ H s):Inv X pins σ H s:=⟨I.ok.hJ,I.os,I.bare,I.base,I.loc,I.cell,I.free,I.g8,I.pin,I.bR,I.len⟩
theorem SP.hJ {D:Ends} {f:Flow} {s':Shared} (h:SP (X.oU E) pins D f s'):SP X pins D f s':=by
 cases f with
 | next=>obtain ⟨σ',H',I,q⟩:=h;exact ⟨σ',H',I.hJ,q⟩
 | brk=>obtain ⟨σ',H',I,q⟩:=h;exact ⟨σ',H',I.hJ,q⟩
 | cont=>obtain ⟨σ',H',I,q⟩:=h;exact ⟨σ',H',I.hJ,q⟩
 | ret u=>obtain ⟨v,σ',H',I,r,q⟩:=h;exact ⟨v,σ',H',I.hJ,r,q⟩
theorem u_.Mi {st:List Stmt} {t:TS} (h:u_ X.Mi st t):u_ X st t:=fun pins s σ H D I hw=>
 wpAny_mono (h pins s σ H D (I.oU _) hw) (fun _ _ q=>q.hJ) fun _ _ z=>False.elim z
end
section
variable {X:Cx} {st:Stmt} {rest:List Stmt} {t u:TS} {e:Expr} {te:TE} {pos:Pos}
def Kd:TS:=fun D σ H=>D.nx σ H
def Dd (t u:TS):TS:=fun D σ H=>t { D with nx:=u D } σ H
theorem bB:u_ X [] Kd:=fun _ _ σ H _ I h=>wpAny_execs_nil ⟨σ,H,I,h⟩
theorem ae (h1:PS X st t) (h2:u_ X rest u):u_ X (st::rest) (Dd t u):=by
 intro pins s σ H D I h
 refine wpAny_execs_cons (bZ (h1 pins s σ H { D with nx:=u D } I h) fun f s1 q=>?_)
 cases f with
 | next=>
  obtain ⟨σ',H',I',q⟩:=q
  exact h2 pins s1 σ' H' D I' q
 | ret v=>exact q
 | brk=>exact q
 | cont=>exact q
theorem ah (h1:PS X st t):u_ X [st] t:=by
 intro pins s σ H D I h
 refine wpAny_execs_cons (bZ (h1 pins s σ H D I h) fun f s1 q=>?_)
 cases f with
 | next=>exact wpAny_execs_nil q
 | ret v=>exact q
 | brk=>exact q
 | cont=>exact q
theorem Inv.quiet {pins:List (Addr×Obj)} {σ:St} {H:Hp} {s:Shared} (I:Inv X pins σ H s):interactive X.env=false:=by simp[interactive,I.ok.kind]
def Ke (te:TE):TS:=fun D σ H=>te σ H fun _ H1=>D.nx σ H1
theorem eA (he:PE X e te) (hs:swapsWith e none pos.line X.env=pure false:=by rfl):PS X (.Expr e pos) (Ke te):=by
 intro pins s σ H D I h
 exact wpAny_Expr_any (bZ (he pins s σ H _ I h) fun v s1 ⟨x,H1,I1,r1,q1⟩=>⟨σ,H1,I1,q1⟩) I.quiet hs
def Nr (te:TE):TS:=fun D σ H=>te σ H D.rt
theorem aG (he:PE X e te):PS X (.Return (some e) pos) (Nr te):=by
 intro pins s σ H D I h
 exact wpAny_Return_some (bZ (he pins s σ H _ I h) fun v s1 ⟨x,H1,I1,r1,q1⟩=>⟨x,σ,H1,I1,r1,q1⟩)
def Nt (c:TT) (t u:TS):TS:=fun D σ H=>c σ H fun b H1=>if b=true then t D σ H1 else u D σ H1
theorem b5 {c:Expr} {a b:List Stmt} {tc:TT} (hc:PT X c tc) (ha:u_ X a t) (hb:u_ X b u):PS X (.If c a b pos) (Nt tc t u):=by
 intro pins s σ H D I h
 refine wpAny_If (bZ (hc pins s σ H _ I h) fun d s1 ⟨H1,I1,q1⟩=>?_)
 cases d with
 | true=>exact ha pins s1 σ H1 D I1 q1
 | false=>exact hb pins s1 σ H1 D I1 q1
end
abbrev TG:=V->St->Hp->(St->Hp->Prop)->Prop
abbrev E2:=List V->St->Hp->(St->Hp->Prop)->Prop
def PG (X:Cx) (target:Expr) (t:TG):Prop:=
 ∀(pins:List (Addr×Obj)) (s:Shared) (σ:St) (H:Hp) (v:V) (u:Value) (Q:St->Hp->Prop),Inv X pins σ H s->RelV v u->t v σ H Q->
  wpAny (model X.prog X.w) X.A (assign target X.env u) (fun _ s'=> ∃σ' H',Inv X pins σ' H' s'/\Q σ' H') X.xe s
def Kf (X:Cx) (ts:List Expr) (t:E2):Prop:=
 ∀(pins:List (Addr×Obj)) (s:Shared) (σ:St) (H:Hp) (vs:List V) (us:List Value) (Q:St->Hp->Prop),Inv X pins σ H s->Vals vs us->t vs σ H Q->
  wpAny (model X.prog X.w) X.A (assignInOrder ((assignEach ts X.env).map (·.2)) us) (fun _ s'=> ∃σ' H',Inv X pins σ' H' s'/\Q σ' H') X.xe s
abbrev Gf:=V->V->V->Hp->(Hp->Prop)->Prop
def Kg (X:Cx) (t:Gf):Prop:=
 ∀(pins:List (Addr×Obj)) (s:Shared) (σ:St) (H:Hp) (o i v:V) (ov iv u:Value) (Q:Hp->Prop),Inv X pins σ H s->RelV o ov->RelV i iv->RelV v u->t o i v H Q->
  wpAny (model X.prog X.w) X.A (setItem ov iv u) (fun _ s'=> ∃H',Inv X pins σ H' s'/\Q H') X.xe s
abbrev Mj:=V->V->Hp->VK->Prop
def Kh (X:Cx) (op:Operator) (t:Mj):Prop:=
 ∀(pins:List (Addr×Obj)) (s:Shared) (σ:St) (H:Hp) (x y:V) (v u:Value) (Q:VK),Inv X pins σ H s->RelV x v->RelV y u->t x y H Q->
  wpAny (model X.prog X.w) X.A (inplaceOp op v u) (EP X pins σ Q) X.xe s
section
variable {X:Cx} {pos:Pos}
def s_ (i:Nat):TG:=fun v σ H Q=>Q (σ.set i (some v)) H
theorem aU {i:Nat} {x:Str} (hN:X.N.Nodup) (hi:X.N[i]? =some x) (hx:Loc X.env.scope x) (hf:X.fn x=true\/X.env.scope.names.lookup x=some .local:=by first | exact .inl rfl | exact .inr rfl | assumption):PG X (.Name x pos) (s_ i):=by
 intro pins s σ H v u Q I r h
 exact wpAny_assign_Name (gg I hN hi hx r (fun s' I'=>⟨_,H,I',h⟩) hf)
def Nu:E2:=fun vs σ H Q=>vs=[]/\Q σ H
def Ki (t:TG) (u:E2):E2:=fun vs σ H Q=> ∃v r,vs=v::r/\t v σ H fun σ' H'=>u r σ' H' Q
theorem mE:Kf X [] Nu:=by
 intro pins s σ H vs us Q I r h
 obtain ⟨e,h⟩:=h
 subst e
 cases r
 exact assignInOrder_nil ⟨σ,H,I,h⟩
theorem eG {e:Expr} {es:List Expr} {t:TG} {u:E2} (h1:PG X e t) (h2:Kf X es u)
  (hs:(assignEach (e::es) X.env).map (·.2)=assign e X.env::(assignEach es X.env).map (·.2):=by rfl):Kf X (e::es) (Ki t u):=by
 intro pins s σ H vs us Q I r h
 obtain ⟨v,vr,e1,h⟩:=h
 subst e1
 cases r with
 | cons r rr=>
  rw[hs]
  refine assignInOrder_cons (bZ (h1 pins s σ H _ _ _ I r h) fun _ s1 ⟨σ1,H1,I1,q1⟩=>?_)
  exact h2 pins s1 σ1 H1 _ _ Q I1 rr q1
def Kj (K:PySem.W.Frag) (n:Nat) (t:E2):TG:=fun v σ H Q=> ∃a xs,v= .ref a/\cS K H a xs/\xs.length=n/\t xs σ H Q
theorem Gg {es:List Expr} {k:Nat} {t:E2} {n:Nat} (hc:X.calm=true) (h:Kf X es t)
  (hn:(assignEach es X.env).length=n:=by rfl) (lG:(assignEach es X.env).findIdx? (·.1)=none:=by rfl):PG X (.Tuple es k pos) (Kj X.K n t):=by
 intro pins s σ H v u Q I r hw
 obtain ⟨a,xs,e1,hq,hl,hw⟩:=hw
 subst e1
 cases r
 obtain ⟨aI,rv,ht,hz⟩:=I.tuple hq
 refine assign_Tuple_tuple (I.ok.hd hc) ht (by simp[hn, <-hl,rv.length]) lG fun h' hx=>?_
 have I1:Inv X pins σ H { s with heap:=h' }:=I.kept (t':=s.toks) fun b o e=>hx b o (UJ (UD e)) e
 exact h pins _ σ H xs _ Q I1 (by simpa using rv) hw
def Nv (to ti:TE) (t:Gf):TG:=fun v σ H Q=>to σ H fun o H1=>ti σ H1 fun i H2=>t o i v H2 fun H3=>Q σ H3
theorem z_ {o i:Expr} {to ti:TE} {t:Gf} (ho:PE X o to) (hi:PE X i ti) (hs:Kg X t)
  (ha: ∀v,assign (.Subscript o i pos) X.env v=(do
   let ov <-holding [v] (eval o X.env)
   let iv <-holding [v,ov] (eval i X.env)
   standAt pos
   holding [v,ov,iv] (setItem ov iv v)
   release [v,ov,iv] []):=by intro _;rfl):PG X (.Subscript o i pos) (Nv to ti t):=by
 intro pins s σ H v u Q I r h
 rw[ha]
 refine wpAny_bind (wpAny_holding (bZ (ho pins s σ H _ I h) fun ov s1 ⟨x,H1,I1,r1,q1⟩=>?_))
 refine wpAny_bind (wpAny_holding (bZ (hi pins s1 σ H1 _ I1 q1) fun iv s2 ⟨y,H2,I2,r2,q2⟩=>?_))
 refine wpAny_bind (wpAny_standAt (wpAny_bind (wpAny_holding (bZ (hs pins s2 σ H2 x y v ov iv u _ I2 r1 r2 r q2) fun _ s3 ⟨H3,I3,q3⟩=>?_))))
 exact wpAny_release ⟨σ,H3,I3,q3⟩
def De (te:TE) (g:TG):TS:=fun D σ H=>te σ H fun x H1=>g x σ H1 D.nx
theorem Aa {tg e:Expr} {te:TE} {g:TG} (he:PE X e te) (hg:PG X tg g) (hs:swapsWithSole [tg] e pos.line X.env=pure false:=by rfl) (hw:swappedStores [tg] e X.env=pure none:=by rfl)
  (h1:(assignEach [tg] X.env).map (·.2)=[assign tg X.env]:=by rfl):PS X (.Assign [tg] e pos) (De te g):=by
 intro pins s σ H D I h
 refine wpAny_Assign_stores (bZ (he pins s σ H _ I h) fun v s1 ⟨x,H1,I1,r1,q1⟩=>?_) hs hw
 rw[h1]
 exact bZ (hg pins s1 σ H1 x v _ I1 r1 q1) fun _ s2 q=>q
theorem ao {i:Nat} {x:Str} {e:Expr} {te:TE} {pos':Pos} (hN:X.N.Nodup) (hi:X.N[i]? =some x) (hx:Loc X.env.scope x) (he:PE X e te) (hs:swapsWith e (some (.Name x pos')) pos.line X.env=pure false:=by rfl) (hf:X.fn x=true\/X.env.scope.names.lookup x=some .local:=by first | exact .inl rfl | exact .inr rfl | assumption):
  PS X (.Assign [.Name x pos'] e pos) (De te (s_ i)):=by
 intro pins s σ H D I h
 refine wpAny_Assign_Name (bZ (he pins s σ H _ I h) fun v s1 ⟨y,H1,I1,r1,q1⟩=>?_) hs
 exact gg I1 hN hi hx r1 (fun s2 I2=>⟨_,H1,I2,q1⟩) hf
def Nw (i j:Nat) (ta:TA):TS:=fun D σ H=>ta σ H fun vs H1=> ∃v w,vs=[v,w]/\D.nx ((σ.set i (some v)).set j (some w)) H1
theorem Ab {i j:Nat} {x y:Str} {a b:Expr} {ta:TA} {px py pt:Pos} {kt k2 Ny} (hc:X.calm=true) (hN:X.N.Nodup) (hi:X.N[i]? =some x) (hj:X.N[j]? =some y) (QY:i≠j)
  (hx:X.env.scope.names.lookup x=some .local) (hy:X.env.scope.names.lookup y=some .local) (ha:PA X [a,b] ta)
  (hw:swappedStores [.Tuple [.Name x px, .Name y py] kt pt] (.Tuple [a,b] k2 Ny) X.env=pure (some [x,y]))
  (hs:swapsWithSole [.Tuple [.Name x px, .Name y py] kt pt] (.Tuple [a,b] k2 Ny) pos.line X.env=pure false:=by rfl):
  PS X (.Assign [.Tuple [.Name x px, .Name y py] kt pt] (.Tuple [a,b] k2 Ny) pos) (Nw i j ta):=by
 intro pins s σ H D I h
 rw[exec_Assign_arm]
 refine wpAny_bind (wpAny_standAt ?_)
 rw[hs]
 refine wpAny_bind (wpAny_pure ?_)
 rw[if_neg (by decide)]
 refine wpAny_bind (Tuple_ (bZ (ha _ pins s σ H _ I h) fun us s1 ⟨vs,H1,I1,r1,q1⟩=>?_))
 obtain ⟨v,w,e1,q1⟩:=q1
 subst e1
 obtain ⟨u1,u2,rfl,rv,qR⟩: ∃u1 u2,us=[u1,u2]/\RelV v u1/\RelV w u2:=by
  cases r1 with
  | cons p q=>
   cases q with
   | cons p' q'=>
    cases q'
    exact ⟨_,_,rfl,p,p'⟩
 refine wpAny_newObj_type ?_ (by show 2<=sizeLine;decide)
 have I2:Inv X pins σ H1 { s1 with heap:=s1.heap.push { cls:= .type "tuple",data:= .seq [u1,u2].toArray } }:=I1.kept (t':=s1.toks) fun b o e=>Pz _ e
 rw[hw]
 refine wpAny_bind (wpAny_pure ?_)
 show wpAny (model X.prog X.w) X.A (do rule "assign.swapped-stores";let items <-unpackItems (.ref s1.heap.objs.size) 2 none;assignInOrder [fun v=>bindName X.env y v,fun v=>bindName X.env x v] items.reverse;pure Flow.next) _ _ _
 refine wpAny_bind (wpAny_rule (wpAny_bind (unpackItems_tuple (items:= #[u1,u2]) (I.ok.hd hc) (IsTup.new s1.heap _) fun h' E3=>?_)))
 have I3:=I2.kept (h':=h') (t':=s1.toks) fun b o e=>E3 b o (UJ (UD e)) e
 show wpAny _ _ (assignInOrder [fun v=>bindName X.env y v,fun v=>bindName X.env x v] [u2,u1] >>= fun _=>pure Flow.next) _ _ _
 refine wpAny_bind (assignInOrder_cons (wpAny_bindName (gg I3 hN hj (.inl hy) qR (fun s2 I4=>?_) (.inr hy))))
 refine assignInOrder_cons (wpAny_bindName (gg I4 hN hi (.inl hx) rv (fun s3 I5=>assignInOrder_nil (wpAny_pure ?_)) (.inr hx)))
 rw[List.set_comm _ _ (Ne.symm QY)]at I5
 exact ⟨_,H1,I5,q1⟩
def Nz (i:Nat) (te:TE) (ti:Mj):TS:=fun D σ H=> ∃x,σ[i]? =some (some x)/\te σ H fun y H1=>ti x y H1 fun z H2=>D.nx (σ.set i (some z)) H2
theorem jm {i:Nat} {x:Str} {e:Expr} {te:TE} {op:Operator} {ti:Mj} {pos':Pos} (hN:X.N.Nodup) (hi:X.N[i]? =some x) (hx:Loc X.env.scope x) (he:PE X e te) (ho:Kh X op ti) (hf:X.fn x=true\/X.env.scope.names.lookup x=some .local:=by first | exact .inl rfl | exact .inr rfl | assumption):
  PS X (.AugAssign (.Name x pos') op e pos) (Nz i te ti):=by
 intro pins s σ H D I h
 obtain ⟨v,e1,h⟩:=h
 obtain ⟨m,hn,hl⟩:=I.loc
 have QZ:J5 X.env.scope x:=by rcases hx with k | k;exact .inl k;exact .inr (.inl k)
 obtain ⟨u,r,l⟩:=hl i x v hi e1 QZ
 refine wpAny_AugAssign_Name ?_
 have go:wpAny (model X.prog X.w) X.A (eval e X.env) (fun w s₂=>wpAny (model X.prog X.w) X.A (inplaceOp op u w) (fun r s₃=>wpAny (model X.prog X.w) X.A (storeName X.env x r) (fun _=>SP X pins D .next) X.xe s₃) X.xe s₂) X.xe s:=by
  refine bZ (he pins s σ H _ I h) fun w s1 ⟨y,H1,I1,r1,q1⟩=>?_
  refine bZ (ho pins s1 σ H1 v y u w _ I1 r r1 q1) fun z s2 ⟨zv,H2,I2,r2,q2⟩=>?_
  exact gg I2 hN hi hx r2 (fun s3 I3=>⟨_,H2,I3,q2⟩) hf
 rcases l with ⟨hk,hm⟩ | ⟨hk,c,hc,gh⟩
 ·exact wpAny_loadName_local I.ok.kind hk hn hm go
 ·rcases hk with hk | hk
  ·exact wpAny_loadName_cell I.ok.kind hk hc gh go
  ·rcases hx with k | k
   ·have:X.env.scope.names.lookup x=some .free:=hk
    rw[k]at this;cases this
   ·have:X.env.scope.names.lookup x=some .free:=hk
    rw[k]at this;cases this
def Pl (f:Int->Int->Int):Mj:=fun x y H Q=> ∃i j,x= .int i/\y= .int j/\Q (.int (f i j)) H
theorem qS:Kh X .Add (Pl fun i j=>i+j):=by
 intro pins s σ H x y v u Q I r1 r2 h
 obtain ⟨i,j,e1,e2,q⟩:=h
 subst e1;subst e2
 obtain ⟨t,rfl⟩:=r1
 obtain ⟨t',rfl⟩:=r2
 exact iadd_int ⟨.int _,H,I.tok _,⟨_,rfl⟩,q⟩
theorem Gh:Kh X .Sub (Pl fun i j=>i - j):=by
 intro pins s σ H x y v u Q I r1 r2 h
 obtain ⟨i,j,e1,e2,q⟩:=h
 subst e1;subst e2
 obtain ⟨t,rfl⟩:=r1
 obtain ⟨t',rfl⟩:=r2
 exact isub_int ⟨.int _,H,I.tok _,⟨_,rfl⟩,q⟩
end
section
variable {X:Cx} {pos:Pos}
end
structure It where
 go:Nat->Hp->Prop
 Ac:Nat->Hp->V->Hp->Prop
 stop:Nat->Hp->Prop
def lU (X:Cx) (pins:List (Addr×Obj)) (H:Hp) (b:Addr):Prop:=
 H b=none/\b≠X.env.locals/\b∉X.fs/\(b∈X.ex\/X.s₀.heap.objs.size<=b)/\(∀x c,X.env.cells.lookup x=some c->c≠b)/\ ∀p∈X.pn++pins,p.1≠b
theorem Inv.oV {X:Cx} {pins:List (Addr×Obj)} {σ:St} {H H':Hp} {s:Shared} {b:Addr} (I:Inv X pins σ H s) (hb:s.heap.objs.size<=b) (hn:H' b=none):lU X pins H' b:=by
 refine ⟨hn,We (UN I.lt hb),I.FX hb, .inr (UW I.sz hb),fun x c e z=>?_,fun p hp z=>?_⟩
 ·obtain ⟨v,q⟩:=I.cell x c e
  exact absurd (UN q.lt (by rw[z];exact hb)) (U_ _)
 ·exact absurd (UN (UD (I.pin p hp).1) (by rw[z];exact hb)) (U_ _)
structure Turn (P:Program) (w:World) (K:PySem.W.Frag) (tg:Expr) (J:It) (fp:List Addr) (it:Addr) (tn:Nat->Heap->Prop):Prop where
 mem:it∈fp
 obj: ∀i h,tn i h-> ∀b∈fp, ∃o,h.get? b=some o/\ ∀v,o.data≠ .cell v
 keep: ∀i h h',tn i h->(∀b∈fp, ∀o,h.get? b=some o->h'.get? b=some o)->tn i h'
 item: ∀(X:Cx),X.prog=P->X.w=w->X.K=K->X.calm=true-> ∀(i:Nat) (pins:List (Addr×Obj)) (s:Shared) (σ:St) (H:Hp) (E:Value->Shared->Prop),Inv X pins σ H s->(∀b∈fp,lU X pins H b)->tn i s.heap->J.go i H->
  wpAny (model P w) X.A (pyNext (.ref it)) (fun r s1=> ∃u,r=some u/\
   wpAny (model P w) X.A (letOwnedTupleGo tg (.ref it) u) (fun _ s2=> ∃x H',Inv X pins σ H' s2/\RelV x u/\J.Ac i H x H'/\tn (i+1) s2.heap/\ ∀b∈fp,H' b=none) E s1) E s
 done: ∀(X:Cx),X.prog=P->X.w=w->X.K=K->X.calm=true-> ∀(i:Nat) (pins:List (Addr×Obj)) (s:Shared) (σ:St) (H:Hp) (E:Value->Shared->Prop),Inv X pins σ H s->(∀b∈fp,lU X pins H b)->tn i s.heap->J.stop i H->
  wpAny (model P w) X.A (pyNext (.ref it)) (fun r s1=>r=none/\Inv X pins σ H s1) E s
 self: ∀(A:Around) (i:Nat) (s:Shared) (Q:Value->Shared->Prop) (E:Value->Shared->Prop),tn i s.heap->Q (.ref it) s->wpAny (model P w) A (pyIter (.ref it)) Q E s
abbrev TI:=St->Hp->(It->Hp->Prop)->Prop
def Pm (X:Cx) (pins:List (Addr×Obj)) (σ:St) (tg:Expr) (R:It->Hp->Prop) (NA:Value) (s2:Shared):Prop:=
 ∃(it:Addr) (fp:List Addr) (tn:Nat->Heap->Prop) (J:It) (H':Hp),NA= .ref it/\Inv X pins σ H' s2/\Turn X.prog X.w X.K tg J fp it tn/\tn 0 s2.heap/\(∀b∈fp,lU X pins H' b)/\R J H'
def PI (X:Cx) (tg iter:Expr) (wi:TI):Prop:=
 ∀(pins:List (Addr×Obj)) (s:Shared) (σ:St) (H:Hp) (R:It->Hp->Prop),Inv X pins σ H s->wi σ H R->
  wpAny (model X.prog X.w) X.A (eval iter X.env) (fun v s1=>wpAny (model X.prog X.w) X.A (pyIter v) (Pm X pins σ tg R) X.xe s1) X.xe s
theorem tf {M:Model} {A:Around} {E:Value->Shared->Prop} {s:Shared} {tg:Expr} {it:Addr} {u:Value} {o:Obj} {n:String} {vs:Array Value} {Q:Unit->Shared->Prop} (ho:s.heap.get? it=some o) (hc:o.cls= .type n) (hd:o.data= .fields vs)
  (hn:["enumerate","zip","dict_itemiterator","dict_reverseitemiterator","odict_iterator","itertools.zip_longest","itertools.pairwise"].contains n=false) (hQ:Q () s):wpAny M A (letOwnedTupleGo tg (.ref it) u) Q E s:=by
 unfold letOwnedTupleGo
 cases tg<;>first
  | exact wpAny_pure hQ
  |(cases u<;>first
    | exact wpAny_pure hQ
    |(refine wpAny_bind (wpAny_load ho ?_)
      rw[hc,hd]
      show wpAny M A (if (["enumerate","zip","dict_itemiterator","dict_reverseitemiterator","odict_iterator","itertools.zip_longest","itertools.pairwise"].contains n&&vs[0]? ==some (rawInt _))=true then _ else _) Q E s
      rw[if_neg (by intro h;rw[hn,Bool.false_and]at h;cases h)]
      exact wpAny_pure hQ))
noncomputable def IB (K:PySem.W.Frag) (a:Addr):It:=
 ⟨fun i H=> ∃xs x,bJ K H a xs/\xs[i]? =some x,fun i H x H'=>H'=H/\ ∀xs,bJ K H a xs->xs[i]? =some x,fun i H=> ∃xs,bJ K H a xs/\xs.length<=i⟩
noncomputable def NB (K:PySem.W.Frag) (a:Addr):It:=
 ⟨fun i H=> ∃xs x,cS K H a xs/\xs[i]? =some x,fun i H x H'=>H'=H/\ ∀xs,cS K H a xs->xs[i]? =some x,fun i H=> ∃xs,cS K H a xs/\xs.length<=i⟩
noncomputable def E4 (lo:Int) (n:Nat):It:=⟨fun i _=>i<n,fun i H x H'=>H'=H/\x= .int (lo+i),fun i _=>n<=i⟩
theorem yB {P:Program} {w:World} {K:PySem.W.Frag} {tg:Expr} (a it:Addr):Turn P w K tg (IB K a) [it] it (fun i h=>h.IsListIter it a i) where
 mem:=by simp
 obj:=fun i h st b hb=>by
  have e:b=it:=by simpa using hb
  subst e
  obtain ⟨o,e,c,d⟩:=st
  exact ⟨o,e,fun v z=>by rw[d]at z;cases z⟩
 keep:=fun i h h' st k=>st.at fun o e=>k it (by simp) o e
 item:=by
  intro X hP hw hK hc i pins s σ H E I hf st hg
  subst hP hw hK
  obtain ⟨xs,x,hq,hx⟩:=hg
  obtain ⟨aI,rv,p,hz⟩:=I.list hq
  obtain ⟨u,hu,ru⟩:=rv.get hx
  obtain ⟨f0,f1,f2,f3,f4,f5⟩:=hf it (by simp)
  refine wpAny_pyNext_list_item st p.isList (x:=u) (by simpa using hu) fun h' sP sb=>?_
  have I1:Inv X pins σ H { s with heap:=h' }:=I.turned (t':=s.toks) (fun b o hb e=>(sb.2 b hb).trans e) f0 f1 f3 f4 f5
  obtain ⟨o,e,c,d⟩:=id sP
  exact ⟨u,rfl,tf (s:={ s with heap:=h' }) e c d (by decide) ⟨x,H,I1,ru,⟨rfl,fun ys hy=>by rw[I.sZ hy hq];exact hx⟩,sP,fun b hb=>(hf b hb).1⟩⟩
 done:=by
  intro X hP hw hK hc i pins s σ H E I hf st hg
  subst hP hw hK
  obtain ⟨xs,hq,hx⟩:=hg
  obtain ⟨aI,rv,p,hz⟩:=I.list hq
  obtain ⟨f0,f1,f2,f3,f4,f5⟩:=hf it (by simp)
  have hl:=rv.length
  exact wpAny_pyNext_list_end (I.ok.hd hc) st p.isList (by simp;omega) fun h' eb=>⟨rfl,I.turned (t':=s.toks) (fun b o hb e=>eb b o hb e) f0 f1 f3 f4 f5⟩
 self:=fun _ _ _ _ _ st h=>wpAny_pyIter_listiter st h
theorem va {P:Program} {w:World} {K:PySem.W.Frag} {tg:Expr} (a it:Addr):Turn P w K tg (NB K a) [it] it (fun i h=>h.IsTupleIter it a i) where
 mem:=by simp
 obj:=fun i h st b hb=>by
  have e:b=it:=by simpa using hb
  subst e
  obtain ⟨o,e,c,d⟩:=st
  exact ⟨o,e,fun v z=>by rw[d]at z;cases z⟩
 keep:=fun i h h' st k=>st.at fun o e=>k it (by simp) o e
 item:=by
  intro X hP hw hK hc i pins s σ H E I hf st hg
  subst hP hw hK
  obtain ⟨xs,x,hq,hx⟩:=hg
  obtain ⟨aI,rv,p,hz⟩:=I.tuple hq
  obtain ⟨u,hu,ru⟩:=rv.get hx
  obtain ⟨f0,f1,f2,f3,f4,f5⟩:=hf it (by simp)
  refine wpAny_pyNext_tuple_item st (show s.heap.IsTuple a aI.toArray from p) (x:=u) (by simpa using hu) fun h' sP sb=>?_
  have I1:Inv X pins σ H { s with heap:=h' }:=I.turned (t':=s.toks) (fun b o hb e=>(sb.2 b hb).trans e) f0 f1 f3 f4 f5
  obtain ⟨o,e,c,d⟩:=id sP
  exact ⟨u,rfl,tf (s:={ s with heap:=h' }) e c d (by decide) ⟨x,H,I1,ru,⟨rfl,fun ys hy=>by rw[I.pH hy hq];exact hx⟩,sP,fun b hb=>(hf b hb).1⟩⟩
 done:=by
  intro X hP hw hK hc i pins s σ H E I hf st hg
  subst hP hw hK
  obtain ⟨xs,hq,hx⟩:=hg
  obtain ⟨aI,rv,p,hz⟩:=I.tuple hq
  obtain ⟨f0,f1,f2,f3,f4,f5⟩:=hf it (by simp)
  have hl:=rv.length
  exact wpAny_pyNext_tuple_end (I.ok.hd hc) st (show s.heap.IsTuple a aI.toArray from p) (by simp;omega) fun h' eb=>⟨rfl,I.turned (t':=s.toks) (fun b o hb e=>eb b o hb e) f0 f1 f3 f4 f5⟩
 self:=fun _ _ _ _ _ st h=>wpAny_pyIter_tupleiter st h
theorem vb {P:Program} {w:World} {K:PySem.W.Frag} {tg:Expr} (it:Addr) (lo:Int) (n:Nat):Turn P w K tg (E4 lo n) [it] it (fun i h=>IsRangeIter h it (lo+(i:Nat)*1) ((n:Int) - (i:Nat)) 1) where
 mem:=by simp
 obj:=fun i h st b hb=>by
  have e:b=it:=by simpa using hb
  subst e
  exact ⟨_,st,fun v z=>by
   have z':Data.fields _=Data.cell v:=z
   cases z'⟩
 keep:=fun i h h' st k=>k it (by simp) _ st
 item:=by
  intro X hP hw hK hc i pins s σ H E I hf st hg
  subst hP hw hK
  obtain ⟨f0,f1,f2,f3,f4,f5⟩:=hf it (by simp)
  have W:=Walks.range (prog:=X.prog) (w:=X.w) (I.ok.hd hc) it lo 1 n
  refine W.item i s _ _ hg st fun v h' tk hv sP kk=>?_
  obtain ⟨t,rfl⟩:=hv
  have I1:Inv X pins σ H { s with heap:=h',toks:=tk }:=I.turned (fun b o hb e=>kk b o (by simpa using hb) e) f0 f1 f3 f4 f5
  refine ⟨_,rfl,tf (s:={ s with heap:=h',toks:=tk }) (n:="range_iterator") sP rfl rfl (by decide) ⟨.int (lo+i),H,I1,⟨t,?_⟩,⟨rfl,rfl⟩,sP,fun b hb=>(hf b hb).1⟩⟩
  rw[Int.mul_one]
 done:=by
  intro X hP hw hK hc i pins s σ H E I hf st hg
  subst hP hw hK
  obtain ⟨f0,f1,f2,f3,f4,f5⟩:=hf it (by simp)
  exact wpAny_pyNext_range_end (I.ok.hd hc) st (by have:n<=i:=hg;omega) fun h' eb=>⟨rfl,I.turned (t':=s.toks) (fun b o hb e=>eb b o hb e) f0 f1 f3 f4 f5⟩
 self:=fun _ _ _ _ _ st h=>wpAny_pyIter_rangeiter st h
section
variable {X:Cx} {tg:Expr}
def E5 (K:PySem.W.Frag) (tl:TE):TI:=fun σ H R=>tl σ H fun x H1=> ∃a,x= .ref a/\(∃xs,bJ K H1 a xs)/\R (IB K a) H1
def Kk (K:PySem.W.Frag) (tl:TE):TI:=fun σ H R=>tl σ H fun x H1=> ∃a,x= .ref a/\(∃xs,cS K H1 a xs)/\R (NB K a) H1
theorem Df {l:Expr} {tl:TE} (hl:PE X l tl):PI X tg l (E5 X.K tl):=by
 intro pins s σ H R I h
 refine bZ (hl pins s σ H _ I h) fun v s1 ⟨x,H1,I1,r1,q1⟩=>?_
 obtain ⟨a,e,⟨xs,hq⟩,q⟩:=q1
 subst e
 cases r1
 obtain ⟨aI,rv,p,hz⟩:=I1.list hq
 refine wpAny_pyIter_list p.isList ?_
 refine ⟨s1.heap.objs.size,[s1.heap.objs.size],_,_,H1,rfl,I1.kept (t':=s1.toks) fun b o e=>Pz _ e,yB a _,⟨_,UG _ rfl,rfl,rfl⟩,fun b hb=>?_,q⟩
 have e:b=s1.heap.objs.size:=by simpa using hb
 subst e
 exact I1.oV (Mq _) (I1.bR.fresh (Mq _))
theorem Gi {l:Expr} {tl:TE} (hl:PE X l tl):PI X tg l (Kk X.K tl):=by
 intro pins s σ H R I h
 refine bZ (hl pins s σ H _ I h) fun v s1 ⟨x,H1,I1,r1,q1⟩=>?_
 obtain ⟨a,e,⟨xs,hq⟩,q⟩:=q1
 subst e
 cases r1
 obtain ⟨aI,rv,p,hz⟩:=I1.tuple hq
 refine wpAny_pyIter_tuple (show s1.heap.IsTuple a aI.toArray from p) ?_
 refine ⟨s1.heap.objs.size,[s1.heap.objs.size],_,_,H1,rfl,I1.kept (t':=s1.toks) fun b o e=>Pz _ e,va a _,⟨_,UG _ rfl,rfl,rfl⟩,fun b hb=>?_,q⟩
 have e:b=s1.heap.objs.size:=by simpa using hb
 subst e
 exact I1.oV (Mq _) (I1.bR.fresh (Mq _))
theorem tm {pins:List (Addr×Obj)} {σ:St} {H:Hp} {s:Shared} {R:It->Hp->Prop} {E:Value->Shared->Prop} {lo hi:Int} {t u v:Tok} {tk:Nat} (I:Inv X pins σ H s) (h1: -(2 ^ 62)<=lo) (h2:lo<2 ^ 62) (h3: -(2 ^ 62)<=hi) (h4:hi<2 ^ 62)
  (q:R (E4 lo (hi - lo).toNat) H):wpAny (model X.prog X.w) X.A (pyIter (.ref s.heap.objs.size)) (Pm X pins σ tg R) E { s with heap:=s.heap.push { cls:= .type "range",data:= .fields #[.int lo t, .int hi u, .int 1 v] },toks:=tk }:=by
 refine wpAny_pyIter_range (IsRange.new ..) (small_one h1 h2 h3 h4) ?_
 have I1:Inv X pins σ H { s with heap:=s.heap.push { cls:= .type "range",data:= .fields #[.int lo t, .int hi u, .int 1 v] },toks:=tk }:=I.kept fun b o e=>Pz _ e
 refine ⟨(s.heap.push { cls:= .type "range",data:= .fields #[.int lo t, .int hi u, .int 1 v] }).objs.size,[(s.heap.push { cls:= .type "range",data:= .fields #[.int lo t, .int hi u, .int 1 v] }).objs.size],_,_,H,rfl,
  I1.kept (t':=tk) fun b o e=>Pz _ e,vb _ lo (hi - lo).toNat,?_,fun b hb=>?_,q⟩
 ·have e1:lo+((0:Nat):Int)*1=lo:=by simp
  have e2:(((hi - lo).toNat:Nat):Int) - ((0:Nat):Int)=Builtin.Range.rangeSize lo hi 1:=by rw[rangeSize_one];split<;>omega
  show IsRangeIter _ _ (lo+((0:Nat):Int)*1) ((((hi - lo).toNat:Nat):Int) - ((0:Nat):Int)) 1
  rw[e1,e2]
  exact UG _ rfl
 ·have e:b=(s.heap.push { cls:= .type "range",data:= .fields #[.int lo t, .int hi u, .int 1 v] }).objs.size:=by simpa using hb
  subst e
  exact I1.oV (Mq _) (I1.bR.fresh (Mq _))
def Kl (ta:TA):TI:=fun σ H R=>ta σ H fun vs H1=> ∃j:Int,vs=[.int j]/\ -(2 ^ 62)<=j/\j<2 ^ 62/\R (E4 0 j.toNat) H1
def Km (ta:TA):TI:=fun σ H R=>ta σ H fun vs H1=> ∃i j:Int,vs=[.int i, .int j]/\(-(2 ^ 62)<=i/\i<2 ^ 62/\ -(2 ^ 62)<=j/\j<2 ^ 62)/\R (E4 i (j - i).toNat) H1
theorem fj {a:Expr} {ta:TA} {p pos:Pos} (hg:Gl X "range") (hm:X.mg "range"=none) (ha:PA X [a] ta) (hs:starEach [a] X.env=[(false,eval a X.env)]:=by rfl):PI X tg (.Call (.Name "range" p) [a] [] pos) (Kl ta):=by
 intro pins s σ H R I h
 refine Call_ (gy I hg hm boot_range (Vi (bZ (ha pos pins s σ H _ I h) fun us s1 ⟨vs,H1,I1,r1,q1⟩=>?_) hs rfl))
 obtain ⟨j,e,q1,q2,q⟩:=q1
 subst e
 cases r1 with
 | cons r rr=>
  cases rr
  obtain ⟨t,rfl⟩:=r
  exact call_range_1 (tm I1 (by omega) (by omega) q1 q2 (by simpa using q))
theorem kC {a b:Expr} {ta:TA} {p pos:Pos} (hg:Gl X "range") (hm:X.mg "range"=none) (ha:PA X [a,b] ta) (hs:starEach [a,b] X.env=[(false,eval a X.env),(false,eval b X.env)]:=by rfl) (Kn:starEach [b] X.env=[(false,eval b X.env)]:=by rfl):
  PI X tg (.Call (.Name "range" p) [a,b] [] pos) (Km ta):=by
 intro pins s σ H R I h
 refine Call_ (gy I hg hm boot_range (Vi (bZ (ha pos pins s σ H _ I h) fun us s1 ⟨vs,H1,I1,r1,q1⟩=>?_) (by rw[hs,Kn]) (by rw[Kn];rfl)))
 obtain ⟨i,j,e,⟨q1,q2,q3,q4⟩,q⟩:=q1
 subst e
 cases r1 with
 | cons r rr=>
  cases rr with
  | cons r' rr=>
   cases rr
   obtain ⟨t,rfl⟩:=r
   obtain ⟨t',rfl⟩:=r'
   exact call_range_2 (tm I1 q1 q2 q3 q4 q)
def NC (wi:TI) (g:TG) (tb:TS):TS:=fun D σ H=>wi σ H fun J H1=> ∃W:Nat->Nat->St->Hp->Prop,(∃m,W 0 m σ H1)/\ ∀i m σ H,W i m σ H->
 (J.stop i H/\D.nx σ H)\/(J.go i H/\ ∃N:St->Hp->Prop,(∀σ' H',N σ' H'-> ∃m',m'<m/\W (i+1) m' σ' H')/\ ∀x H',J.Ac i H x H'->g x σ H' fun σ2 H2=>tb { D with nx:=N,ct:=N,bk:=D.nx } σ2 H2)
noncomputable def mX (fp:List Addr) (h:Heap):List (Addr×Obj):=fp.filterMap fun b=>(h.get? b).map fun o=>(b,o)
theorem gA {fp:List Addr} {h:Heap} {b:Addr} {o:Obj} (hb:b∈fp) (e:h.get? b=some o):(b,o)∈mX fp h:=List.mem_filterMap.mpr ⟨b,hb,by rw[e];rfl⟩
theorem yC {fp:List Addr} {h:Heap} {p:Addr×Obj} (hp:p∈mX fp h):p.1∈fp/\h.get? p.1=some p.2:=by
 obtain ⟨b,hb,e⟩:=List.mem_filterMap.mp hp
 cases q:h.get? b with
 | none=>rw[q]at e;cases e
 | some o=>
  rw[q]at e
  have e':(b,o)=p:=UE e
  subst e'
  exact ⟨hb,q⟩
theorem Inv.pinned {pins:List (Addr×Obj)} {σ:St} {H:Hp} {s:Shared} {fp:List Addr} (I:Inv X pins σ H s) (hf: ∀b∈fp,lU X pins H b) (ho: ∀b∈fp, ∃o,s.heap.get? b=some o/\ ∀v,o.data≠ .cell v):Inv X (pins++mX fp s.heap) σ H s:=
 I.jG fun p hp=>(UO.mp hp).elim (fun z=>I.pin p (UM _ z)) fun z=>by
  obtain ⟨hb,e⟩:=yC z
  obtain ⟨f0,f1,f2,_⟩:=hf p.1 hb
  obtain ⟨o,e',d⟩:=ho p.1 hb
  rw[e]at e';cases e'
  exact ⟨e,f0,f1,f2,d⟩
theorem Inv.hU {pins pl:List (Addr×Obj)} {σ:St} {H:Hp} {s:Shared} (I:Inv X (pins++pl) σ H s):Inv X pins σ H s:=I.jG fun p hp=>I.pin p (UM _ (V3 _ hp))
theorem cG {iter:Expr} {body:List Stmt} {wi:TI} {g:TG} {tb:TS} {pos:Pos} (hp:PassesOwn (model X.prog X.w) X.A X.env X.xe) (hc:X.calm=true) (hi:PI X tg iter wi) (hg:PG X tg g) (hb:u_ X body tb)
  (hs: ∀x,foldedSetIterable iter X.env x=pure x:=by intro _;rfl):PS X (.For tg iter body [] pos) (NC wi g tb):=by
 intro pins s σ H D I h
 refine wpAny_For (bZ (hi pins s σ H _ I h) fun v s1 h1=>bZ h1 fun NA s2 h2=>?_) hs
 obtain ⟨it,fp,tn,J,H2,e,I2,T,uU,f2,W,⟨m0,w0⟩,turn⟩:=h2
 subst e
 -- Q0 stays true of CN Gj objects through CN loop
 have Gk: ∀{H':Hp},(∀b∈fp,H' b=none)-> ∀b∈fp,lU X pins H' b:=fun hn b hb=>⟨hn b hb,(f2 b hb).2⟩
 refine codeAny_forLoop_any (fun n s'=> ∃i σ' H',Inv X pins σ' H' s'/\tn i s'.heap/\(∀b∈fp,H' b=none)/\W i n σ' H') ?_ m0 ⟨0,σ,H2,I2,uU,fun b hb=>(f2 b hb).1,w0⟩
 rintro n s3 ⟨i,σ3,H3,I3,Ko,Kp,w3⟩
 rcases turn i n σ3 H3 w3 with ⟨stop,qn⟩ | ⟨go,N,hN,step⟩
 ·refine wpAny_passesOwn hp (bZ (T.done X rfl rfl rfl hc i pins s3 σ3 H3 X.xe I3 (Gk Kp) Ko stop) fun r s4 ⟨hr,I4⟩=>?_)
  subst hr
  exact wpAny_execs_nil ⟨σ3,H3,I4,qn⟩
 ·refine wpAny_passesOwn hp (bZ (T.item X rfl rfl rfl hc i pins s3 σ3 H3 X.xe I3 (Gk Kp) Ko go) fun r s4 ⟨u,hr,h4⟩=>?_)
  subst hr
  refine wpAny_passesOwn hp (bZ h4 fun _ s5 ⟨x,H5,I5,r5,y5,Gm,ND⟩=>?_)
  have NF:=I5.pinned (Gk ND) (T.obj _ _ Gm)
  refine wpAny_passesOwn hp (bZ (hg _ s5 σ3 H5 x u _ NF r5 (step x H5 y5)) fun _ s6 ⟨σ6,H6,I6,q6⟩=>?_)
  refine wpAny_passesOwn hp (bZ (hb _ s6 σ6 H6 _ I6 q6) fun f s7 q7=>?_)
  have again: ∀{σ7:St} {H7:Hp},Inv X (pins++mX fp s5.heap) σ7 H7 s7->N σ7 H7-> ∃m,m<n/\ ∃i σ' H',Inv X pins σ' H' s7/\tn i s7.heap/\(∀b∈fp,H' b=none)/\W i m σ' H':=fun {σ7 H7} I7 n7=>by
   obtain ⟨m',hm,w7⟩:=hN σ7 H7 n7
   refine ⟨m',hm,i+1,σ7,H7,I7.hU,T.keep _ _ _ Gm fun b hb o e=>(I7.pin (b,o) (UM _ (UM _ (gA hb e)))).1,fun b hb=>?_,w7⟩
   obtain ⟨o,e,d⟩:=T.obj _ _ Gm b hb
   exact (I7.pin (b,o) (UM _ (UM _ (gA hb e)))).2.1
  cases f with
  | next=>obtain ⟨σ7,H7,I7,n7⟩:=q7;exact again I7 n7
  | cont=>obtain ⟨σ7,H7,I7,n7⟩:=q7;exact again I7 n7
  | brk=>obtain ⟨σ7,H7,I7,q7⟩:=q7;exact ⟨σ7,H7,I7.hU,q7⟩
  | ret v=>obtain ⟨x7,σ7,H7,I7,r7,q7⟩:=q7;exact ⟨x7,σ7,H7,I7.hU,r7,q7⟩
end
theorem jH {K:PySem.W.Frag} {a:Addr} {xs:List V} {g:TG} {tb:TS} {D:Ends} {σ:St} {H:Hp} (Pv:Nat->St->Hp->Prop) (h0:Pv 0 σ H) (hl: ∀i σ H,i<=xs.length->Pv i σ H->bJ K H a xs)
  (hs: ∀i x σ H,xs[i]? =some x->Pv i σ H->g x σ H fun σ2 H2=>tb { D with nx:=Pv (i+1),ct:=Pv (i+1),bk:=D.nx } σ2 H2) (hd: ∀σ H,Pv xs.length σ H->D.nx σ H):
  ∃W:Nat->Nat->St->Hp->Prop,(∃m,W 0 m σ H)/\ ∀i m σ H,W i m σ H->
   ((IB K a).stop i H/\D.nx σ H)\/((IB K a).go i H/\ ∃N:St->Hp->Prop,(∀σ' H',N σ' H'-> ∃m',m'<m/\W (i+1) m' σ' H')/\ ∀x H',(IB K a).Ac i H x H'->g x σ H' fun σ2 H2=>tb { D with nx:=N,ct:=N,bk:=D.nx } σ2 H2):=by
 refine ⟨fun i m σ H=>m=xs.length - i/\i<=xs.length/\Pv i σ H,⟨xs.length,by simp,T6 _,h0⟩,?_⟩
 rintro i m σ H ⟨rfl,hi,p⟩
 have q:=hl i σ H hi p
 by_cases dk:i<xs.length
 ·refine .inr ⟨⟨xs,xs[i],q,by simp[dk]⟩,Pv (i+1),fun σ' H' p'=>⟨xs.length - (i+1),by omega,rfl,dk,p'⟩,fun x H' y=>?_⟩
  obtain ⟨e,y⟩:=y
  subst e
  exact hs i x σ _ (y xs q) p
 ·have e:i=xs.length:=by omega
  subst e
  exact .inl ⟨⟨xs,q,Mq _⟩,hd σ H p⟩
theorem dJ {lo:Int} {n:Nat} {g:TG} {tb:TS} {D:Ends} {σ:St} {H:Hp} (Pv:Nat->St->Hp->Prop) (h0:Pv 0 σ H)
  (hs: ∀i σ H,i<n->Pv i σ H->g (.int (lo+i)) σ H fun σ2 H2=>tb { D with nx:=Pv (i+1),ct:=Pv (i+1),bk:=D.nx } σ2 H2) (hd: ∀σ H,Pv n σ H->D.nx σ H):
  ∃W:Nat->Nat->St->Hp->Prop,(∃m,W 0 m σ H)/\ ∀i m σ H,W i m σ H->
   ((E4 lo n).stop i H/\D.nx σ H)\/((E4 lo n).go i H/\ ∃N:St->Hp->Prop,(∀σ' H',N σ' H'-> ∃m',m'<m/\W (i+1) m' σ' H')/\ ∀x H',(E4 lo n).Ac i H x H'->g x σ H' fun σ2 H2=>tb { D with nx:=N,ct:=N,bk:=D.nx } σ2 H2):=by
 refine ⟨fun i m σ H=>m=n - i/\i<=n/\Pv i σ H,⟨n,by simp,T6 _,h0⟩,?_⟩
 rintro i m σ H ⟨rfl,hi,p⟩
 by_cases dk:i<n
 ·refine .inr ⟨dk,Pv (i+1),fun σ' H' p'=>⟨n - (i+1),by omega,rfl,dk,p'⟩,fun x H' y=>?_⟩
  obtain ⟨e,y⟩:=y
  subst e y
  exact hs i σ _ dk p
 ·have e:i=n:=by omega
  subst e
  exact .inl ⟨Mq _,hd σ H p⟩
abbrev R2:=V->V->Hp->VK->Prop
def i6 (X:Cx) (f:Value->Value->Sem Value) (r:R2):Prop:=
 ∀(pins:List (Addr×Obj)) (s:Shared) (σ:St) (H:Hp) (x y:V) (v u:Value) (Q:VK),Inv X pins σ H s->RelV x v->RelV y u->r x y H Q->
  wpAny (model X.prog X.w) X.A (f v u) (EP X pins σ Q) X.xe s
def NG (X:Cx) (f:Value->Sem Value) (r:V->Hp->VK->Prop):Prop:=
 ∀(pins:List (Addr×Obj)) (s:Shared) (σ:St) (H:Hp) (x:V) (v:Value) (Q:VK),Inv X pins σ H s->RelV x v->r x H Q->
  wpAny (model X.prog X.w) X.A (f v) (EP X pins σ Q) X.xe s
def dH (X:Cx) (f:Value) (r:List V->Hp->VK->Prop):Prop:=
 ∀(pins:List (Addr×Obj)) (s:Shared) (σ:St) (H:Hp) (xs:List V) (us:List Value) (Q:VK),Inv X pins σ H s->Vals xs us->r xs H Q->
  wpAny (model X.prog X.w) X.A (call f us) (EP X pins σ Q) X.xe s
def NH (X:Cx) (r:V->Hp->(Bool->Hp->Prop)->Prop):Prop:=
 ∀(pins:List (Addr×Obj)) (s:Shared) (σ:St) (H:Hp) (x:V) (v:Value) (Q:Bool->Hp->Prop),Inv X pins σ H s->RelV x v->r x H Q->
  wpAny (model X.prog X.w) X.A (truthy v) (TP X pins σ Q) X.xe s
def Ml (r:R2) (ta tb:TE):TE:=fun σ H Q=>ta σ H fun x H1=>tb σ H1 fun y H2=>r x y H2 Q
def Q3 (r:V->Hp->VK->Prop) (ta:TE):TE:=fun σ H Q=>ta σ H fun x H1=>r x H1 Q
def rI (C:Int->Int->Prop) (g:Int->Int->V):R2:=fun x y H Q=> ∃i j,x= .int i/\y= .int j/\C i j/\Q (g i j) H
def CO (g:Int->Int->V):R2:=fun x y H Q=> ∃i j,x= .int i/\y= .int j/\Q (g i j) H
def rU (g:Int->V):V->Hp->VK->Prop:=fun x H Q=> ∃i,x= .int i/\Q (g i) H
section
variable {X:Cx} {a b c:Expr} {ta tb tc:TE} {pos:Pos}
theorem Gn (ha:PE X a ta) (hb:PE X b tb) {pins:List (Addr×Obj)} {s:Shared} {σ:St} {H:Hp} {R:V->V->Hp->Prop} (I:Inv X pins σ H s)
  (h:ta σ H fun x H1=>tb σ H1 fun y H2=>R x y H2) {Q:Value->Shared->Prop} {f:Value->Value->Sem Value}
  (hf: ∀v u s2 x y H2,Inv X pins σ H2 s2->RelV x v->RelV y u->R x y H2->wpAny (model X.prog X.w) X.A (f v u) Q X.xe s2):
  wpAny (model X.prog X.w) X.A (eval a X.env) (fun v s₁=>wpAny (model X.prog X.w) X.A (eval b X.env) (fun u s₂=>wpAny (model X.prog X.w) X.A (f v u) Q X.xe s₂) X.xe s₁) X.xe s:=by
 refine bZ (ha pins s σ H _ I h) fun v s1 ⟨x,H1,I1,r1,q1⟩=>?_
 refine bZ (hb pins s1 σ H1 _ I1 q1) fun u s2 ⟨y,H2,I2,r2,q2⟩=>?_
 exact hf v u s2 x y H2 I2 r1 r2 q2
theorem ak {op:Operator} {r:R2} (ho:i6 X (binaryOp op) r) (ha:PE X a ta) (hb:PE X b tb):PE X (.BinOp a op b pos) (Ml r ta tb):=by
 intro pins s σ H Q I h
 exact wpAny_BinOp (Gn ha hb I h fun v u s2 x y H2 I2 rx ry q=>ho pins s2 σ H2 x y v u Q I2 rx ry q)
theorem lH {op:UnaryOp} {r:V->Hp->VK->Prop} (ho:NG X (unaryOp op) r) (ha:PE X a ta):PE X (.UnaryOp op a pos) (Q3 r ta):=by
 intro pins s σ H Q I h
 exact UnaryOp_ (bZ (ha pins s σ H _ I h) fun v s1 ⟨x,H1,I1,r1,q1⟩=>ho pins s1 σ H1 x v Q I1 r1 q1)
theorem Mm {f:Value->Value->Sem Value} {C:Int->Int->Prop} {g:Int->Int->Int}
  (rule: ∀(i j:Int) (t u:Tok) (s:Shared) (Q:Value->Shared->Prop) (E:Value->Shared->Prop),C i j->Q (.int (g i j) s.toks) { s with toks:=s.toks+1 }->wpAny (model X.prog X.w) X.A (f (.int i t) (.int j u)) Q E s):
  i6 X f (rI C fun i j=> .int (g i j)):=by
 intro pins s σ H x y v u Q I rx ry h
 obtain ⟨i,j,rfl,rfl,hc,q⟩:=h
 obtain ⟨t,rfl⟩:=rx
 obtain ⟨t',rfl⟩:=ry
 exact rule i j t t' s _ _ hc ⟨.int (g i j),H,I.tok _,⟨_,rfl⟩,q⟩
theorem Kq {f:Value->Value->Sem Value} {g:Int->Int->Int}
  (rule: ∀(i j:Int) (t u:Tok) (s:Shared) (Q:Value->Shared->Prop) (E:Value->Shared->Prop),Q (.int (g i j) s.toks) { s with toks:=s.toks+1 }->wpAny (model X.prog X.w) X.A (f (.int i t) (.int j u)) Q E s):
  i6 X f (CO fun i j=> .int (g i j)):=by
 intro pins s σ H x y v u Q I rx ry h
 obtain ⟨i,j,rfl,rfl,q⟩:=h
 obtain ⟨t,rfl⟩:=rx
 obtain ⟨t',rfl⟩:=ry
 exact rule i j t t' s _ _ ⟨.int (g i j),H,I.tok _,⟨_,rfl⟩,q⟩
theorem Dg {f:Value->Value->Sem Value} {g:Int->Int->Bool}
  (rule: ∀(i j:Int) (t u:Tok) (s:Shared) (Q:Value->Shared->Prop) (E:Value->Shared->Prop),Q (.bool (g i j)) s->wpAny (model X.prog X.w) X.A (f (.int i t) (.int j u)) Q E s):
  i6 X f (CO fun i j=> .bl (g i j)):=by
 intro pins s σ H x y v u Q I rx ry h
 obtain ⟨i,j,rfl,rfl,q⟩:=h
 obtain ⟨t,rfl⟩:=rx
 obtain ⟨t',rfl⟩:=ry
 exact rule i j t t' s _ _ ⟨.bl (g i j),H,I,rfl,q⟩
def NI (i j:Int):Prop:=0<j/\j<1073741824
def NJ (i j:Int):Prop:=0<=j/\j<=1000000/\i.natAbs<2 ^ 64
def Ad (i j:Int):Prop:=(-(2 ^ 64)<i/\i<2 ^ 64)\/(-(2 ^ 64)<j/\j<2 ^ 64)
theorem Ad.ok {i j:Int} (h:Ad i j):IntMulOk i j:=by
 rcases h with ⟨h1,h2⟩ | ⟨h1,h2⟩
 ·exact .of_left (intBits_le_64 h1 h2)
 ·exact .of_right (intBits_le_64 h1 h2)
theorem aT:i6 X (binaryOp .Add) (CO fun i j=> .int (i+j)):=Kq fun _ _ _ _ _ _ _ q=>add_int q
theorem cA:i6 X (binaryOp .Sub) (CO fun i j=> .int (i - j)):=Kq fun _ _ _ _ _ _ _ q=>sub_int q
theorem b_:i6 X (binaryOp .Mult) (rI Ad fun i j=> .int (i*j)):=Mm fun _ _ _ _ _ _ _ hc q=>mul_int q hc.ok
theorem dM:i6 X (binaryOp .Mod) (rI (fun _ j=>0<j) fun i j=> .int (i%j)):=Mm fun i j _ _ _ _ _ hc q=>by
 have h1:(0:Int)<j:=hc
 exact mod_int' (by omega) (by rw[Int.fmod_eq_emod_of_nonneg i (by omega)];exact q)
theorem Ae:i6 X (binaryOp .Pow) (rI NJ fun i j=> .int (i ^ j.toNat)):=Mm fun _ _ _ _ _ _ _ hc q=>pow_int_small hc.1 hc.2.1 hc.2.2 q
theorem Q5 {f:Value->Sem Value} {g:Int->Int}
  (rule: ∀(i:Int) (t:Tok) (s:Shared) (Q:Value->Shared->Prop) (E:Value->Shared->Prop),Q (.int (g i) s.toks) { s with toks:=s.toks+1 }->wpAny (model X.prog X.w) X.A (f (.int i t)) Q E s):
  NG X f (rU fun i=> .int (g i)):=by
 intro pins s σ H x v Q I rx h
 obtain ⟨i,rfl,q⟩:=h
 obtain ⟨t,rfl⟩:=rx
 exact rule i t s _ _ ⟨.int (g i),H,I.tok _,⟨_,rfl⟩,q⟩
theorem hV:NG X (unaryOp .USub) (rU fun i=> .int (-i)):=Q5 fun _ _ _ _ _ q=>neg_int q
end
noncomputable def Kr:V->V->Bool
 | .fq, .fq=>true | .fq, .int _=>true | .int _, .fq=>true | .fq, .bl _=>true | .bl _, .fq=>true | .fq, .str _=>true | .str _, .fq=>true
 | .int _, .int _=>true | .bl _, .bl _=>true | .str _, .str _=>true | .wZ _, .wZ _=>true
 | .int _, .str _=>true | .str _, .int _=>true | .bl _, .str _=>true | .str _, .bl _=>true
 | _,_=>false
def Q6:R2:=fun x y H Q=>Kr x y=true/\Q (.bl (decide (x=y))) H
def Q7:R2:=fun x y H Q=>Kr x y=true/\Q (.bl (!decide (x=y))) H
theorem xa {i j:Int}:decide (V.int i=V.int j)=(i==j):=by
 rw[Ww]
 simp
theorem Af {i j:Bool}:decide (V.bl i=V.bl j)=(i==j):=by
 rw[Ww]
 simp
theorem xb {i j:Str}:decide (V.str i=V.str j)=(i==j):=by
 rw[Ww]
 simp
theorem xc {i j:Array UInt8}:decide (V.wZ i=V.wZ j)=(i.toList==j.toList):=by
 rw[Ww]
 cases i
 cases j
 simp
section
variable {X:Cx} {a b c:Expr} {ta tb tc:TE} {pos:Pos}
theorem a_ {pins:List (Addr×Obj)} {σ:St} {H:Hp} {s:Shared} {Q:VK} {k k':Bool} (I:Inv X pins σ H s) (q:Q (.bl k) H) (e:k=k'):EP X pins σ Q (.bool k') s:=by
 subst e
 exact ⟨.bl k,H,I,rfl,q⟩
theorem E6:i6 X (compareOp .Eq) Q6:=by
 intro pins s σ H x y v u Q I rx ry h
 obtain ⟨hs,q⟩:=h
 cases x with
 | fq=>
  cases rx
  cases y with
  | fq=>cases ry;exact PySem.EqNone.eq_none_none (a_ I q (by simp))
  | bl j=>cases ry;exact PySem.EqNone.eq_none_bool (a_ I q (by simp))
  | int j=>obtain ⟨t',rfl⟩:=ry;exact PySem.EqNone.eq_none_int (a_ I q (by simp))
  | str j=>obtain ⟨t',rfl⟩:=ry;exact PySem.EqNone.eq_none_str (a_ I q (by simp))
  | _=>exact absurd (show false=true from hs) UH
 | bl i=>
  cases rx
  cases y with
  | fq=>cases ry;exact PySem.EqNone.eq_bool_none (a_ I q (by simp))
  | bl j=>cases ry;exact eq_bool (a_ I q Af)
  | str j=>obtain ⟨t',rfl⟩:=ry;exact PySem.EqMixed.eq_bool_str (a_ I q (by simp))
  | _=>exact absurd (show false=true from hs) UH
 | int i=>
  obtain ⟨t,rfl⟩:=rx
  cases y with
  | fq=>cases ry;exact PySem.EqNone.eq_int_none (a_ I q (by simp))
  | int j=>obtain ⟨t',rfl⟩:=ry;exact eq_int (a_ I q xa)
  | str j=>obtain ⟨t',rfl⟩:=ry;exact PySem.EqMixed.eq_int_str (a_ I q (by simp))
  | _=>exact absurd (show false=true from hs) UH
 | str i=>
  obtain ⟨t,rfl⟩:=rx
  cases y with
  | fq=>cases ry;exact PySem.EqNone.eq_str_none (a_ I q (by simp))
  | bl j=>cases ry;exact PySem.EqMixed.eq_str_bool (a_ I q (by simp))
  | int j=>obtain ⟨t',rfl⟩:=ry;exact PySem.EqMixed.eq_str_int (a_ I q (by simp))
  | str j=>obtain ⟨t',rfl⟩:=ry;exact eq_str (a_ I q xb)
  | _=>exact absurd (show false=true from hs) UH
 | wZ i=>
  obtain ⟨t,rfl⟩:=rx
  cases y with
  | wZ j=>obtain ⟨t',rfl⟩:=ry;exact PySem.W.eq_bytes (a_ I q xc)
  | _=>exact absurd (show false=true from hs) UH
 | _=>cases y<;>exact absurd (show false=true from hs) UH
theorem E7:i6 X (compareOp .NotEq) Q7:=by
 intro pins s σ H x y v u Q I rx ry h
 obtain ⟨hs,q⟩:=h
 cases x with
 | fq=>
  cases rx
  cases y with
  | fq=>cases ry;exact PySem.EqNone.ne_none_none (a_ I q (by simp))
  | bl j=>cases ry;exact PySem.EqNone.ne_none_bool (a_ I q (by simp))
  | int j=>obtain ⟨t',rfl⟩:=ry;exact PySem.EqNone.ne_none_int (a_ I q (by simp))
  | str j=>obtain ⟨t',rfl⟩:=ry;exact PySem.EqNone.ne_none_str (a_ I q (by simp))
  | _=>exact absurd (show false=true from hs) UH
 | bl i=>
  cases rx
  cases y with
  | fq=>cases ry;exact PySem.EqNone.ne_bool_none (a_ I q (by simp))
  | bl j=>cases ry;exact ne_bool (a_ I q (congrArg not Af))
  | str j=>obtain ⟨t',rfl⟩:=ry;exact PySem.EqMixed.ne_bool_str (a_ I q (by simp))
  | _=>exact absurd (show false=true from hs) UH
 | int i=>
  obtain ⟨t,rfl⟩:=rx
  cases y with
  | fq=>cases ry;exact PySem.EqNone.ne_int_none (a_ I q (by simp))
  | int j=>obtain ⟨t',rfl⟩:=ry;exact ne_int (a_ I q (congrArg not xa))
  | str j=>obtain ⟨t',rfl⟩:=ry;exact PySem.EqMixed.ne_int_str (a_ I q (by simp))
  | _=>exact absurd (show false=true from hs) UH
 | str i=>
  obtain ⟨t,rfl⟩:=rx
  cases y with
  | fq=>cases ry;exact PySem.EqNone.ne_str_none (a_ I q (by simp))
  | bl j=>cases ry;exact PySem.EqMixed.ne_str_bool (a_ I q (by simp))
  | int j=>obtain ⟨t',rfl⟩:=ry;exact PySem.EqMixed.ne_str_int (a_ I q (by simp))
  | str j=>obtain ⟨t',rfl⟩:=ry;exact ne_str (a_ I q (congrArg not xb))
  | _=>exact absurd (show false=true from hs) UH
 | wZ i=>
  obtain ⟨t,rfl⟩:=rx
  cases y with
  | wZ j=>obtain ⟨t',rfl⟩:=ry;exact PySem.W.ne_bytes (a_ I q (congrArg not xc))
  | _=>exact absurd (show false=true from hs) UH
 | _=>cases y<;>exact absurd (show false=true from hs) UH
theorem mY:i6 X (compareOp .Lt) (CO fun i j=> .bl (decide (i<j))):=Dg fun _ _ _ _ _ _ _ q=>lt_int q
theorem E8:i6 X (compareOp .LtE) (CO fun i j=> .bl (decide (i<=j))):=Dg fun _ _ _ _ _ _ _ q=>le_int q
theorem pJ:i6 X (compareOp .Gt) (CO fun i j=> .bl (decide (j<i))):=Dg fun _ _ _ _ _ _ _ q=>gt_int q
theorem Ag:i6 X (compareOp .GtE) (CO fun i j=> .bl (decide (j<=i))):=Dg fun _ _ _ _ _ _ _ q=>ge_int q
theorem yD:i6 X (compareOp .Lt) (fun x y H Q=> ∃i j,x= .str i/\y= .str j/\Q (.bl (decide (i.cps.toList<j.cps.toList))) H):=by
 intro pins s σ H x y v u Q I rx ry h
 obtain ⟨i,j,rfl,rfl,q⟩:=h
 obtain ⟨t,rfl⟩:=rx
 obtain ⟨t',rfl⟩:=ry
 exact lt_str (a_ I q rfl)
theorem yE:i6 X (compareOp .In) (fun x y H Q=> ∃i j,x= .str i/\y= .str j/\Q (.bl (!(Builtin.Str.occurrences j i 0 j.length 1).isEmpty)) H):=by
 intro pins s σ H x y v u Q I rx ry h
 obtain ⟨i,j,rfl,rfl,q⟩:=h
 obtain ⟨t,rfl⟩:=rx
 obtain ⟨t',rfl⟩:=ry
 exact in_str (a_ I q rfl)
theorem aO (b:Expr) {op:CmpOp} (h:op≠ .In:=by decide) (h2:op≠ .NotIn:=by decide):behindInMarks op b=false:=by
 have e1:(op==CmpOp.In)=false:=by cases op<;>first | rfl | exact absurd rfl h
 have e2:(op==CmpOp.NotIn)=false:=by cases op<;>first | rfl | exact absurd rfl h2
 cases b<;>simp[behindInMarks,e1,e2]
theorem fI {op:CmpOp} {r:R2} (ho:i6 X (compareOp op) r) (ha:PE X a ta) (hb:PE X b tb) (hm:behindInMarks op b=false):PE X (.Compare a [op] [b] pos) (Ml r ta tb):=by
 intro pins s σ H Q I h
 exact wpAny_Compare1 (Gn ha hb I h fun v u s2 x y H2 I2 rx ry q=>ho pins s2 σ H2 x y v u Q I2 rx ry q) hm
def Ks (t:TE):TT:=fun σ H Q=>t σ H fun x H'=> ∃k,x= .bl k/\Q k H'
theorem aL {op:CmpOp} {r:R2} (ho:i6 X (compareOp op) r) (ha:PE X a ta) (hb:PE X b tb) (hm:behindInMarks op b=false):PT X (.Compare a [op] [b] pos) (Ks (Ml r ta tb)):=by
 intro pins s σ H Q I h
 refine wpAny_isTrue_Compare1 (bZ (ha pins s σ H _ I h) fun v s1 ⟨x,H1,I1,r1,q1⟩=>bZ (hb pins s1 σ H1 _ I1 q1) fun u s2 ⟨y,H2,I2,r2,q2⟩=>
  bZ (ho pins s2 σ H2 x y v u _ I2 r1 r2 q2) fun c s3 ⟨z,H3,I3,r3,k,e,q3⟩=>?_) hm
 subst e
 cases r3
 exact wpAny_truthy_bool ⟨H3,I3,q3⟩
def NK (K:PySem.W.Frag) (x:V) (H:Hp) (k:Bool):Prop:=
 match x with
 | .fq=>k=false
 | .bl b=>k=b
 | .int i=>k=(i != 0)
 | .str y=>y.length<=sizeLine/\k=((y.length:Int) != 0)
 | .wZ y=>y.size<=sizeLine/\k=((y.size:Int) != 0)
 | .ref p=>(∃xs,bJ K H p xs/\k=!xs.isEmpty)\/(∃xs,cS K H p xs/\k=!xs.isEmpty)\/ ∃aK,H p=some (.dK aK)/\k=!aK.isEmpty
 | _=>False
theorem vc {κ:Type} {aK:List (κ×V)} {vs:List (κ×Value)} (r:KV aK vs):(!vs.isEmpty)=!aK.isEmpty:=by
 cases r<;>rfl
theorem mZ {xs:List V} {aI:List Value} (r:Vals xs aI):(!aI.toArray.isEmpty)=!xs.isEmpty:=by
 cases r<;>simp
theorem ft:(sizeLine:Nat)<2 ^ 63:=by rw[sizeLine_eq];decide
theorem Gp:NH X (fun x H Q=> ∃k,NK X.K x H k/\Q k H):=by
 intro pins s σ H x v Q I rx h
 obtain ⟨k,e,q⟩:=h
 have hl:=ft
 have hs:sizeLine=16777216:=sizeLine_eq
 cases x with
 | fq=>
  cases rx
  have e':k=false:=e
  subst e'
  exact truthy_none ⟨H,I,q⟩
 | bl b=>
  cases rx
  have e':k=b:=e
  subst e'
  exact wpAny_truthy_bool ⟨H,I,q⟩
 | int i=>
  obtain ⟨t,rfl⟩:=rx
  have e':k=(i != 0):=e
  subst e'
  exact PySem.P.truthy_int ⟨H,I,q⟩
 | str y=>
  obtain ⟨t,rfl⟩:=rx
  obtain ⟨hy,e'⟩:y.length<=sizeLine/\k=((y.length:Int) != 0):=e
  subst e'
  exact PySem.P.truthy_str (by omega) ⟨H,I.tok _,q⟩
 | wZ y=>
  obtain ⟨t,rfl⟩:=rx
  obtain ⟨hy,e'⟩:y.size<=sizeLine/\k=((y.size:Int) != 0):=e
  subst e'
  exact PySem.W.truthy_bytes (by omega) ⟨H,I.tok _,q⟩
 | ref p=>
  cases rx
  have e':(∃xs,bJ X.K H p xs/\k=!xs.isEmpty)\/(∃xs,cS X.K H p xs/\k=!xs.isEmpty)\/ ∃aK,H p=some (.dK aK)/\k=!aK.isEmpty:=e
  rcases e' with ⟨xs,hx,e'⟩ | ⟨xs,hx,e'⟩ | ⟨aK,hx,e'⟩
  ·subst e'
   obtain ⟨aI,r,pl,hz⟩:=I.list hx
   have hlen:=r.length
   exact wpAny_truthy_list pl.isList (by simp only[Rl];omega) ⟨H,I.tok _,by rw[mZ r];exact q⟩
  ·subst e'
   obtain ⟨aI,r,pl,hz⟩:=I.tuple hx
   have hlen:=r.length
   exact truthy_tuple pl (by simp only[Rl];omega) ⟨H,I.tok _,by rw[mZ r];exact q⟩
  ·subst e'
   obtain ⟨hz,hS,vs,r,m⟩:aK.length<=sizeLine/\(p==sysModules)=false/\ ∃vs,KV aK vs/\s.heap.DictOf (b9 X.prog X.w) p vs:=I.bR p _ hx
   have hlen:aK.length=vs.length:=Paired.length r
   exact wpAny_truthy_dict hS m (by omega) ⟨H,I.tok _,by rw[vc r];exact q⟩
 | _=>exact (show False from e).elim
theorem vd:i6 X (binaryOp .Add) (fun x y H Q=> ∃i j,x= .str i/\y= .str j/\i.length+j.length<=sizeLine/\Q (.str (i++j)) H):=by
 intro pins s σ H x y v u Q I rx ry h
 obtain ⟨i,j,rfl,rfl,hz,q⟩:=h
 obtain ⟨t,rfl⟩:=rx
 obtain ⟨t',rfl⟩:=ry
 exact add_str (fun t' tk=>⟨.str (i++j),H,I.tok _,⟨_,rfl⟩,q⟩) hz
theorem vals1 {x:V} {us:List Value} (r:Vals [x] us): ∃u,us=[u]/\RelV x u:=by
 cases r with
 | cons r1 r2=>cases r2;exact ⟨_,rfl,r1⟩
theorem vals2 {x y:V} {us:List Value} (r:Vals [x,y] us): ∃u w',us=[u,w']/\RelV x u/\RelV y w':=by
 cases r with
 | cons r1 r2=>
  cases r2 with
  | cons r3 r4=>cases r4;exact ⟨_,_,rfl,r1,r3⟩
theorem yF (hc:X.calm=true):dH X (.builtin "max") (fun xs H Q=> ∃i j,xs=[.int i, .int j]/\Q (.int (if j>i then j else i)) H):=by
 intro pins s σ H xs us Q I r h
 obtain ⟨i,j,rfl,q⟩:=h
 obtain ⟨u,w',rfl,⟨t,rfl⟩,⟨t',rfl⟩⟩:=vals2 r
 refine max_two_ints (I.ok.hd hc) fun h' tk k=>⟨_,H,I.kept k,?_,q⟩
 by_cases hj:j>i
 ·rw[if_pos hj,if_pos hj];exact ⟨_,rfl⟩
 ·rw[if_neg hj,if_neg hj];exact ⟨_,rfl⟩
theorem pK (hc:X.calm=true):dH X (.builtin "min") (fun xs H Q=> ∃i j,xs=[.int i, .int j]/\Q (.int (if j<i then j else i)) H):=by
 intro pins s σ H xs us Q I r h
 obtain ⟨i,j,rfl,q⟩:=h
 obtain ⟨u,w',rfl,⟨t,rfl⟩,⟨t',rfl⟩⟩:=vals2 r
 refine min_two_ints (I.ok.hd hc) fun h' tk k=>⟨_,H,I.kept k,?_,q⟩
 by_cases hj:j<i
 ·rw[if_pos hj,if_pos hj];exact ⟨_,rfl⟩
 ·rw[if_neg hj,if_neg hj];exact ⟨_,rfl⟩
theorem yG:dH X (.type "int") (fun xs H Q=>(∃i,xs=[.int i]/\Q (.int i) H)\/ ∃k,xs=[.bl k]/\Q (.int (if k then 1 else 0)) H):=by
 intro pins s σ H xs us Q I r h
 rcases h with ⟨i,rfl,q⟩ | ⟨k,rfl,q⟩
 ·obtain ⟨u,rfl,t,rfl⟩:=vals1 r
  exact call_int_int ⟨.int i,H,I,⟨_,rfl⟩,q⟩
 ·obtain ⟨u,rfl,r1⟩:=vals1 r
  cases r1
  exact call_int_bool ⟨.int (if k then 1 else 0),H,I.tok _,⟨_,rfl⟩,q⟩
theorem qT:dH X (.type "str") (fun xs H Q=> ∃i,xs=[.int i]/\i.natAbs.log2<1920/\Q (.str (toString i)) H):=by
 intro pins s σ H xs us Q I r h
 obtain ⟨i,rfl,hz,q⟩:=h
 obtain ⟨u,rfl,t,rfl⟩:=vals1 r
 exact PySem.P.str_of_int hz ⟨.str _,H,I.tok _,⟨_,rfl⟩,q⟩
end
structure yH (h:Heap) (x dx C:Addr) (mA:Str->Option Value):Prop where
 obj:h.get? x=some (PySem.W.instObj C dx)
 ns:h.Ns1 dx mA
 ne:dx≠x
theorem yI {h:Heap} {dx:Addr} {mA:Str->Option Value} (n:h.Ns1 dx mA): ∃od,h.get? dx=some od/\ ∀name,PySem.W.lookIn name od=some (mA name):=by
 obtain ⟨o,es,ep,ho,hd,hk,_,hm⟩:=n
 refine ⟨o,ho,fun name=>?_⟩
 have e:=hm name
 unfold nsFind findBy at e
 rw[<-Array.find?_toList]at e
 unfold PySem.W.lookIn
 rw[hd]
 dsimp only
 split
 ·rename_i y q
  rw[q]at e
  exact congrArg some e
 ·rename_i q
  rw[q]at e
  have a:es.toList.any (·.refKey)=false:=by
   rw[Xp]
   intro y hy
   obtain ⟨z,t,NL⟩:=hk y (Array.mem_toList_iff.mp hy)
   simp[DictEntry.refKey,NL]
  have a': ¬es.toList.any (·.refKey)=true:=by rw[a];exact UH
  rw[if_neg a']
  exact congrArg some e
theorem yH.look {h:Heap} {x dx C:Addr} {mA:Str->Option Value} (I:yH h x dx C mA): ∃od,PySem.W.InstAt h x (PySem.W.instObj C dx) C (some od)/\ ∀name,PySem.W.lookIn name od=some (mA name):=
 let ⟨od,ho,hl⟩:=yI I.ns
 ⟨od,⟨I.obj,rfl,rfl,ho⟩,hl⟩
section
variable {prog:Program} {w:World} {A:Around} {E:Value->Shared->Prop} {s:Shared} {K:PySem.W.Frag} {x dx C f:Addr} {mA:Str->Option Value} {name:Str} {v:Value}
theorem get_map {expr:Bool} {Q:Value->Shared->Prop} (X:K.In s.heap) (I:yH s.heap x dx C mA) (hg:PySem.W.plainGet K C name=true) (hh:PySem.W.hasDictIn K C=true)
  (ha:PySem.W.findIn K (.ref C) name=some none) (hv:mA name=some v) (Q8:PySem.W.handedIn v=true) (h:Q v { s with toks:=s.toks+1 }):
  wpAny (model prog w) A (getAttr (.ref x) name expr) Q E s:=by
 obtain ⟨od,J,hl⟩:=I.look
 exact PySem.W.get_value X J (PySem.W.plainGet_of hg).1 (PySem.W.findObj_own hh ha rfl (by rw[hl,hv])) Q8 h
theorem Dh {ns:List Str} {Q:Unit->Shared->Prop} (X:K.In s.heap) (I:yH s.heap x dx C mA)
  (hs:PySem.W.findIn K (.ref C) "__setattr__"=some (some (.builtin "object.__setattr__"))) (hp:PySem.W.plainOver K C=true) (ht:PySem.W.takerIn K C name=some none) (hh:PySem.W.hasDictIn K C=true)
  (hw:PySem.Within mA ns) (hsz:ns.length<=sizeLine)
  (h: ∀h',yH h' x dx C (fun y=>if y=name then some v else mA y)->Heap.SameBut dx s.heap h'->Q () { s with heap:=h',toks:=s.toks+2 }):
  wpAny (model prog w) A (setAttr (.ref x) name v) Q E s:=by
 obtain ⟨od,J,hl⟩:=I.look
 refine PySem.W.set_plain X J hs (PySem.W.osa_open (s:={ s with toks:=s.toks+1 }) (r:=none) X J hp ht fun b=>?_)
 obtain ⟨cd,hc,Nh⟩:=PySem.W.any_some hh
 have hx:s.heap.get? x=some ⟨.ref C,some dx, .plain, #[]⟩:=I.obj
 refine wpAny_bind (wpAny_pure (wpAny_bind (wpAny_bind (wpAny_loadPart hx (wpAny_bind (PySem.W.Looks.here (s:={ s with toks:=s.toks+1 }) (PySem.W.looks_clsIn X hc) ?_))))))
 rw[Nh]
 refine wpAny_pure (a:=some dx) (wpAny_bind (wpAny_pure (wpAny_bind ?_)))
 refine wpAny_nsSet1 (s:={ s with toks:=s.toks+1 }) I.ns fun h' ve Kn=>?_
 obtain ⟨oD,TV,TX,Q9,Q_,Ra⟩:=ve.count (PySem.Within.cons name v hw)
 refine wpAny_bind (wpAny_lookBehind Q9 (by rw[Q_];exact pastItsLine_dict (UW Ra (by rw[U1];omega))) ?_)
 exact wpAny_pure (h _ ⟨(Kn.2 _ (Ne.symm I.ne)).trans I.obj,ve,I.ne⟩ Kn)
theorem Ah {R:Result->Shared->Prop} {vs:List Value} {kw:List (Str×Value)} (X:K.In s.heap) (hm:PySem.W.makesIn K C=true)
  (hi:PySem.W.findIn K (.ref C) "__init__"=some (some (.ref f))) (hf:PySem.W.typeIn K (.ref f)=some (.type "function"))
  (h:codeAny (model prog w) (A.under (.builtin "type.__call__" ⟨.ref C::vs,kw⟩)) (.call (.ref f) ⟨.ref (s.heap.objs.size+1)::vs,kw⟩) (PySem.W.InitBack (s.heap.objs.size+1) R)
   { s with heap:=(s.heap.push PySem.W.emptyDict).push (PySem.W.instObj C s.heap.objs.size) }):
  codeAny (model prog w) A (.call (.ref C) ⟨vs,kw⟩) R s:=by
 obtain ⟨hh,g,d,t,os⟩:=s
 exact PySem.W.make_core (PySem.W.makes_of X hm) (PySem.W.looks_findIn X hi) (fun self=>PySem.W.bind_fn X self hf) (.inl rfl) h
end
noncomputable def dm (f:Str) (v:V):List (Str×V)->List (Str×V)
 | []=>[(f,v)]
 |(g,x)::r=>if g=f then (g,v)::r else (g,x)::dm f v r
theorem aH (f g:Str) (v:V): ∀fs:List (Str×V),(dm f v fs).lookup g=if g=f then some v else fs.lookup g
 | []=>by
  show List.lookup g [(f,v)]=_
  by_cases h:g=f
  ·have hb:(g==f)=true:=beq_iff_eq.mpr h
   simp only[List.lookup,hb,if_pos h]
  ·have hb:(g==f)=false:=beq_eq_false_iff_ne.mpr h
   simp only[List.lookup,hb,if_neg h]
 |(k,x)::r=>by
  have ih:=aH f g v r
  rw[show dm f v ((k,x)::r)=(if k=f then (k,v)::r else (k,x)::dm f v r) from rfl]
  by_cases hk:k=f
  ·rw[if_pos hk]
   by_cases h:g=k
   ·have hb:(g==k)=true:=beq_iff_eq.mpr h
    simp only[List.lookup,hb,if_pos (h.trans hk)]
   ·have hb:(g==k)=false:=beq_eq_false_iff_ne.mpr h
    simp only[List.lookup,hb,if_neg (fun e:g=f=>h (e.trans hk.symm))]
  ·rw[if_neg hk]
   by_cases h:g=k
   ·have hb:(g==k)=true:=beq_iff_eq.mpr h
    simp only[List.lookup,hb,if_neg (fun e:g=f=>hk (h.symm.trans e))]
   ·have hb:(g==k)=false:=beq_eq_false_iff_ne.mpr h
    simp only[List.lookup,hb]
    exact ih
theorem kD (f:Str) (v:V): ∀fs:List (Str×V),f∈(dm f v fs).map (·.1)/\ ∀g,g∈fs.map (·.1)->g∈(dm f v fs).map (·.1)
 | []=>⟨by simp[dm],fun g h=>by simp at h⟩
 |(k,x)::r=>by
  obtain ⟨i1,i2⟩:=kD f v r
  rw[show dm f v ((k,x)::r)=(if k=f then (k,v)::r else (k,x)::dm f v r) from rfl]
  by_cases hk:k=f
  ·rw[if_pos hk]
   subst hk
   exact ⟨by simp,fun g h=>by simpa using h⟩
  ·rw[if_neg hk]
   refine ⟨?_,fun g h=>?_⟩
   ·rw[UK]
    exact T5 _ i1
   ·rw[UK]at h ⊢
    rcases T3.mp h with e | e
    ·exact T3.mpr (.inl e)
    ·exact T5 _ (i2 g e)
theorem lI (f:Str) (v:V): ∀fs:List (Str×V),(dm f v fs).length<=fs.length+1
 | []=>by simp[dm]
 |(k,x)::r=>by
  have ih:=lI f v r
  rw[show dm f v ((k,x)::r)=(if k=f then (k,v)::r else (k,x)::dm f v r) from rfl]
  by_cases hk:k=f
  ·rw[if_pos hk,U1,U1];omega
  ·rw[if_neg hk,U1,U1];omega
theorem kB.some_of {v:V} {o:Option Value} (r:kB (some v) o): ∃u,o=some u/\RelV v u:=by
 cases o with
 | none=>exact (show False from r).elim
 | some u=>exact ⟨u,rfl,r⟩
theorem yJ {v:V} {u:Value} (r:RelV v u):PySem.W.handedIn u=true:=by
 cases v with
 | fq=>cases (show u=Value.none from r);rfl
 | bl b=>cases (show u=Value.bool b from r);rfl
 | int i=>obtain ⟨t,e⟩:=(show ∃t,u=Value.int i t from r);cases e;rfl
 | str x=>obtain ⟨t,e⟩:=(show ∃t,u=Value.str x t from r);cases e;rfl
 | wZ b=>obtain ⟨t,e⟩:=(show ∃t,u=Value.bytes b t from r);cases e;rfl
 | Md b=>obtain ⟨t,e⟩:=(show ∃t,u=Value.float b t from r);cases e;rfl
 | ref a=>cases (show u=Value.ref a from r);rfl
 | ty n=>cases (show u=Value.type n from r);rfl
section
variable {P:Program} {w:World} {H H':Hp} {h h':Heap} {a C dx:Addr} {fs QV:List (Str×V)}
theorem xf (bR:jl P w H h) (e:H a=some (.ins C dx fs)): ∃mA,yH h a dx C mA/\(∀f,kB (fs.lookup f) (mA f))/\PySem.Within mA (fs.map (·.1))/\fs.length<=1000/\H dx=some (.own a):=by
 obtain ⟨d,z,ne,ob,mA,n,r,q⟩:=(show cD P w H h a (.ins C dx fs) from bR a _ e)
 exact ⟨mA,⟨ob,n,ne⟩,r,q,z,d⟩
end
structure E9 (K:PySem.W.Frag) (C:Addr):Prop where
 pg:PySem.W.plainGet K C Str.empty=true
 hd:PySem.W.hasDictIn K C=true
 po:PySem.W.plainOver K C=true
 sa:PySem.W.findIn K (.ref C) "__setattr__"=some (some (.builtin "object.__setattr__"))
theorem E9.get {K:PySem.W.Frag} {C:Addr} (c:E9 K C) (f:Str):PySem.W.plainGet K C f=true:=c.pg
def dq (K:PySem.W.Frag) (C:Addr) (f:Str):Prop:=PySem.W.findIn K (.ref C) f=some none
theorem dq.Kt {K:PySem.W.Frag} {C:Addr} {f:Str} (n:dq K C f):PySem.W.takerIn K C f=some none:=by
 unfold PySem.W.takerIn
 rw[show PySem.W.findIn K (.ref C) f=some none from n]
 rfl
section
variable {X:Cx} {pins:List (Addr×Obj)} {σ:St} {H:Hp} {s:Shared} {a C dx:Addr} {fs:List (Str×V)} {f:Str} {v:V} {A:Around} {E:Value->Shared->Prop}
theorem vf {b:Bool} {Q:Value->Shared->Prop} (I:Inv X pins σ H s) (e:H a=some (.ins C dx fs)) (c:E9 X.K C) (n:dq X.K C f) (l:fs.lookup f=some v)
  (h: ∀u s',Inv X pins σ H s'->RelV v u->Q u s'):wpAny (model X.prog X.w) A (getAttr (.ref a) f b) Q E s:=by
 obtain ⟨mA,O,r,_,_,_⟩:=xf I.bR e
 obtain ⟨u,hu,ru⟩:=kB.some_of (v:=v) (o:=mA f) (by rw[<-l];exact r f)
 exact get_map I.yz O (c.get f) c.hd n hu (yJ ru) (h u _ (I.tok _) ru)
theorem vg {y:V} {u:Value} {Q:Unit->Shared->Prop} (I:Inv X pins σ H s) (e:H a=some (.ins C dx fs)) (c:E9 X.K C) (n:dq X.K C f) (hl:fs.length<1000) (ry:RelV y u)
  (h: ∀s',Inv X pins σ (upd H a (.ins C dx (dm f y fs))) s'->Q () s'):wpAny (model X.prog X.w) A (setAttr (.ref a) f u) Q E s:=by
 obtain ⟨mA,O,r,wi,_,ho⟩:=xf I.bR e
 have hz:(fs.map (·.1)).length<=sizeLine:=by rw[Py,sizeLine_eq];omega
 refine Dh I.yz O c.sa c.po n.Kt c.hd wi hz fun h' O' sb=>h _ ?_
 have hd: ∃o,h'.get? dx=some o:=let ⟨o,_,_,e',_⟩:=O'.ns;⟨o,e'⟩
 refine I.write (x:=a) (e:=dx) (by rw[e];exact True.intro) (.inr ho) (fun b q hb z=>(sb.2 b hb).trans z) hd ?_
 refine ⟨by rw[au O.ne];exact ho,?_,O.ne,O'.obj,_,O'.ns,fun g=>?_,fun g hg=>?_⟩
 ·have:=lI f y fs;omega
 ·show kB ((dm f y fs).lookup g) (if g=f then some u else mA g)
  rw[aH]
  by_cases q:g=f
  ·rw[if_pos q,if_pos q];exact ry
  ·rw[if_neg q,if_neg q];exact r g
 ·by_cases q:g=f
  ·rw[q];exact (kD f y fs).1
  ·refine (kD f y fs).2 g (wi g fun z=>hg ?_)
   show (if g=f then some u else mA g)=none
   rw[if_neg q];exact z
theorem Inv.made (I:Inv X pins σ H s):Inv X pins σ (upd (upd H s.heap.objs.size (.own (s.heap.objs.size+1))) (s.heap.objs.size+1) (.ins C s.heap.objs.size []))
  { s with heap:=(s.heap.push PySem.W.emptyDict).push (PySem.W.instObj C s.heap.objs.size) }:=by
 have e1:(s.heap.push PySem.W.emptyDict).get? s.heap.objs.size=some PySem.W.emptyDict:=UG s.heap rfl
 have e2:((s.heap.push PySem.W.emptyDict).push (PySem.W.instObj C s.heap.objs.size)).get? (s.heap.objs.size+1)=some (PySem.W.instObj C s.heap.objs.size):=by
  have:=UG (s.heap.push PySem.W.emptyDict) (o:=PySem.W.instObj C s.heap.objs.size) rfl
  rwa [Ws]at this
 have e3:(s.heap.push PySem.W.emptyDict).Ns s.heap.objs.size (fun _=>none):=⟨PySem.W.emptyDict, #[],_,e1,rfl,(fun e he=>absurd he (by simp)),fun _=>rfl⟩
 have I1:=I.laid (a:=s.heap.objs.size) (o:= .own (s.heap.objs.size+1)) (h':=s.heap.push PySem.W.emptyDict) (t':=s.toks) (fun b u q=>Pz _ q) (Mq _) ⟨_,e1⟩
 refine I1.laid (a:=s.heap.objs.size+1) (o:= .ins C s.heap.objs.size []) (t':=s.toks) (fun b u q=>Pz _ q) (Nat.le_of_eq (Ws _ _)) ?_
 have ne:s.heap.objs.size≠s.heap.objs.size+1:=UJ (VH _)
 refine ⟨by rw[au ne,ag],T6 _,ne,e2,fun _=>none,(Heap.Ns1.of_empty e3).at fun o q=>Pz _ q,fun _=>True.intro,fun y hy=>absurd rfl hy⟩
theorem Di {prog:Program} {w:World} {env:Env} {e:Expr} {f:Str} {pos:Pos} {s:Shared} {Q:Value->Shared->Prop} (hb:attributeBase e f env (eval e env)=eval e env)
  (h:wpAny (model prog w) A (eval e env) (fun o s₁=>wpAny (model prog w) A (getAttr o f true) Q E s₁) E s):wpAny (model prog w) A (eval (.Attribute e f pos) env) Q E s:=
 Attribute_any_ h (by rw[arm_eval_Attribute,hb])
end
def Ku (K:PySem.W.Frag) (ta:TE) (f:Str):TE:=fun σ H Q=>ta σ H fun x H1=> ∃a C dx fs v,x= .ref a/\H1 a=some (.ins C dx fs)/\E9 K C/\dq K C f/\fs.lookup f=some v/\Q v H1
def NM (K:PySem.W.Frag) (ta tv:TE) (f:Str):TS:=fun D σ H=>tv σ H fun y H1=>ta σ H1 fun x H2=> ∃a C dx fs,x= .ref a/\H2 a=some (.ins C dx fs)/\E9 K C/\dq K C f/\fs.length<1000/\
 D.nx σ (upd H2 a (.ins C dx (dm f y fs)))
section
variable {X:Cx} {o e value:Expr} {f:Str} {pos pos' Kv:Pos} {ta tv:TE}
theorem Gq (he:PE X e ta) (hb:attributeBase e f X.env (eval e X.env)=eval e X.env):PE X (.Attribute e f pos) (Ku X.K ta f):=by
 intro pins s σ H Q I h
 refine Di hb (bZ (he pins s σ H _ I h) fun u s1 ⟨x,H1,I1,rx,a,C,dx,fs,v,ex,ea,c,n,l,q⟩=>?_)
 subst ex
 obtain rfl:u=Value.ref a:=rx
 exact vf I1 ea c n l fun u' s2 I2 ru=>⟨v,H1,I2,ru,q⟩
theorem hW (ha:PE X o ta) (hv:PE X value tv) (hs:swapsWith value (some (.Attribute o f pos')) pos.line X.env=pure false):PS X (.Assign [.Attribute o f pos'] value pos) (NM X.K ta tv f):=by
 intro pins s σ H D I h
 refine plainObj_wpAny_Assign_Attribute (bZ (hv pins s σ H _ I h) fun u s1 ⟨y,H1,I1,ry,q⟩=>bZ (ha pins s1 σ H1 _ I1 q) fun ov s2 ⟨x,H2,I2,rx,a,C,dx,fs,ex,ea,c,n,l,q2⟩=>?_) hs
 subst ex
 obtain rfl:ov=Value.ref a:=rx
 exact vg I2 ea c n l ry fun s3 I3=>⟨σ,_,I3,q2⟩
end
section
variable {X:Cx} {pins:List (Addr×Obj)} {σ:St} {H:Hp} {s:Shared} {A:Around} {E:Value->Shared->Prop} {Q:Value->Shared->Prop} {c:Value} {b:Bool}
end
structure eI (k:Nat) (A:Around):Prop where
 hd:A.handled=none
 dp:A.depth+3*k+5<recursionLimit
 un:A.units+16*k+200<cLine
 gd:A.guards=some []
theorem eI.mono {j k:Nat} {A:Around} (r:eI k A) (h:j<=k):eI j A:=⟨r.hd,by have:=r.dp;omega,by have:=r.un;omega,r.gd⟩
theorem eI.deeper {k:Nat} {A:Around} (r:eI (k+1) A) (env:Env):eI k (A.deeper env):=
 ⟨r.hd,by have:=r.dp;show A.depth+1+3*k+5<_;omega,by have:=r.un;show A.units+3+16*k+200<_;omega,r.gd⟩
theorem vh {A:Around} {C:Addr} {us:List Value} {kw:List (Str×Value)}:(A.under (.builtin "type.__call__" ⟨.ref C::us,kw⟩)).depth=A.depth+1:=by
 first | rfl | simp[Around.under,Code.weight,Code.isCreation,Code.isGuard,Code.isCaller,Code.frames,Code.isFrame,guardIds]
theorem vm {A:Around} {C:Addr} {us:List Value} {kw:List (Str×Value)}:(A.under (.builtin "type.__call__" ⟨.ref C::us,kw⟩)).units=A.units+1:=by
 first | rfl | simp[Around.under,Code.cUnits,Code.frames,Code.isFrame]
theorem eI.make {k:Nat} {A:Around} (r:eI (k+1) A) (C:Addr) (us:List Value) (kw:List (Str×Value)):eI k (A.under (.builtin "type.__call__" ⟨.ref C::us,kw⟩)):=
 ⟨r.hd,by have:=r.dp;rw[vh];omega,by have:=r.un;rw[vm];omega,by first | exact r.gd | (simpa [Around.under,Code.guards,Code.isGuard,pushGuards,guardIds]using r.gd)⟩
theorem eI.depth {k:Nat} {A:Around} (r:eI k A):A.depth<recursionLimit:=by have:=r.dp;omega
theorem eI.units {k:Nat} {A:Around} (r:eI k A):A.units+64<cLine:=by have:=r.un;omega
def NN:TA:=fun _ H Q=>Q [] H
def Kw (ta:TE) (tr:TA):TA:=fun σ H Q=>ta σ H fun x H1=>tr σ H1 fun xs H2=>Q (x::xs) H2
section
variable {X:Cx} {e:Expr} {es:List Expr} {te:TE} {t:TA} {pos:Pos}
theorem ab:PA X [] NN:=fun _ _ _ _ H Q I h=>Calls.spliced_nil ⟨[],H,I, .nil,h⟩
theorem aa (ha:PE X e te) (hr:PA X es t) (hs:starEach (e::es) X.env=(false,eval e X.env)::starEach es X.env:=by rfl):PA X (e::es) (Kw te t):=by
 intro pos pins s σ H Q I h
 rw[hs]
 show wpAny _ _ (spliced ((false,eval e X.env)::backTo pos (starEach es X.env))) _ _ s
 refine Calls.spliced_cons (bZ (ha pins s σ H _ I h) fun u s1 ⟨x,H1,I1,r1,q1⟩=>?_)
 exact bZ (hr pos pins s1 σ H1 _ I1 q1) fun us s2 ⟨xs,H2,I2,r2,q2⟩=>⟨x::xs,H2,I2, .cons r1 r2,q2⟩
def NO (t:TA):TE:=fun σ H Q=>t σ H fun xs H1=>xs.length<=sizeLine/\ ∀p,H1 p=none->Q (.ref p) (upd H1 p (.tup xs))
def NP (t:TA):TE:=fun σ H Q=>t σ H fun xs H1=>xs.length<=sizeLine/\ ∀p,H1 p=none->Q (.ref p) (upd H1 p (.lst xs))
theorem cQ {x1} (h:PA X es t):PE X (.Tuple es x1 pos) (NO t):=by
 intro pins s σ H Q I hq
 refine wpAny_Tuple_spliced (bZ (h pos pins s σ H _ I hq) fun us s1 ⟨xs,H1,I1,r,z,q⟩=>⟨by rw[<-r.length];exact z,?_⟩)
 have hf:H1 s1.heap.objs.size=none:=I1.bR.fresh (Mq _)
 refine ⟨.ref s1.heap.objs.size,upd H1 s1.heap.objs.size (.tup xs),I1.laid (t':=s1.toks) (fun b u e=>Pz _ e) (Mq _) ?_,rfl,q _ hf⟩
 exact ⟨z,us,r,⟨_,UG _ rfl,rfl,_,rfl⟩⟩
theorem eS (h:PA X es t):PE X (.List es pos) (NP t):=by
 intro pins s σ H Q I hq
 refine wpAny_List_spliced (bZ (h pos pins s σ H _ I hq) fun us s1 ⟨xs,H1,I1,r,z,q⟩=>⟨by rw[<-r.length];exact z,?_⟩)
 have hf:H1 s1.heap.objs.size=none:=I1.bR.fresh (Mq _)
 refine ⟨.ref s1.heap.objs.size,upd H1 s1.heap.objs.size (.lst xs),I1.laid (t':=s1.toks) (fun b u e=>Pz _ e) (Mq _) ?_,rfl,q _ hf⟩
 exact ⟨z,us,0,r,UG _ rfl⟩
end
abbrev Sp:=List V->Hp->VK->XK->Prop
abbrev yK:=List Env->Hp->Shared->XK->Value->Shared->Prop
structure vn (P:Program) (w:World) (K:PySem.W.Frag) (mg:Str->Option Value) (base:Heap) (A:Around) (outer:List Env) (s:Shared) (H:Hp):Prop where
 frames:A.frames=some outer
 mod:Mod K mg base
 bs: ∀b o,base.get? b=some o->s.heap.get? b=some o/\H b=none
 C9:base.objs.size<=s.heap.objs.size
 lS:s.heap.FunFrames base outer
 FW: ∀b∈w4 outer,H b=none
 bR:jl P w H s.heap
 bare:AllBare s.gens
def CE (outer:List Env) (P:Program) (w:World) (H:Hp) (s:Shared) (Q:VK) (u:Value) (s':Shared):Prop:=
 ∃v H',s'.os=s.os/\AllBare s'.gens/\Un (w4 outer) [] H H' s.heap s'.heap/\jl P w H' s'.heap/\RelV v u/\Q v H'
def CR (CX:yK) (outer:List Env) (P:Program) (w:World) (H:Hp) (s:Shared) (Q:VK) (E:XK) (r:Result) (s':Shared):Prop:=
 match r with
 | .ok (.ret u)=>CE outer P w H s Q u s'
 | .ok _=>False
 | .error e=>CX outer H s E e s'
structure bA (P:Program) (w:World) (K:PySem.W.Frag) (mg:Str->Option Value) (base:Heap) (CX:yK) (k:Nat) (f:Addr) (fd:FuncData) (ps:List Str) (sp:Sp):Prop where
 len: ∀vs H Q E,sp vs H Q E->vs.length=ps.length
 run: ∀(A:Around) (outer:List Env) (s:Shared) (H:Hp) (args:Args) (us:List Value) (vs:List V) (Q:VK) (E:XK),eI k A->vn P w K mg base A outer s H->BindsTo s fd args (ps.zip us)->Vals vs us->sp vs H Q E->
  codeAny (model P w) A (.call (.ref f) args) (CR CX outer P w H s Q E) s
theorem vn.make {P:Program} {w:World} {K:PySem.W.Frag} {mg:Str->Option Value} {base:Heap} {A:Around} {outer:List Env} {s:Shared} {H:Hp} (e:vn P w K mg base A outer s H) (C:Addr) (us:List Value) (kw:List (Str×Value)):
  vn P w K mg base (A.under (.builtin "type.__call__" ⟨.ref C::us,kw⟩)) outer s H:=⟨by first | exact e.frames | (simpa [Around.under,Code.envs,Code.isFrame,pushEnvs]using e.frames),e.mod,e.bs,e.C9,e.lS,e.FW,e.bR,e.bare⟩
section
variable {X:Cx} {pins:List (Addr×Obj)} {σ:St} {H:Hp} {s s':Shared}
theorem Inv.Kx (I:Inv X pins σ H s):vn X.prog X.w X.K X.mg X.base X.A X.stack s H:=
 ⟨I.ok.frames,I.ok.mod,I.bs,UW I.ok.C9 I.sz,I.stack,I.w5,I.bR,I.bare⟩
theorem Inv.after {Q:VK} {u:Value} (I:Inv X pins σ H s) (h:CE X.stack X.prog X.w H s Q u s'):EP X pins σ Q u s':=by
 obtain ⟨v,H',os,bare,un,bR,r,q⟩:=h
 obtain ⟨hh,g,d,t,Rb⟩:=s'
 obtain rfl:Rb=s.os:=os
 exact ⟨v,H',I.call (h':=hh) (g':=g) (d':=d) (t':=t) (ch:=[]) un bR bare (fun b z=>absurd z (by simp)),r,q⟩
end
def Ky (sp:Sp) (dvs:List V) (E:XK) (t:TA):TE:=fun σ H Q=>t σ H fun vs H1=>sp (vs++dvs) H1 Q E
def Kz (C:Addr) (sp:Sp) (dvs:List V) (E:XK) (t:TA):TE:=fun σ H Q=>t σ H fun vs H1=> ∀x dx,H1 x=none->H1 dx=none->dx≠x->
 sp (.ref x::(vs++dvs)) (upd (upd H1 dx (.own x)) x (.ins C dx [])) (fun v H2=>v= .fq/\Q (.ref x) H2) E
def Binds (K:PySem.W.Frag) (fd:FuncData) (ps:List Str) (ds:List Value):Prop:=
 ∀(s:Shared) (us:List Value),K.In s.heap->(us++ds).length=ps.length->BindsTo s fd ⟨us,[]⟩ (ps.zip (us++ds))
theorem Binds.all {K:PySem.W.Frag} {fd:FuncData} {ps:List Str} (h: ∀us:List Value,us.length=ps.length->bindArgs fd ⟨us,[]⟩=pure (ps.zip us)):Binds K fd ps []:=fun s us _ hl=>by
 rw[Vh]at hl ⊢
 exact .of_eq (h us hl)
def Passes (CX:yK) (X:Cx) (E:XK):Prop:= ∀(pins:List (Addr×Obj)) (σ:St) (H:Hp) (s:Shared) (e:Value) (s':Shared),Inv X pins σ H s->CX X.stack H s E e s'->X.xe e s'
section
variable {X:Cx} {CX:yK} {k:Nat} {f C:Addr} {fd:FuncData} {ps:List Str} {sp:Sp} {dvs:List V} {ds:List Value} {E:XK} {x m:Str} {p pos apos:Pos} {e o:Expr} {es:List Expr} {ta:TE} {t:TA}
theorem vp {pins:List (Addr×Obj)} {σ:St} {H:Hp} {s:Shared} {Q:VK} {us:List Value} {vs:List V} (F:bA X.prog X.w X.K X.mg X.base CX k f fd ps sp) (hr:eI k X.A) (hb:Binds X.K fd ps ds) (hd:Vals dvs ds) (hx:Passes CX X E)
  (I:Inv X pins σ H s) (r:Vals vs us) (h:sp (vs++dvs) H Q E):wpAny (model X.prog X.w) X.A (call (.ref f) us) (EP X pins σ Q) X.xe s:=by
 have r2:Vals (vs++dvs) (us++ds):=r.append hd
 have hl:(us++ds).length=ps.length:=by rw[<-r2.length];exact F.len _ _ _ _ h
 refine wpAny_call (codeAny_mono (F.run X.A X.stack s H ⟨us,[]⟩ (us++ds) (vs++dvs) Q E hr I.Kx (hb s us I.yz hl) r2 h) fun r s' hq=>?_)
 cases r with
 | error e=>exact hx pins σ H s e s' I hq
 | ok fl=>
  cases fl with
  | ret u=>exact I.after hq
  | next=>exact False.elim hq
  | brk=>exact False.elim hq
  | cont=>exact False.elim hq
theorem aj (F:bA X.prog X.w X.K X.mg X.base CX k f fd ps sp) (hr:eI k X.A) (hg:Gl X x) (hm:X.mg x=some (.ref f)) (hk:PySem.W.keepIn X.K (.ref f)=true) (hb:Binds X.K fd ps ds) (hd:Vals dvs ds) (hx:Passes CX X E)
  (ha:PA X (e::es) t) (Gr:(x==("__debug__":Str))=false:=by decide) (he:starEach (e::es) X.env=(false,eval e X.env)::starEach es X.env:=by rfl) (iP:(backTo pos (starEach es X.env)).any (·.1)=false:=by rfl):
  PE X (.Call (.Name x p) (e::es) [] pos) (Ky sp dvs E t):=by
 intro pins s σ H Q I h
 refine wpAny_Call_Name_kw (qQ I hg hm ?_ Gr)
 refine WA (h₀:=X.base) I.ok.mod.Iz hk (bZ (ha pos pins s σ H _ I h) fun us s1 ⟨vs,H1,I1,r,q⟩=>⟨I1.yz,?_⟩) he iP
 exact vp F hr hb hd hx I1 r q
structure Mk (K:PySem.W.Frag) (C f:Addr):Prop where
 makes:PySem.W.makesIn K C=true
 init:PySem.W.findIn K (.ref C) "__init__"=some (some (.ref f))
 fn:PySem.W.isFn K (.ref f)=true
 kp:PySem.W.keepIn K (.ref C)=true
theorem Ai {pins:List (Addr×Obj)} {σ:St} {H:Hp} {s:Shared} {Q:VK} {us:List Value} {vs:List V} (M:Mk X.K C f) (F:bA X.prog X.w X.K X.mg X.base CX k f fd ps sp) (hr:eI (k+1) X.A) (hb:Binds X.K fd ps ds) (hd:Vals dvs ds)
  (hx:Passes CX X E) (I:Inv X pins σ H s) (r:Vals vs us)
  (h: ∀x dx,H x=none->H dx=none->dx≠x->sp (.ref x::(vs++dvs)) (upd (upd H dx (.own x)) x (.ins C dx [])) (fun v H2=>v= .fq/\Q (.ref x) H2) E):
  wpAny (model X.prog X.w) X.A (call (.ref C) us) (EP X pins σ Q) X.xe s:=by
 have hq:=h (s.heap.objs.size+1) s.heap.objs.size (I.bR.fresh (VR _)) (I.bR.fresh (Mq _)) (UJ (VH _))
 have I2:=Inv.made (C:=C) I
 have r2:Vals (V.ref (s.heap.objs.size+1)::(vs++dvs)) (Value.ref (s.heap.objs.size+1)::(us++ds)):= .cons rfl (r.append hd)
 have hl:(Value.ref (s.heap.objs.size+1)::us++ds).length=ps.length:=by
  have e:=r2.length
  rw[F.len _ _ _ _ hq]at e
  exact e.symm
 refine wpAny_call (Ah (f:=f) I.yz M.makes M.init (beq_iff_eq.mp M.fn) (codeAny_mono (F.run _ X.stack _ _ ⟨Value.ref (s.heap.objs.size+1)::us,[]⟩ (Value.ref (s.heap.objs.size+1)::(us++ds)) _ _ E (hr.make C us [])
  (I2.Kx.make C us []) (hb _ (Value.ref (s.heap.objs.size+1)::us) I2.yz hl) r2 hq) fun r s' KA=>?_))
 cases r with
 | error e=>exact hx pins σ _ _ e s' I2 KA
 | ok fl=>
  cases fl with
  | ret u=>
   obtain ⟨v,H',I3,rv,ev,q3⟩:=I2.after KA
   subst ev
   exact ⟨rv,⟨V.ref (s.heap.objs.size+1),H',I3,rfl,q3⟩⟩
  | next=>exact False.elim KA
  | brk=>exact False.elim KA
  | cont=>exact False.elim KA
theorem mF (M:Mk X.K C f) (F:bA X.prog X.w X.K X.mg X.base CX k f fd ps sp) (hr:eI (k+1) X.A) (hg:Gl X x) (hm:X.mg x=some (.ref C)) (hb:Binds X.K fd ps ds) (hd:Vals dvs ds) (hx:Passes CX X E)
  (ha:PA X (e::es) t) (Gr:(x==("__debug__":Str))=false:=by decide) (he:starEach (e::es) X.env=(false,eval e X.env)::starEach es X.env:=by rfl) (iP:(backTo pos (starEach es X.env)).any (·.1)=false:=by rfl):
  PE X (.Call (.Name x p) (e::es) [] pos) (Kz C sp dvs E t):=by
 intro pins s σ H Q I h
 refine wpAny_Call_Name_kw (qQ I hg hm ?_ Gr)
 refine WA (h₀:=X.base) I.ok.mod.Iz M.kp (bZ (ha pos pins s σ H _ I h) fun us s1 ⟨vs,H1,I1,r,q⟩=>⟨I1.yz,?_⟩) he iP
 exact Ai M F hr hb hd hx I1 r q
end
section
variable {X:Cx} {CX:yK} {k:Nat} {f C:Addr} {fd:FuncData} {ps ks:List Str} {sp:Sp} {E:XK} {x m:Str} {p pos apos Rc:Pos} {e o:Expr} {es:List Expr} {TY:List Keyword} {te ta:TE} {t tk:TA} {nm:Option Str}
variable {g:List Value->List Value->List Value} {gV:List V->List V->List V}
end
structure aE (N P:List Str) (sc:Scope):Prop where
 kind:sc.kind= .function
 co:sc.isCoroutine=false
 gen:sc.isGenerator=false
 nd:N.Nodup
 pre:N.take P.length=P
 par: ∀x∈P,sc.names.lookup x=some .local\/sc.names.lookup x=some .cell
 Gs: ∀y∈sc.names,y.2≠ .free
theorem pL {kindOf:Str->Option NameKind} {x:Str}: ∀{binds:List (Str×Value)} {m:Str->Option Value},(∀v,(x,v)∉binds)->bindL kindOf binds m x=m x
 | [],_,_=>rfl
 |(n,v)::r,m,h=>by
  unfold bindL
  rw[pL fun w hw=>h w (T5 _ hw)]
  split
  ·have:x≠n:=by rintro rfl;exact h v UA
   simp[this]
  ·rfl
theorem pM {kindOf:Str->Option NameKind} {x:Str}: ∀{binds:List (Str×Value)} {m:Str->Option Value},(∀v,(x,v)∉binds)->bindC kindOf binds m x=m x
 | [],_,_=>rfl
 |(n,v)::r,m,h=>by
  unfold bindC
  rw[pM fun w hw=>h w (T5 _ hw)]
  split
  ·rfl
  ·have:x≠n:=by rintro rfl;exact h v UA
   simp[this]
theorem pN {kindOf:Str->Option NameKind} {x:Str} {v:Value}: ∀{P:List Str} {vs:List Value} {i:Nat} {m:Str->Option Value},P.Nodup->P[i]? =some x->vs[i]? =some v->kindOf x=some .local->
  bindL kindOf (P.zip vs) m x=some v
 | [],_,_,_,_,h,_,_=>by simp at h
 | _::_,[],_,_,_,_,h,_=>by simp at h
 | p::P,w::vs,0,m,nd,h1,h2,hk=>by
  simp at h1 h2;subst h1;subst h2
  show bindL kindOf ((p,w)::P.zip vs) m p=_
  unfold bindL
  rw[pL fun v hv=>(U4.mp nd).1 (XA hv).1,if_pos hk]
  simp
 | p::P,w::vs,i+1,m,nd,h1,h2,hk=>by
  show bindL kindOf ((p,w)::P.zip vs) m x=_
  unfold bindL
  exact pN (i:=i) (U4.mp nd).2 (by simpa using h1) (by simpa using h2) hk
theorem pQ {kindOf:Str->Option NameKind} {x:Str} {v:Value}: ∀{P:List Str} {vs:List Value} {i:Nat} {m:Str->Option Value},P.Nodup->P[i]? =some x->vs[i]? =some v->kindOf x≠some .local->
  bindC kindOf (P.zip vs) m x=some v
 | [],_,_,_,_,h,_,_=>by simp at h
 | _::_,[],_,_,_,_,h,_=>by simp at h
 | p::P,w::vs,0,m,nd,h1,h2,hk=>by
  simp at h1 h2;subst h1;subst h2
  show bindC kindOf ((p,w)::P.zip vs) m p=_
  unfold bindC
  rw[pM fun v hv=>(U4.mp nd).1 (XA hv).1,if_neg hk]
  simp
 | p::P,w::vs,i+1,m,nd,h1,h2,hk=>by
  show bindC kindOf ((p,w)::P.zip vs) m x=_
  unfold bindC
  exact pQ (i:=i) (U4.mp nd).2 (by simpa using h1) (by simpa using h2) hk
noncomputable def start (N:List Str) (vs:List V):St:=vs.map some++List.replicate (N.length - vs.length) none
noncomputable def yL (CX:yK) (P:Program) (w:World) (K:PySem.W.Frag) (mg:Str->Option Value) (base:Heap) (N:List Str) (qual:Str) (scope:Scope) (f:Addr) (cd:Value) (A:Around) (outer:List Env) (s:Shared) (H:Hp) (E:XK):Cx where
 prog:=P
 w:=w
 K:=K
 mg:=mg
 base:=base
 A:=A.deeper (envOfC qual scope s.heap.objs.size f cd)
 N:=N
 s₀:=s
 H₀:=H
 env:=envOfC qual scope s.heap.objs.size f cd
 outer:=outer
 stack:=envOfC qual scope s.heap.objs.size f cd::outer
 ex:=[]
 calm:=true
 fn:=fun _=>true
 pn:=[]
 xe:=fun e s'=>wpAny (model P w) (A.deeper (envOfC qual scope s.heap.objs.size f cd)) (leaving (envOfC qual scope s.heap.objs.size f cd) e) (fun _ KC=>CX outer H s E e KC) (fun e' KC=>CX outer H s E e' KC) s'
theorem tu {sc:Scope} {n:Nat} {x:Str} (h:sc.names.lookup x=some .cell): ∃c,(cellsFrom n sc.names []).lookup x=some c:=by
 have q:=PySem.W.cellsFrom_some sc.names n [] (.inl h)
 exact Option.isSome_iff_exists.mp q
theorem yM {CX:yK} {P:Program} {w:World} {K:PySem.W.Frag} {mg:Str->Option Value} {base:Heap} {N ps:List Str} {qual:Str} {scope:Scope} {f:Addr} {cd:Value} {A:Around} {outer:List Env} {s s1:Shared} {H:Hp} {E:XK} {us:List Value} {vs:List V}
  (S:aE N ps scope) (hd:A.handled=none) (e0:vn P w K mg base A outer s H) (hl:vs.length=ps.length) (r:Vals vs us)
  (x:InCallC s s.heap.objs.size (bindL (envOfC qual scope s.heap.objs.size f cd).kindOf (ps.zip us) fun _=>none) (cellsFrom (s.heap.objs.size+1) scope.names []) (bindC (envOfC qual scope s.heap.objs.size f cd).kindOf (ps.zip us) fun _=>none) s1):
  Inv (yL CX P w K mg base N qual scope f cd A outer s H E) [] (start N vs) H s1:=by
 have iP:ps.length<=N.length:=by have:=congrArg List.length S.pre;rw[UB]at this;omega
 obtain ⟨h1,tk,rfl,hk⟩:=x.done
 have KD: ∀b:Addr,b∉(yL CX P w K mg base N qual scope f cd A outer s H E).ex:=fun b z=>absurd (show b∈([]:List Addr) from z) (by simp)
 refine ⟨⟨e0.mod,S.kind,rfl,rfl,Mq _,fun y z c h1 h2=>?_,fun y hy=>?_,fun y c _ h=>?_,fun _=>hd,Around.frames_deeper e0.frames, .inr ⟨rfl,rfl⟩,fun b z=>absurd z (KD b),e0.bs,e0.C9,fun b _ _=>KD b,fun b z=>absurd z (KD b),e0.lS,e0.FW⟩,
  rfl,e0.bare,Un.kept hk,⟨_,x.toInCall.ns,fun i y v h1 h2 h3=>?_⟩,fun y c h=>⟨_,x.cell y c h⟩,e0.bR.fresh (Mq _),fun y c h=>?_,fun p hp=>absurd (show p∈([]:List (Addr×Obj)) from hp) (by simp),e0.bR.kept hk,?_⟩
 ·exact name_of_addr x.apart (V9 h1) (V9 h2)
 ·have hy:scope.names.lookup y=some .cell\/scope.names.lookup y=some .free:=hy
  rcases hy with hy | hy
  ·exact tu hy
  ·exact absurd rfl (S.Gs _ (V9 hy))
 ·exact U0 (x.above y c (V9 h))
 ·have hi:i<vs.length:=by
   unfold start at h2
   by_cases hi:i<vs.length
   ·exact hi
   ·rw[Vl (by simpa using hi)]at h2
    rw[List.getElem?_replicate]at h2
    split at h2<;>cases h2
  have ha:vs[i]? =some v:=by
   unfold start at h2
   rw[Va (by simpa using hi),UI]at h2
   cases e:vs[i]? with
   | none=>rw[e]at h2;cases h2
   | some a=>rw[e]at h2;cases h2;rfl
  obtain ⟨u,hu,rv⟩:=r.get ha
  have hp:ps[i]? =some y:=by
   rw[<-S.pre,List.getElem?_take_of_lt (by omega)];exact h1
  have Pn:ps.Nodup:=by rw[<-S.pre];exact S.nd.sublist (List.take_sublist _ _)
  refine ⟨u,rv,?_⟩
  rcases S.par y (UC hp) with k | k
  ·exact .inl ⟨k,pN Pn hp hu k⟩
  ·obtain ⟨c,e⟩:=tu (n:=s.heap.objs.size+1) k
   refine .inr ⟨.inl k,c,e,?_⟩
   have q:=x.cell y c e
   rw[pQ Pn hp hu (by show scope.names.lookup y≠_;rw[k];decide)]at q
   exact q
 ·exact e0.bR.fresh (U0 (x.above y c (V9 h)))
 ·unfold start
  show _=N.length
  rw[Rk,Py,List.length_replicate]
  omega
theorem KG {CX:yK} {P:Program} {w:World} {K:PySem.W.Frag} {mg:Str->Option Value} {base:Heap} {k:Nat} {f:Addr} {name qual:Str} {params:Arguments} {body:List Stmt} {scope:Scope} {dV kV doc pm cB ct oc:Value} {an od:Option Addr}
  {CP:Array (Option Value)} {N ps:List Str} {sp:Sp} (lk:K.lookup f=some ⟨oc,od, .func (PySem.W.fnOf name qual params body scope dV kV doc pm an cB ct),CP⟩) (lT:PySem.W.codeIn K cB qual=true) (S:aE N ps scope)
  (len: ∀vs H Q E,sp vs H Q E->vs.length=ps.length)
  (Aj: ∀(A:Around) (outer:List Env) (s:Shared) (H:Hp) (vs:List V) (Q:VK) (E:XK),eI k (A.deeper (envOfC qual scope s.heap.objs.size f cB))->sp vs H Q E->
   ∃t,u_ (yL CX P w K mg base N qual scope f cB A outer s H E) body t/\t { nx:=fun _ H'=>Q .fq H',rt:=Q } (start N vs) H):
  bA P w K mg base CX (k+1) f (PySem.W.fnOf name qual params body scope dV kV doc pm an cB ct) ps sp:=by
 refine ⟨len,fun A outer s H args us vs Q E hr e0 hb r E_=>?_⟩
 have hl:=len _ _ _ _ E_
 have KX:K.In s.heap:=e0.mod.Iz.keeps fun b o e=>(e0.bs b o e).1
 have lim:s.heap.NoLimit:=e0.mod.nolimit.keeps fun b o e=>(e0.bs b o e).1
 have gQ: ∀y∈ps.zip us,scope.names.lookup y.1=some .local\/(scope.names.lookup y.1=some .cell/\((cellsFrom (s.heap.objs.size+1) scope.names []).lookup y.1).isSome=true):=fun ⟨n,v⟩ hy=>by
  rcases S.par n (XA hy).1 with q | q
  ·exact .inl q
  ·exact .inr ⟨q,PySem.W.cellsFrom_some _ _ _ (.inl q)⟩
 refine codeAny_call_function hr.depth (KX _ _ lk) rfl S.co S.gen rfl (PySem.W.codeRec_of KX lT) (hb _ _ _ _ ?_)
 refine wpAny_newFunctionEnv_cells S.kind gQ fun env he s1 x=>?_
 subst he
 refine ⟨lim.keeps x.toInCall.keep,codeAny_func ?_⟩
 obtain ⟨t,ht,hq⟩:=Aj A outer s H vs Q E (hr.deeper _) E_
 have I:Inv (yL CX P w K mg base N qual scope f cB A outer s H E) [] (start N vs) H s1:=yM S hr.hd e0 hl r x
 refine wpAny_mono (ht [] s1 (start N vs) H _ I hq) (fun fl s' hs=>?_) fun e s' hs=>hs
 have fin: ∀{σ':St} {H':Hp} {v:V} {u:Value},Inv (yL CX P w K mg base N qual scope f cB A outer s H E) [] σ' H' s'->RelV v u->Q v H'->CE outer P w H s Q u s':=
  fun {σ' H' v u} J rv q=>⟨v,H',J.os,J.bare,J.base,J.bR,rv,q⟩
 cases fl with
 | ret u=>
  obtain ⟨v,σ',H',J,rv,q⟩:=hs
  exact fin J rv q
 | next=>
  obtain ⟨σ',H',J,q⟩:=hs
  exact fin (v:=V.fq) (u:=Value.none) J rfl q
 | brk=>
  obtain ⟨_,_,_,q⟩:=hs
  exact False.elim q
 | cont=>
  obtain ⟨_,_,_,q⟩:=hs
  exact False.elim q
section
variable {X:Cx} {x:Str} {p pos:Pos} {e:Expr} {es:List Expr} {t:TA} {id T:String} {r:List V->Hp->VK->Prop}
def Po (r:List V->Hp->VK->Prop) (t:TA):TE:=fun σ H Q=>t σ H fun vs H1=>r vs H1 Q
theorem aA (hc:dH X (.builtin id) r) (hg:Gl X x) (hm:X.mg x=none) (hv:bootBuiltins x=some (.builtin id)) (ha:PA X (e::es) t) (hn:x≠"__name__":=by decide) (Gr:(x==("__debug__":Str))=false:=by decide)
  (he:starEach (e::es) X.env=(false,eval e X.env)::starEach es X.env:=by rfl) (iP:(backTo pos (starEach es X.env)).any (·.1)=false:=by rfl):PE X (.Call (.Name x p) (e::es) [] pos) (Po r t):=by
 intro pins s σ H Q I h
 refine wpAny_Call_Name_kw (gy I hg hm hv ?_ hn Gr)
 exact PyProof.Rows.callWith_builtin1 (bZ (ha pos pins s σ H _ I h) fun us s1 ⟨vs,H1,I1,r1,q1⟩=>hc pins s1 σ H1 vs us Q I1 r1 q1) he iP
theorem dN (hc:dH X (.type T) r) (hg:Gl X x) (hm:X.mg x=none) (hv:bootBuiltins x=some (.type T)) (ha:PA X (e::es) t) (hn:x≠"__name__":=by decide) (Gr:(x==("__debug__":Str))=false:=by decide)
  (he:starEach (e::es) X.env=(false,eval e X.env)::starEach es X.env:=by rfl) (iP:(backTo pos (starEach es X.env)).any (·.1)=false:=by rfl):PE X (.Call (.Name x p) (e::es) [] pos) (Po r t):=by
 intro pins s σ H Q I h
 refine wpAny_Call_Name_kw (gy I hg hm hv ?_ hn Gr)
 exact Vi (bZ (ha pos pins s σ H _ I h) fun us s1 ⟨vs,H1,I1,r1,q1⟩=>hc pins s1 σ H1 vs us Q I1 r1 q1) he iP
end
end L2
namespace HT
open PySem PyProof.Rows
section
open PySem.SeqAt
open PySem.AutoSeq1 (wpAny_loadPart')
open PySem.MeetsSeq PySem.MeetsSeq2 PySem.MeetsSeq3
end
section
variable {prog:Program} {w:World} {A:Around} {E:Value->Shared->Prop} {s:Shared}
noncomputable def g6 (n d:Nat):Option Int->Nat
 | none=>d
 | some v=>if v<0 then (v+(n:Int)).toNat else min v.toNat n
theorem m5 (n d:Nat):g6 n d none=d:=rfl
theorem fJ (n d k:Nat):g6 n d (some (k:Int))=min k n:=by
 show (if (k:Int)<0 then ((k:Int)+(n:Int)).toNat else min (k:Int).toNat n)=min k n
 rw[if_neg (by omega),PB]
theorem Gu (n d:Nat) (hd:d<=n) (o:Option Int):g6 n d o<=n:=by
 cases o with
 | none=>exact hd
 | some v=>
  show (if v<0 then (v+(n:Int)).toNat else min v.toNat n)<=n
  by_cases hv:v<0
  ·rw[if_pos hv];omega
  ·rw[if_neg hv];exact Nat.min_le_right _ _
end
end HT
namespace L2
open PySem PySem.Spec PyProof.Rows
abbrev TO:=St->Hp->(Option Int->Hp->Prop)->Prop
def PO (X:Cx) (e:Option Expr) (t:TO):Prop:=
 ∀(pins:List (Addr×Obj)) (s:Shared) (σ:St) (H:Hp) (Q:Option Int->Hp->Prop),Inv X pins σ H s->t σ H Q->
  wpAny (model X.prog X.w) X.A (evalPart e X.env) (fun u s'=> ∃o H',Inv X pins σ H' s'/\IsPart u o/\Q o H') X.xe s
def Dj:TO:=fun _ H Q=>Q none H
def KH (t:TE):TO:=fun σ H Q=>t σ H fun x H1=> ∃i,x= .int i/\Q (some i) H1
section
variable {X:Cx} {e:Expr} {te:TE} {lo hi:Option Expr} {tl th:TO} {pos p2:Pos}
theorem cK:PO X none Dj:=by
 intro pins s σ H Q I h
 rw[evalPart_none]
 exact wpAny_pure ⟨none,H,I, .none,h⟩
theorem bu (h:PE X e te):PO X (some e) (KH te):=by
 intro pins s σ H Q I hw
 rw[evalPart_some]
 refine bZ (h pins s σ H _ I hw) fun u s1 ⟨x,H1,I1,r1,q1⟩=>?_
 obtain ⟨i,rfl,q⟩:=q1
 obtain ⟨t,rfl⟩:=r1
 exact ⟨some i,H1,I1, .int i t,q⟩
def Mn (X:Cx) (r:V->Option Int->Option Int->Hp->VK->Prop):Prop:=
 ∀(pins:List (Addr×Obj)) (s:Shared) (σ:St) (H:Hp) (x:V) (v vl vu:Value) (lo hi:Option Int) (sl:Addr) (Q:VK),Inv X pins σ H s->RelV x v->s.heap.IsSliceOf sl vl vu .none->IsPart vl lo->IsPart vu hi->r x lo hi H Q->
  ∃T id,typeLookup (.type T) "__getitem__"=pure (some (.builtin id))/\s.TypeIs v T/\wpAny (model X.prog X.w) X.A (getItem v (.ref sl)) (EP X pins σ Q) X.xe s
def Rf (r:V->Option Int->Option Int->Hp->VK->Prop) (te:TE) (tl th:TO):TE:=fun σ H Q=>te σ H fun x H1=>tl σ H1 fun l H2=>th σ H2 fun u H3=>r x l u H3 Q
theorem bD {r:V->Option Int->Option Int->Hp->VK->Prop} (hr:Mn X r) (he:PE X e te) (hl:PO X lo tl) (hu:PO X hi th):PE X (.Subscript e (.Slice lo hi none p2) pos) (Rf r te tl th):=by
 intro pins s σ H Q I h
 refine Subscript_ (bZ (he pins s σ H _ I h) fun v s1 ⟨x,H1,I1,r1,q1⟩=>?_)
 refine wpAny_Slice (bZ (hl pins s1 σ H1 _ I1 q1) fun vl s2 ⟨l,H2,I2,pl,q2⟩=>bZ (hu pins s2 σ H2 _ I2 q2) fun vu s3 ⟨u,H3,I3,pu,q3⟩=>?_)
 rw[evalPart_none]
 refine wpAny_pure ?_
 have I4:Inv X pins σ H3 { s3 with heap:=s3.heap.push { cls:= .type "slice",data:= .fields #[vl,vu, .none] } }:=I3.kept (t':=s3.toks) fun b ob q=>Pz _ q
 obtain ⟨T,id,hT,ht,hg⟩:=hr pins { s3 with heap:=s3.heap.push { cls:= .type "slice",data:= .fields #[vl,vu, .none] } } σ H3 x v vl vu l u s3.heap.objs.size Q I4 r1 (Heap.IsSliceOf.new ..) pl pu q3
 show wpAny (model X.prog X.w) X.A (subscriptTail e (.Slice lo hi none p2) v (.ref s3.heap.objs.size)) (EP X pins σ Q) X.xe { s3 with heap:=s3.heap.push { cls:= .type "slice",data:= .fields #[vl,vu, .none] } }
 exact tail_any (ops:=[.ref s3.heap.objs.size,v]) ht hT hg (by with_unfolding_all rfl)
noncomputable def m6 (xs:List V) (lo hi:Option Int):List V:=(xs.drop (HT.g6 xs.length 0 lo)).take (HT.g6 xs.length xs.length hi - HT.g6 xs.length 0 lo)
theorem tw (xs:List V) (lo hi:Option Int):(m6 xs lo hi).length<=xs.length:=by
 unfold m6
 rw[UB,US]
 omega
end
noncomputable def CQ (n:Nat) (i:Int):Option Nat:=if 0<=i then (if i<n then some i.toNat else none) else if -(n:Int)<=i then some (i+n).toNat else none
noncomputable def pR {α:Type} (xs:List α) (i:Int):Option α:=(CQ xs.length i).bind fun j=>xs[j]?
theorem xg {n:Nat} {i:Int} {j:Nat} (h:CQ n i=some j):seqIndex? i n=some j/\j<n/\ -(n:Int)<=i/\i<n:=by
 unfold CQ at h
 by_cases h0:0<=i
 ·rw[if_pos h0]at h
  by_cases h1:i<n
  ·rw[if_pos h1]at h
   have e:i.toNat=j:=UE h
   exact ⟨by rw[seqIndex_of h0 h1,e],by omega,by omega,h1⟩
  ·rw[if_neg h1]at h;cases h
 ·rw[if_neg h0]at h
  by_cases h1: -(n:Int)<=i
  ·rw[if_pos h1]at h
   have e:(i+n).toNat=j:=UE h
   exact ⟨by rw[seqIndex_neg (by omega) h1,e],by omega,h1,by omega⟩
  ·rw[if_neg h1]at h;cases h
theorem qU {α:Type} {xs:List α} {i:Int} {v:α} (h:pR xs i=some v): ∃j,seqIndex? i xs.length=some j/\xs[j]? =some v/\j<xs.length/\ -(xs.length:Int)<=i/\i<xs.length:=by
 unfold pR at h
 cases e:CQ xs.length i with
 | none=>rw[e]at h;cases h
 | some j=>
  rw[e]at h
  obtain ⟨h1,h2,h3,h4⟩:=xg e
  exact ⟨j,h1,h,h2,h3,h4⟩
theorem cL {α:Type} {xs:List α} {j:Nat} {v:α} (h:xs[j]? =some v):pR xs (j:Int)=some v:=by
 have hj:j<xs.length:=(GK.mp h).1
 have e:CQ xs.length (j:Int)=some j:=by
  unfold CQ
  rw[if_pos (by omega),if_pos (by omega)];simp
 unfold pR;rw[e];exact h
theorem Ak {α:Type} (xs:List α) (v:α):pR (xs++[v]) (-1)=some v:=by
 have hl:(xs++[v]).length=xs.length+1:=by simp
 have e:CQ (xs++[v]).length (-1)=some xs.length:=by
  unfold CQ
  rw[hl,if_neg (by decide),if_pos (by omega)]
  congr 1
  omega
 unfold pR
 rw[e]
 show (xs++[v])[xs.length]? =some v
 simp
def Dk (b:Expr):Prop:= ∀o i,subscripted b false o i=operate [o,i] (getItem o i)
def Gv (X:Cx) (r:R2):Prop:=
 ∀(value slice:Expr) (pins:List (Addr×Obj)) (s:Shared) (σ:St) (H:Hp) (x y:V) (v u:Value) (Q:VK),Inv X pins σ H s->RelV x v->RelV y u->r x y H Q->
  subscripted slice false v u=operate [v,u] (getItem v u)->wpAny (model X.prog X.w) X.A (subscriptTail value slice v u) (EP X pins σ Q) X.xe s
def yN (X:Cx) (id:String) (r:V->List V->Hp->VK->Prop):Prop:=
 ∀(pins:List (Addr×Obj)) (s:Shared) (σ:St) (H:Hp) (x:V) (xs:List V) (v:Value) (us:List Value) (Q:VK),Inv X pins σ H s->RelV x v->Vals xs us->r x xs H Q->
  wpAny (model X.prog X.w) X.A (call (.builtin id) (v::us)) (EP X pins σ Q) X.xe s
section
variable {X:Cx} {a b:Expr} {ta tb:TE} {pos:Pos}
theorem aQ {r:R2} (hr:Gv X r) (ha:PE X a ta) (hb:PE X b tb) (hs:Dk b):PE X (.Subscript a b pos) (Ml r ta tb):=by
 intro pins s σ H Q I h
 exact Subscript_ (Gn ha hb I h fun v u s2 x y H2 I2 rx ry q=>hr a b pins s2 σ H2 x y v u Q I2 rx ry q (hs _ _))
def KI (K:PySem.W.Frag):R2:=fun x y H Q=> ∃p xs i v,x= .ref p/\y= .int i/\bJ K H p xs/\pR xs i=some v/\Q v H
def KJ (K:PySem.W.Frag):R2:=fun x y H Q=> ∃p xs i v,x= .ref p/\y= .int i/\cS K H p xs/\pR xs i=some v/\Q v H
def NQ:R2:=fun x y H Q=> ∃z i c,x= .str z/\y= .int i/\z.length<=sizeLine/\pR z.cps.toList i=some c/\Q (.str ⟨#[c]⟩) H
theorem Dm:Gv X (KI X.K):=by
 intro value slice pins s σ H x y v u Q I rx ry h hs
 obtain ⟨p,xs,i,z,rfl,rfl,hq,he,q⟩:=h
 cases rx
 obtain ⟨t,rfl⟩:=ry
 obtain ⟨aI,r,pl,hz⟩:=I.list hq
 obtain ⟨j,h1,h2,h3,h4,h5⟩:=qU he
 obtain ⟨w,ew,qR⟩:=r.get h2
 have hl:=r.length
 have hn:=ft
 have fin:EP X pins σ Q w s:=⟨z,H,I,qR,q⟩
 by_cases h0:0<=i
 ·have hj:i.toNat=j:=by
   rw[seqIndex_of h0 h5]at h1
   exact UE h1
  exact item_listR pl.isList h0 (by omega) (by rw[hj];simpa using ew) fin hs
 ·have hj:(i+(aI.toArray.size:Int)).toNat=j:=by
   rw[seqIndex_neg (by omega) h4]at h1
   rw[Rl, <-hl]
   exact UE h1
  exact subscriptTail_builtinR (x:=w) pl.isList.typeIs slot_list_getitem.lookup
   (wpAny_getItem_list_neg (Q:=fun r s'=>r=w/\EP X pins σ Q r s') pl.isList (by omega) (by rw[Rl]<;>omega) (by omega) (by rw[hj];simpa using ew) ⟨rfl,fin⟩) hs
theorem Gw:Gv X (KJ X.K):=by
 intro value slice pins s σ H x y v u Q I rx ry h hs
 obtain ⟨p,xs,i,z,rfl,rfl,hq,he,q⟩:=h
 cases rx
 obtain ⟨t,rfl⟩:=ry
 obtain ⟨aI,r,pl,hz⟩:=I.tuple hq
 obtain ⟨j,h1,h2,h3,h4,h5⟩:=qU he
 obtain ⟨w,ew,qR⟩:=r.get h2
 have hl:=r.length
 have hn:=ft
 have fin:EP X pins σ Q w s:=⟨z,H,I,qR,q⟩
 exact subscriptTail_builtinR (x:=w) pl.typeIs slot_tuple_getitem.lookup
  (getItem_tuple (j:=j) (Q:=fun r s'=>r=w/\EP X pins σ Q r s') pl (by omega) (by omega) (by rw[Rl, <-hl];exact h1) (by simpa using ew) ⟨rfl,fin⟩) hs
theorem Gx:Gv X NQ:=by
 intro value slice pins s σ H x y v u Q I rx ry h hs
 obtain ⟨z,i,c,rfl,rfl,hz,he,q⟩:=h
 obtain ⟨t,rfl⟩:=rx
 obtain ⟨t',rfl⟩:=ry
 obtain ⟨j,h1,h2,h3,h4,h5⟩:=qU he
 have hl:z.cps.toList.length=z.length:=by simp[Str.length]
 rw[hl]at h1 h4 h5
 have hn:=ft
 exact tail_any (typeIs_str s z t) slot_str_getitem.lookup (getItem_str (c:=c) (by
  have e1:decide (i< -(2 ^ 63:Int))=false:=decide_eq_false (by omega)
  have e2:decide (i ≥ 2 ^ 63)=false:=decide_eq_false (by omega)
  rw[e1,e2,XE]) (by rw[h1];simpa using h2) ⟨.str ⟨#[c]⟩,H,I.tok _,⟨_,rfl⟩,q⟩) hs
theorem vq (aI:List Value) (n j:Nat) (u:Value):Obj.mapSeq (·.setIfInBounds j u) { cls:= .type "list",data:= .seq aI.toArray n }={ cls:= .type "list",data:= .seq (aI.set j u).toArray n }:=by
 simp[Obj.mapSeq]
theorem Inv.lst {pins:List (Addr×Obj)} {σ:St} {H:Hp} {s:Shared} {p:Addr} {xs:List V} (I:Inv X pins σ H s) (h:H p=some (.lst xs)):
  ∃(aI:List Value) (n:Nat),Vals xs aI/\s.heap.get? p=some { cls:= .type "list",data:= .seq aI.toArray n }/\xs.length<=sizeLine:=by
 obtain ⟨z,aI,n,r,e⟩:=I.bR p _ h
 exact ⟨aI,n,r,e,z⟩
theorem Inv.Gy {pins:List (Addr×Obj)} {σ:St} {H:Hp} {s:Shared} {p:Addr} {xs ys:List V} {aI its':List Value} {n n':Nat} {f:Obj->Obj} (I:Inv X pins σ H s) (h:H p=some (.lst xs))
  (ho:s.heap.get? p=some { cls:= .type "list",data:= .seq aI.toArray n }) (hf:f { cls:= .type "list",data:= .seq aI.toArray n }={ cls:= .type "list",data:= .seq its'.toArray n' }) (r:Vals ys its') (hz:ys.length<=sizeLine) (t:Nat):
  Inv X pins σ (upd H p (.lst ys)) { s with heap:=s.heap.update p f,toks:=t }:=by
 have e:(s.heap.update p f).get? p=some { cls:= .type "list",data:= .seq its'.toArray n' }:=by
  rw[Vu f ho (by rw[hf]<;>rfl),hf]
 refine I.write (x:=p) (e:=p) (by rw[h];trivial) (.inl rfl) (fun b u hb q=>(U9 _ _ (Ne.symm hb)).trans q) ⟨_,e⟩ ?_
 exact ⟨hz,its',n',r,e⟩
def KL:V->V->V->Hp->(Hp->Prop)->Prop:=fun o i v H Q=> ∃p xs k j,o= .ref p/\i= .int k/\H p=some (.lst xs)/\CQ xs.length k=some j/\Q (upd H p (.lst (xs.set j v)))
theorem set_list:Kg X KL:=by
 intro pins s σ H o i v ov iv u Q I ro ri rv h
 obtain ⟨p,xs,k,j,rfl,rfl,hp,hj,q⟩:=h
 cases ro
 obtain ⟨t,rfl⟩:=ri
 obtain ⟨aI,n,r,ho,hz⟩:=I.lst hp
 obtain ⟨h1,h2,h3,h4⟩:=xg hj
 have hl:=r.length
 have hn:=ft
 have I':Inv X pins σ (upd H p (.lst (xs.set j v))) { s with heap:=s.heap.update p (Obj.mapSeq (·.setIfInBounds j u)) }:=
  I.Gy hp ho (vq aI n j u) (r.set rv j) (by rw[List.length_set];exact hz) s.toks
 by_cases h0:0<=k
 ·have hk:k.toNat=j:=by
   rw[seqIndex_of h0 h4]at h1
   exact UE h1
  exact PySem.W.ki_setAt ho h0 (by omega) (by rw[Rl, <-hl];exact h4) (by rw[hk];exact ⟨_,I',q⟩)
 ·have hk:(k+(aI.toArray.size:Int)).toNat=j:=by
   rw[seqIndex_neg (by omega) h3]at h1
   rw[Rl, <-hl]
   exact UE h1
  exact PySem.W.ki_setBack ho (by omega) (by rw[Rl, <-hl];exact h3) (by omega) (by rw[hk];exact ⟨_,I',q⟩)
theorem qV (lo hi:Option Int) (n:Nat):(sliceBounds lo hi none n).1=((HT.g6 n 0 lo:Nat):Int)/\(sliceBounds lo hi none n).2.1=((HT.g6 n n hi:Nat):Int)/\(sliceBounds lo hi none n).2.2=1:=by
 refine ⟨?_,?_,rfl⟩
 ·cases lo with
  | none=>simp[sliceBounds,HT.g6]
  | some i=>
   simp only[sliceBounds,HT.g6,Option.getD_none,show (1:Int)>0 by decide,if_true]
   by_cases h:i<0
   ·simp only[h,if_true]<;>omega
   ·simp only[h,if_false]<;>omega
 ·cases hi with
  | none=>simp[sliceBounds,HT.g6]
  | some i=>
   simp only[sliceBounds,HT.g6,Option.getD_none,show (1:Int)>0 by decide,if_true]
   by_cases h:i<0
   ·simp only[h,if_true]<;>omega
   ·simp only[h,if_false]<;>omega
theorem oW (aI:List Value) (lo hi:Option Int):slicePick aI.toArray lo hi none=((aI.drop (HT.g6 aI.length 0 lo)).take (HT.g6 aI.length aI.length hi - HT.g6 aI.length 0 lo)).toArray:=by
 obtain ⟨h1,h2,h3⟩:=qV lo hi aI.toArray.size
 unfold slicePick
 rw[h1,h2,h3]
 simp only[sliceRange_one,pick_run,Rl]<;>rfl
def KN (K:PySem.W.Frag):V->Option Int->Option Int->Hp->VK->Prop:=fun x lo hi H Q=> ∃a xs,x= .ref a/\bJ K H a xs/\ ∀p,H p=none->Q (.ref p) (upd H p (.lst (m6 xs lo hi)))
theorem Dp:Mn X (KN X.K):=by
 intro pins s σ H x v vl vu lo hi sl Q I rx hs pl pu h
 obtain ⟨a,xs,rfl,hx,q⟩:=h
 cases rx
 obtain ⟨aI,r,ht,hz⟩:=I.list hx
 have hlen:=r.length
 refine ⟨"list",_,slot_list_getitem.lookup,ht.isList.typeIs,?_⟩
 refine wpAny_getItem_list_slice ht.isList hs pl pu .none (by simp) ?_ (by rw[Rl]<;>omega)
 rw[oW, <-hlen]
 refine ⟨.ref s.heap.objs.size,_,I.laid (t':=s.toks) (o:= .lst (m6 xs lo hi)) (fun b ob q=>Pz _ q) (Mq _) ?_,rfl,q _ (I.bR.fresh (Mq _))⟩
 exact ⟨UW (tw xs lo hi) hz,_,0,(r.drop (HT.g6 xs.length 0 lo)).take (HT.g6 xs.length xs.length hi - HT.g6 xs.length 0 lo),UG _ rfl⟩
noncomputable def jI:V->Bool
 | .fq=>true
 | .bl _=>true
 | .int _=>true
 | .str _=>true
 | _=>false
noncomputable def CT:V->V->Bool
 | .fq, .fq=>true
 | .bl a, .bl b=>a==b
 | .bl a, .int b=>(if a then 1 else 0)==b
 | .int a, .bl b=>a==(if b then 1 else 0)
 | .int a, .int b=>a==b
 | .str a, .str b=>a==b
 | _,_=>false
theorem Gz {A:Around} {s:Shared} {y x:V} {u v:Value} (ry:RelV y u) (rx:RelV x v) (fy:jI y=true) (fx:jI x=true):SeqAt.EqAt A s u v (CT y x):=by
 cases y with
 | fq=>
  cases ry
  cases x with
  | fq=>cases rx;exact SeqAt.EqAt.same _
  | bl b=>cases rx;exact SeqAt.EqAt.none_bool b
  | int b=>obtain ⟨t,rfl⟩:=rx;exact SeqAt.EqAt.none_int b t
  | str b=>obtain ⟨t,rfl⟩:=rx;exact SeqAt.EqAt.none_str b t
  | _=>exact absurd (show false=true from fx) UH
 | bl a=>
  cases ry
  cases x with
  | fq=>cases rx;exact SeqAt.EqAt.bool_none a
  | bl b=>cases rx;exact SeqAt.EqAt.bool_bool a b
  | int b=>obtain ⟨t,rfl⟩:=rx;exact SeqAt.EqAt.bool_int a b t
  | str b=>obtain ⟨t,rfl⟩:=rx;exact SeqAt.EqAt.bool_str a b t
  | _=>exact absurd (show false=true from fx) UH
 | int a=>
  obtain ⟨t',rfl⟩:=ry
  cases x with
  | fq=>cases rx;exact SeqAt.EqAt.int_none a t'
  | bl b=>cases rx;exact SeqAt.EqAt.int_bool a t' b
  | int b=>obtain ⟨t,rfl⟩:=rx;exact SeqAt.EqAt.int_int a t' b t
  | str b=>obtain ⟨t,rfl⟩:=rx;exact SeqAt.EqAt.int_str a t' b t
  | _=>exact absurd (show false=true from fx) UH
 | str a=>
  obtain ⟨t',rfl⟩:=ry
  cases x with
  | fq=>cases rx;exact SeqAt.EqAt.str_none a t'
  | bl b=>cases rx;exact SeqAt.EqAt.str_bool a t' b
  | int b=>obtain ⟨t,rfl⟩:=rx;exact SeqAt.EqAt.str_int a t' b t
  | str b=>obtain ⟨t,rfl⟩:=rx;exact SeqAt.EqAt.str_str a t' b t
  | _=>exact absurd (show false=true from fx) UH
 | _=>exact absurd (show false=true from fy) UH
noncomputable def Dq (x:V) (u:Value):Bool:=match u with
 | .none=>CT .fq x
 | .bool b=>CT (.bl b) x
 | .int i _=>CT (.int i) x
 | .str z _=>CT (.str z) x
 | _=>false
theorem Al {x y:V} {u:Value} (r:RelV y u) (f:jI y=true):Dq x u=CT y x:=by
 cases y with
 | fq=>cases r;rfl
 | bl b=>cases r;rfl
 | int i=>obtain ⟨t,rfl⟩:=r;rfl
 | str z=>obtain ⟨t,rfl⟩:=r;rfl
 | _=>exact absurd (show false=true from f) UH
theorem qW {x:V}: ∀{xs:List V} {us:List Value},Vals xs us->xs.all jI=true->us.any (Dq x)=xs.any fun y=>CT y x
 | _,_, .nil,_=>rfl
 | y::xs,u::us, .cons r t,f=>by
  rw[List.all_cons,Ve]at f
  rw[VX,VX,Al r f.1,qW t f.2]
theorem m7 {A:Around} {s:Shared} {x:V} {v:Value} (rx:RelV x v) (fx:jI x=true): ∀{xs:List V} {us:List Value},Vals xs us->xs.all jI=true-> ∀u∈us,SeqAt.EqAt A s u v (Dq x u)
 | _,_, .nil,_=>fun u hu=>by cases hu
 | y::xs,u::us, .cons r t,f=>fun u' hu=>by
  rw[List.all_cons,Ve]at f
  rcases T3.mp hu with rfl | hu
  ·rw[Al r f.1];exact Gz r rx f.1 fx
  ·exact m7 rx fx t f.2 u' hu
noncomputable def CU (x:V) (xs:List V):Bool:=xs.any fun y=>CT y x
def Pp (K:PySem.W.Frag) (neg:Bool):R2:=fun x y H Q=> ∃p xs,y= .ref p/\(bJ K H p xs\/cS K H p xs)/\jI x=true/\xs.all jI=true/\Q (.bl (if neg then !CU x xs else CU x xs)) H
theorem yO:i6 X (compareOp .In) (Pp X.K false):=by
 intro pins s σ H x y v u Q I rx ry h
 obtain ⟨p,xs,rfl,hq,fx,fs,q⟩:=h
 cases ry
 rcases hq with hq | hq
 ·obtain ⟨aI,r,pl,hz⟩:=I.list hq
  refine SeqAt.in_listAt (Dq x) pl.isList (fun w hw=>m7 rx fx r fs w (by simpa using hw)) ⟨.bl _,H,I,rfl,?_⟩
  rw[show aI.toArray.any (Dq x)=aI.any (Dq x) by simp,qW r fs]
  exact q
 ·obtain ⟨aI,r,pl,hz⟩:=I.tuple hq
  refine SeqAt.in_tupleAt (Dq x) pl (fun w hw=>m7 rx fx r fs w (by simpa using hw)) ⟨.bl _,H,I,rfl,?_⟩
  rw[show aI.toArray.any (Dq x)=aI.any (Dq x) by simp,qW r fs]
  exact q
theorem qX:dH X (.builtin "len") (fun xs H Q=> ∃p ys,xs=[.ref p]/\(bJ X.K H p ys\/cS X.K H p ys)/\Q (.int ys.length) H):=by
 intro pins s σ H xs us Q I r h
 obtain ⟨p,ys,rfl,hq,q⟩:=h
 obtain ⟨u,rfl,rx⟩:=vals1 r
 cases rx
 have hn:=ft
 rcases hq with hq | hq
 ·obtain ⟨aI,r',pl,hz⟩:=I.list hq
  have hlen:=r'.length
  exact Calls.call_len_list pl.isList (by simp only[Rl]<;>omega) ⟨.int ys.length,H,I.tok _,⟨s.toks+1,by rw[Rl,hlen]⟩,q⟩
 ·obtain ⟨aI,r',pl,hz⟩:=I.tuple hq
  have hlen:=r'.length
  exact len_tuple pl (by simp only[Rl]<;>omega) ⟨.int ys.length,H,I.tok _,⟨s.toks+1,by rw[Rl,hlen]⟩,q⟩
theorem qY:dH X (.builtin "len") (fun xs H Q=> ∃z,xs=[.str z]/\z.length<=sizeLine/\Q (.int z.length) H):=by
 intro pins s σ H xs us Q I r h
 obtain ⟨z,rfl,hz,q⟩:=h
 obtain ⟨u,rfl,t,rfl⟩:=vals1 r
 have hn:=ft
 exact len_str (by omega) ⟨.int z.length,H,I.tok _,⟨_,rfl⟩,q⟩
theorem qZ:dH X (.type "list") (fun xs H Q=> ∃p ys,xs=[.ref p]/\(bJ X.K H p ys\/cS X.K H p ys)/\ ∀l,H l=none->Q (.ref l) (upd H l (.lst ys))):=by
 intro pins s σ H xs us Q I r h
 obtain ⟨p,ys,rfl,hq,q⟩:=h
 obtain ⟨u,rfl,rx⟩:=vals1 r
 cases rx
 have fin: ∀(aI:List Value),Vals ys aI->ys.length<=sizeLine-> ∀(h':Heap) (c':Nat),(∀b o',s.heap.get? b=some o'->h'.get? b=some o')->
   h'.get? s.heap.objs.size=some { cls:= .type "list",dict:=none,data:= .seq aI.toArray c',slots:= #[] }->EP X pins σ Q (.ref s.heap.objs.size) { s with heap:=h' }:=fun aI r' hz h' c' kp e=>
  ⟨.ref s.heap.objs.size,_,I.laid (t':=s.toks) kp (Mq _) (show cD X.prog X.w _ h' _ (.lst ys) from ⟨hz,aI,c',r',e⟩),rfl,q _ (I.bR.fresh (Mq _))⟩
 rcases hq with hq | hq
 ·obtain ⟨aI,r',pl,hz⟩:=I.list hq
  have hlen:=r'.length
  obtain ⟨o,ho,hc,n,hd⟩:=pl.isList
  exact call_list_seq p (.inl rfl) ho hc hd (fun h' c' kp e=>fin aI r' hz h' c' kp e) (by simp only[Rl]<;>omega)
 ·obtain ⟨aI,r',pl,hz⟩:=I.tuple hq
  have hlen:=r'.length
  obtain ⟨o,ho,hc,n,hd⟩:=pl
  exact call_list_seq p (.inr rfl) ho hc hd (fun h' c' kp e=>fin aI r' hz h' c' kp e) (by simp only[Rl]<;>omega)
theorem oX:dH X (.type "tuple") (fun xs H Q=> ∃p ys,xs=[.ref p]/\((bJ X.K H p ys/\ ∀l,H l=none->Q (.ref l) (upd H l (.tup ys)))\/(cS X.K H p ys/\Q (.ref p) H))):=by
 intro pins s σ H xs us Q I r h
 obtain ⟨p,ys,rfl,h⟩:=h
 obtain ⟨u,rfl,rx⟩:=vals1 r
 cases rx
 rcases h with ⟨hq,q⟩ | ⟨hq,q⟩
 ·obtain ⟨aI,r',pl,hz⟩:=I.list hq
  have hlen:=r'.length
  refine call_tuple_list pl.isList (fun h' kp=>?_) (by simp only[Rl]<;>omega)
  have I1:Inv X pins σ H { s with heap:=h' }:=I.kept (t':=s.toks) kp
  have I2:Inv X pins σ (upd H h'.objs.size (.tup ys)) { s with heap:=h'.push { cls:= .type "tuple",data:= .seq aI.toArray } }:=
   I1.laid (t':=s.toks) (fun b o e=>Pz _ e) (Mq _) (show cD X.prog X.w _ _ _ (.tup ys) from ⟨hz,aI,r',IsTup.new _ _⟩)
  exact ⟨.ref h'.objs.size,_,I2,rfl,q _ (I1.bR.fresh (Mq _))⟩
 ·obtain ⟨aI,r',pl,hz⟩:=I.tuple hq
  exact call_tuple_same pl ⟨.ref p,H,I,rfl,q⟩
def NR (K:PySem.W.Frag) (T:String) (x:V) (H:Hp):Prop:=match x with
 | .str _=>T="str"
 | .int _=>T="int"
 | .ref p=>(T="list"/\ ∃xs,bJ K H p xs)\/(T="tuple"/\ ∃o,K.lookup p=some o/\o.cls= .type "tuple"/\o.dict=none)\/
   (T="dict"/\((∃aK,H p=some (.dK aK))\/ ∃aK,H p=some (.dT aK)))\/(T="set"/\ ∃S n,H p=some (.set S n))
 | _=>False
theorem Am {pins:List (Addr×Obj)} {σ:St} {H:Hp} {s:Shared} {T:String} {x:V} {v:Value} (I:Inv X pins σ H s) (r:RelV x v) (ty:NR X.K T x H):
  s.TypeIs v T/\ ∀a,v= .ref a-> ∃ob,s.heap.get? a=some ob/\ob.dict=none:=by
 cases x with
 | str z=>
  obtain ⟨t,rfl⟩:=r
  cases (show T="str" from ty)
  exact ⟨typeIs_str s z t,fun _ e=>nomatch e⟩
 | int i=>
  obtain ⟨t,rfl⟩:=r
  cases (show T="int" from ty)
  exact ⟨typeIs_int s i t,fun _ e=>nomatch e⟩
 | ref p=>
  cases r
  rcases ty with ⟨rfl,xs,hq⟩ | ⟨rfl,o,hk,hc,hd⟩ | ⟨rfl,hk⟩ | ⟨rfl,S,n,hk⟩
  ·obtain ⟨aI,_,pl,_⟩:=I.list hq
   refine ⟨pl.isList.typeIs,fun a e=>?_⟩
   cases e
   obtain ⟨o,n,e,c,hd,_⟩:=pl
   exact ⟨o,e,hd⟩
  ·refine ⟨⟨o,I.yz p o hk,hc⟩,fun a e=>?_⟩
   cases e
   exact ⟨o,I.yz _ o hk,hd⟩
  ·have z: ∃o,s.heap.get? p=some o/\o.ExactDict:=by
    rcases hk with ⟨aK,hk⟩ | ⟨aK,hk⟩
    ·obtain ⟨_,_,_,_,o,_,_,e,ex,_⟩:=I.bR p _ hk
     exact ⟨o,e,ex⟩
    ·obtain ⟨_,_,_,_,o,_,_,e,ex,_⟩:=I.bR p _ hk
     exact ⟨o,e,ex⟩
   obtain ⟨o,e,ex⟩:=z
   refine ⟨⟨o,e,ex.1⟩,fun a e2=>?_⟩
   cases e2
   exact ⟨o,e,ex.2.1⟩
  ·obtain ⟨o,_,_,_,e,ex,_⟩:=I.bR p _ hk
   refine ⟨⟨o,e,ex.1⟩,fun a e2=>?_⟩
   cases e2
   exact ⟨o,e,ex.2.1⟩
 | _=>exact False.elim ty
def KO (K:PySem.W.Frag) (T:String) (r:V->List V->Hp->VK->Prop) (to:TE):TE:=fun σ H Q=>to σ H fun x H1=>NR K T x H1/\r x [] H1 Q
def Pq (K:PySem.W.Frag) (T:String) (r:V->List V->Hp->VK->Prop) (to:TE) (t:TA):TE:=fun σ H Q=>to σ H fun x H1=>NR K T x H1/\t σ H1 fun xs H2=>r x xs H2 Q
variable {o e:Expr} {es:List Expr} {to:TE} {t:TA} {name:Str} {apos gZ:Pos} {T id:String} {r:V->List V->Hp->VK->Prop}
theorem GA (pa:PlainAttrs T) (slot:Slot T name id) (GB:typeOf (.builtin id)=pure (.type "method_descriptor")) (hm:yN X id r) (ho:PE X o to)
  (m8:attributeBase o name X.env (eval o X.env)=eval o X.env:=by rfl) (lJ:(apos.endLine==gZ.line)=true:=by rfl):PE X (.Call (.Attribute o name apos) [] [] gZ) (KO X.K T r to):=by
 intro pins s σ H Q I h
 refine wpAny_Call_method0_late m8 lJ (bZ (ho pins s σ H _ I h) fun v s1 ⟨x,H1,I1,r1,ty,q1⟩=>?_)
 obtain ⟨h1,h2⟩:=Am I1 r1 ty
 exact ⟨T,id,pa,slot,GB,h1,h2,Calls.callWith_builtin rfl (PySem.evalArgs_none (hm pins s1 σ H1 x [] v [] Q I1 r1 .nil q1))⟩
theorem KP (pa:PlainAttrs T) (slot:Slot T name id) (GB:typeOf (.builtin id)=pure (.type "method_descriptor")) (hm:yN X id r) (ho:PE X o to) (ha:PA X (e::es) t)
  (m8:attributeBase o name X.env (eval o X.env)=eval o X.env:=by rfl)
  (GC:((backTo gZ (starEach (e::es) X.env)).all (fun x=>!x.1)&&(backToKw gZ (keywordEach [] X.env)).all (fun x=>x.1.isSome)
   &&decide ((e::es).length+([]:List Keyword).length+(if ([]:List Keyword).isEmpty then 0 else 1)<30))=true:=by rfl)
  (lJ:(apos.endLine==gZ.line)=true:=by rfl) (hs:starEach (e::es) X.env=(false,eval e X.env)::starEach es X.env:=by rfl) (vv:(backTo gZ (starEach es X.env)).any (·.1)=false:=by rfl):
  PE X (.Call (.Attribute o name apos) (e::es) [] gZ) (Pq X.K T r to t):=by
 intro pins s σ H Q I h
 refine wpAny_Call_method_late m8 GC lJ rfl (bZ (ho pins s σ H _ I h) fun v s1 ⟨x,H1,I1,r1,ty,q1⟩=>?_)
 obtain ⟨h1,h2⟩:=Am I1 r1 ty
 refine ⟨T,id,pa,slot,GB,h1,h2,?_⟩
 have hA:=ha gZ pins s1 σ H1 _ I1 q1
 rw[hs]at hA ⊢
 refine Calls.callWith_builtin (by show (false||(backTo gZ (starEach es X.env)).any (·.1))=false;rw[vv]<;>rfl) (Calls.evalArgs_plain ?_)
 exact bZ hA fun us s2 ⟨vs,H2,I2,r2,q2⟩=>hm pins s2 σ H2 x vs v us Q I2 r1 r2 q2
end
def KQ (X:Cx) (id:String) (r:V->List V->Hp->VK->Prop):Prop:=
 ∀(pins:List (Addr×Obj)) (s:Shared) (σ:St) (H:Hp) (x:V) (xs:List V) (v:Value) (us:List Value) (Q:VK),Inv X pins σ H s->RelV x v->Vals xs us->r x xs H Q->
  wpAny (model X.prog X.w) X.A (call (.builtin id) (v::us)) (EP X pins σ Q) X.xe s
theorem Vals.one: ∀{x:V} {us:List Value},Vals [x] us-> ∃u,us=[u]/\RelV x u
 | _,_, .cons r .nil=>⟨_,rfl,r⟩
theorem Vals.zero: ∀{us:List Value},Vals [] us->us=[]
 | _, .nil=>rfl
theorem Vals.dropLast {xs:List V} {us:List Value} (h:Vals xs us):Vals xs.dropLast us.dropLast:=by
 induction h with
 | nil=>exact .nil
 | cons r t ih=>
  cases t with
  | nil=>exact .nil
  | cons q t'=>exact .cons r ih
theorem Vals.eraseIdx: ∀{xs:List V} {us:List Value} (i:Nat),Vals xs us->Vals (xs.eraseIdx i) (us.eraseIdx i)
 | _,_,_, .nil=> .nil
 | _,_,0, .cons _ t=>t
 | _,_,i+1, .cons r t=> .cons r (Vals.eraseIdx i t)
theorem Vals.reverse {xs:List V} {us:List Value} (h:Vals xs us):Vals xs.reverse us.reverse:=by
 induction h with
 | nil=>exact .nil
 | cons r t ih=>rw[List.reverse_cons,List.reverse_cons];exact Vals.append ih (.cons r .nil)
theorem vw {α:Type} (l:List α):l.eraseIdx (l.length - 1)=l.dropLast:=by
 induction l with
 | nil=>rfl
 | cons a r ih=>
  cases r with
  | nil=>rfl
  | cons b r=>
   have e:(a::b::r).length - 1=((b::r).length - 1)+1:=by
    have h1:(a::b::r).length=r.length+2:=rfl
    have h2:(b::r).length=r.length+1:=rfl
    omega
   rw[e,Wc,ih]
   all_goals rfl
theorem pT {α:Type}: ∀(l:List α) (i:Nat),(l.eraseIdx i).length<=l.length
 | [],_=>Mq _
 | _::_,0=>VR _
 | _::r,i+1=>VF (pT r i)
section
variable {X:Cx} {pins:List (Addr×Obj)} {σ:St} {H:Hp} {s:Shared} {l b:Addr} {xs ys zs:List V}
theorem Inv.Ao {aI its':List Value} {n:Nat} {f:Array Value->Array Value} {t':Nat} (I:Inv X pins σ H s) (hH:H l=some (.lst xs))
  (e:s.heap.get? l=some { cls:= .type "list",data:= .seq aI.toArray n }) (hf:f aI.toArray=its'.toArray) (hv:Vals ys its') (hz:ys.length<=sizeLine):
  Inv X pins σ (upd H l (.lst ys)) { s with heap:=s.heap.update l (Obj.mapSeq f),toks:=t' }:=by
 have q:=PySem.IsL.update e f
 rw[hf]at q
 refine I.write (x:=l) (e:=l) (by rw[hH];exact trivial) (.inl rfl) (fun b' u hb hu=>(U9 s.heap (Obj.mapSeq f) (Ne.symm hb)).trans hu) ⟨_,q⟩ ?_
 exact ⟨hz,its',_,hv,q⟩
theorem Inv.NS {aI:List Value} {t':Nat} (I:Inv X pins σ H s) (hv:Vals ys aI) (hz:ys.length<=sizeLine):
  Inv X pins σ (upd H s.heap.objs.size (.lst ys)) { s with heap:=s.heap.push { cls:= .type "list",data:= .seq aI.toArray },toks:=t' }:=
 I.laid (fun _ _ q=>Pz _ q) (Mq _) ⟨hz,aI,0,hv,UG _ rfl⟩
theorem Inv.fresh (I:Inv X pins σ H s):H s.heap.objs.size=none:=I.bR.fresh (Mq _)
theorem Inv.vx (I:Inv X pins σ H s) (hH:H l=some (.lst xs)):xs.length<=sizeLine/\ ∃(aI:List Value) (n:Nat),Vals xs aI/\xs.length=aI.length/\s.heap.get? l=some { cls:= .type "list",data:= .seq aI.toArray n }:=by
 obtain ⟨z,aI,n,r,e⟩:=I.bR l _ hH
 exact ⟨z,aI,n,r,r.length,e⟩
end
section
variable {X:Cx}
def Dr:V->List V->Hp->VK->Prop:=fun x vs H Q=> ∃l xs y,x= .ref l/\vs=[y]/\H l=some (.lst xs)/\xs.length<sizeLine/\Q .fq (upd H l (.lst (xs++[y])))
theorem fk:KQ X "list.append" Dr:=by
 intro pins s σ H x vs v us Q I rx rv h
 obtain ⟨l,xs,y,rfl,rfl,hH,hz,q⟩:=h
 cases rx
 obtain ⟨u,rfl,ru⟩:=rv.one
 obtain ⟨z,aI,n,r,hl,e⟩:=I.vx hH
 refine call_meets F.slot_list_append ⟨_,e,rfl⟩ F.entry_list_append (F.args_list_append_2 _ _) (PySem.list_append l aI.toArray n u (by rw[Rl];omega)) ⟨e,?_⟩
 refine ⟨.fq,_,I.Ao (its':=aI++[u]) hH e (by simp) (r.append (.cons ru .nil)) ?_,rfl,q⟩
 rw[Rk,List.length_singleton]
 omega
def NT:V->List V->Hp->VK->Prop:=fun x vs H Q=> ∃l xs y,x= .ref l/\vs=[]/\H l=some (.lst xs)/\xs[xs.length - 1]? =some y/\Q y (upd H l (.lst xs.dropLast))
theorem GD:KQ X "list.pop" NT:=by
 intro pins s σ H x vs v us Q I rx rv h
 obtain ⟨l,xs,y,rfl,rfl,hH,hy,q⟩:=h
 cases rx
 have zW:=rv.zero
 subst zW
 obtain ⟨z,aI,n,r,hl,e⟩:=I.vx hH
 obtain ⟨u,hu,ru⟩:=r.get hy
 have Rg:aI.toArray[aI.toArray.size - 1]? =some u:=by
  show aI.toArray[aI.length - 1]? =some u
  rw[<-Array.getElem?_toList, <-hl]
  exact hu
 refine call_meets F.slot_list_pop ⟨_,e,rfl⟩ F.entry_list_pop (F.args_list_pop_1 _) (MeetsSeq.list_pop_last l aI.toArray n u Rg (by rw[Rl];omega)) ⟨e,?_⟩
 refine ⟨y,_,I.Ao (its':=aI.dropLast) hH e ?_ r.dropLast ?_,ru,q⟩
 ·show aI.toArray.eraseIdxIfInBounds (aI.toArray.size - 1)=aI.dropLast.toArray
  rw[Rl,List.eraseIdxIfInBounds_toArray,vw]
 ·rw[List.length_dropLast]
  omega
def GF:V->List V->Hp->VK->Prop:=fun x vs H Q=> ∃l xs i k y,x= .ref l/\vs=[.int i]/\H l=some (.lst xs)/\ -(2 ^ 63)<=i/\i<2 ^ 63/\seqIndex? i xs.length=some k/\xs[k]? =some y/\Q y (upd H l (.lst (xs.eraseIdx k)))
theorem m9:KQ X "list.pop" GF:=by
 intro pins s σ H x vs v us Q I rx rv h
 obtain ⟨l,xs,i,k,y,rfl,rfl,hH,h1,h2,hk,hy,q⟩:=h
 cases rx
 obtain ⟨u,rfl,ru⟩:=rv.one
 obtain ⟨t,rfl⟩:=ru
 obtain ⟨z,aI,n,r,hl,e⟩:=I.vx hH
 obtain ⟨w,hw,qR⟩:=r.get hy
 refine call_meets F.slot_list_pop ⟨_,e,rfl⟩ F.entry_list_pop (F.args_list_pop_2 _ _)
  (MeetsSeq.list_pop_at l aI.toArray n i t k w (fitsIndex_both h1 h2) (by rw[Rl, <-hl];exact hk) (by rw[<-Array.getElem?_toList];exact hw) (by rw[Rl];omega)) ⟨e,?_⟩
 refine ⟨y,_,I.Ao (its':=aI.eraseIdx k) hH e ?_ (r.eraseIdx k) ?_,qR,q⟩
 ·show aI.toArray.eraseIdxIfInBounds k=(aI.eraseIdx k).toArray
  rw[List.eraseIdxIfInBounds_toArray]
 ·have:=pT xs k
  omega
def Ap:V->List V->Hp->VK->Prop:=fun x vs H Q=> ∃l xs,x= .ref l/\vs=[]/\H l=some (.lst xs)/\Q .fq (upd H l (.lst xs.reverse))
theorem vy:KQ X "list.reverse" Ap:=by
 intro pins s σ H x vs v us Q I rx rv h
 obtain ⟨l,xs,rfl,rfl,hH,q⟩:=h
 cases rx
 have zW:=rv.zero
 subst zW
 obtain ⟨z,aI,n,r,hl,e⟩:=I.vx hH
 refine call_meets F.slot_list_reverse ⟨_,e,rfl⟩ F.entry_list_reverse (F.args_list_reverse_1 _) (AutoSeq1.list_reverse_list_0 l aI.toArray n (by rw[Rl];omega)) ⟨e,?_⟩
 refine ⟨.fq,_,I.Ao (its':=aI.reverse) hH e (by simp) r.reverse ?_,rfl,q⟩
 rw[UY]
 omega
def NU:R2:=fun x y H Q=> ∃l b xs zs,x= .ref l/\y= .ref b/\H l=some (.lst xs)/\H b=some (.lst zs)/\xs.length+zs.length<=sizeLine/\ ∀p,H p=none->Q (.ref p) (upd H p (.lst (xs++zs)))
theorem GG:i6 X (binaryOp .Add) NU:=by
 intro pins s σ H x y v u Q I rx ry h
 obtain ⟨l,b,xs,zs,rfl,rfl,hH,hB,hz,q⟩:=h
 cases rx
 cases ry
 obtain ⟨z,aI,n,r,hl,e⟩:=I.vx hH
 obtain ⟨z2,KR,n2,r2,Fb,e2⟩:=I.vx hB
 refine PySem.P.add_list e e2 ?_ (by rw[Rl,Rl];omega)
 have ea:aI.toArray++KR.toArray=(aI++KR).toArray:=by simp
 rw[ea]
 exact ⟨.ref _,_,I.NS (t':=s.toks) (r.append r2) (by rw[Rk];omega),rfl,q _ I.fresh⟩
end
section
variable {prog:Program} {w:World} {A:Around} {E:Value->Shared->Prop} {s:Shared}
end
section
variable {X:Cx}
end
end L2
namespace Pu
open PySem PySem.W PySem.Calls PyProof.Rows
theorem lV {P:Params} {h:Heap}: ∀(ns:List Int) (vs:List Value),WellAll P h vs (ns.map WData.int)->IntsAre vs ns:=by
 intro ns
 induction ns with
 | nil=>
  intro vs w
  rw[List.map_nil]at w
  cases w
  exact .nil
 | cons n ns ih=>
  intro vs w
  rw[UK]at w
  cases w with
  | cons a b=>
   cases a
   exact .cons _ _ (ih _ b)
theorem yP {l:OpenLaw} {n:Nat} (hn:l.most=some n) {P:Params} {h:Heap} {args:List WData} {vals:List Value}
  (Ds:l.row.toRowW.claim.pre args=true) (q0:WellAll P h vals args):
  ∃a vs ns,vals=[Value.ref a]/\args=[WData.list (ns.map WData.int)]/\h.get? a=some { cls:= .type "list",data:= .seq vs.toArray }/\IntsAre vs ns/\ns.length<=n:=by
 have Rh:WShape.hasAll [] args [.list .int]=true:=(pre_splitW Ds).1
 have hc:l.pre.holds [] { args:=args }=true:=(pre_splitW Ds).2
 obtain ⟨d,r,rfl,h1,h2⟩:=hasAllW_cons Rh
 obtain rfl:=hasAllW_nil h2
 obtain ⟨xs,rfl,h3⟩:=hasW_list h1
 obtain ⟨ns,rfl⟩:=items_int h3
 have hlen:ns.length<=n:=by
  unfold OpenLaw.pre at hc
  have h4:(WTm.not (.lt (.lit (.int (n:Int))) (.len (.arg 0)))).holds [] { args:=[.list (ns.map .int)] }=true:=by
   have h4:=(holds_andW hc).1
   rw[hn]at h4
   exact h4
  have h5:=condW_of h4 (w_not (w_lt w_lit (w_len_list (w_arg rfl))))
  rw[Py]at h5
  refine Nat.le_of_not_lt fun q=>?_
  have q':(n:Int)<((ns.length:Nat):Int):=by omega
  first
   |(rw[decide_eq_true q']at h5;exact absurd h5 (by decide))
   |(simp at h5;omega)
 cases q0 with
 | cons w1 w2=>
  cases w2
  cases w1 with
  | list ho NV=>exact ⟨_,_,ns,rfl,rfl,ho,lV ns _ NV,hlen⟩
theorem yQ (l:OpenLaw) (args:List WData):l.row.toRowW.claim.post args (.bool true) args=true:=
 postW_of (r:=l.row.toRowW) (X:=(true==true))
  (show WShape.has [] (.bool true) .bool=true by first | rfl | decide | simp[WShape.has,WShape.arms,WShape.armsAll])
  (show (WTm.eq .res (.lit (.bool true))).value [] { args:=args,res:=some (.bool true),after:=args }=some (.bool (true==true)) from w_eq_bool (w_res rfl) w_lit) rfl
theorem tD {l:OpenLaw} {n:Nat} {q:Program} {loose:List Str} {XP:(Str->Option Value)->Heap->Prop} {YP:World->Heap->Prop} {d:DefRec}
  (hn:l.most=some n) (KS:d.params.defaults=[])
  (call: ∀(w:World) (s₀ s₁:Shared) (mg mb:Str->Option Value) (fa:Addr) (o:Obj) (pm cd doc:Value) (a:Addr) (vs:List Value) (ns:List Int),
   Ground q loose [] XP w s₀ mg mb s₁.heap->YP w s₁.heap->
   s₁.heap.get? fa=some o->o.data= .func (docDef d.name d.params d.body d.scope pm cd doc)->s₁.heap.CodeRec cd d.name->mg d.name=some (.ref fa)->
   s₁.heap.get? a=some { cls:= .type "list",data:= .seq vs.toArray }->IntsAre vs ns->ns.length<=n->s₁.gens= #[]->
   codeAny (model l.prog w) callerA (.call (.ref fa) ⟨[.ref a],[]⟩) (fun r s'=>r= .ok (.ret (.bool true))/\OldK s₁.heap s'.heap/\s'.os=s₁.os/\AllBare s'.gens) s₁):
  WalkO q loose XP YP l.row.toRowW d [] (fun f vs=>PySem.call f vs):=by
 intro w s₀ s₁ mg mb G Y fa o pm cd doc dV kV ho hd lT hD hmg hg args vals as Ds Ri TZ q0 T1
 obtain rfl:dV= .none:=Dflts.none hD KS
 obtain rfl:kV= .none:=Dflts.noKw hD
 obtain ⟨a,vs,ns,rfl,rfl,GH,hints,hlen⟩:=yP hn Ds q0
 refine enter_call (codeAny_mono (call w s₀ s₁ mg mb fa o pm cd doc a vs ns G Y ho (fd_plain hd) lT hmg GH hints hlen hg) fun r s' hq=>?_)
 obtain ⟨rfl,h2,h3,h4⟩:=hq
 exact ⟨.inl ⟨.bool true, .bool true,[],rfl,fun _=>rfl, .bool true,yQ l _,fun _=>⟨List.Pairwise.nil,fun _ hm=>(nomatch hm)⟩⟩,h2,h3,h4⟩
section
variable {prog:Program} {w:World} {A:Around} {E:Value->Shared->Prop} {s:Shared} {K:Frag}
end
end Pu
namespace L2
open PySem PySem.Spec PyProof.Rows
theorem pU: ∀{vs:List Value} {ns:List Int},IntsAre vs ns->Vals (ns.map V.int) vs
 | _,_, .nil=> .nil
 | _,_, .cons n t h=> .cons ⟨t,rfl⟩ (pU h)
def GI (H:Hp):Prop:= ∀b,H b=none\/ ∃o xs,H b=some (.CK o (.lst xs))
theorem Aq {P:Program} {w:World} {K:PySem.W.Frag} {mg mb:Str->Option Value} {CX:yK} {k:Nat} {fa a:Addr} {fd:FuncData} {x:Str} {sp:Sp} {s₁:Shared} {vs:List Value} {ns:List Int}
  (KX:K.In s₁.heap) (Mo:s₁.heap.Ns mainGlobals mg) (hb:s₁.heap.Ns builtinsNs mb) (Rj: ∀x:Str,x≠"__name__"->mb x=bootBuiltins x) (NW:s₁.heap.NoLimit) (hg:s₁.gens= #[])
  (ha:s₁.heap.get? a=some { cls:= .type "list",data:= .seq vs.toArray }) (hi:IntsAre vs ns) (hl:ns.length<=sizeLine) (hr:eI k callerA)
  (F: ∀base:Heap,K.In base->base.Ns mainGlobals mg->bA P w K mg base CX k fa fd [x] sp) (KU: ∀(s:Shared) (u:Value),BindsTo s fd ⟨[u],[]⟩ [(x,u)])
  (E_: ∀H:Hp,GI H->bJ K H a (ns.map V.int)->sp [.ref a] H (fun v _=>v= .bl true) fun _ _ _=>False)
  (NX: ∀H e s',CX [] H s₁ (fun _ _ _=>False) e s'->False):
  codeAny (model P w) callerA (.call (.ref fa) ⟨[.ref a],[]⟩) (fun r s'=>r= .ok (.ret (.bool true))/\OldK s₁.heap s'.heap/\s'.os=s₁.os/\AllBare s'.gens) s₁:=by
 have rv:=pU hi
 have NY:=hi.length
 -- from an abstract heap in Pw nothing but CN script may be tracked
 have core: ∀H:Hp,GI H->bJ K H a (ns.map V.int)->jl P w H s₁.heap->(∀b,H b≠none->b=a)->(H a≠none->K.lookup a=none)->
   codeAny (model P w) callerA (.call (.ref fa) ⟨[.ref a],[]⟩) (fun r s'=>r= .ok (.ret (.bool true))/\OldK s₁.heap s'.heap/\s'.os=s₁.os/\AllBare s'.gens) s₁:=by
  intro H hO hS bR hA hK
  have xh: ∀{b:Addr} {o:Obj},s₁.heap.get? b=some o->H b=none->(qP s₁.heap H).get? b=some o:=fun e n=>z7 e n
  have KD: ∀{b:Addr} {o:Obj} {es:Array DictEntry} {ep:Nat},s₁.heap.get? b=some o->o.data= .dict es ep->H b=none:=fun {b o es ep} e d=>by
   cases q:H b with
   | none=>rfl
   | some u=>
    have e':b=a:=hA b (by rw[q];simp)
    subst e'
    rw[ha]at e;cases e
    have d':Data.seq vs.toArray _=Data.dict es ep:=d
    cases d'
  have Mp: ∀{b:Addr} {m:Str->Option Value},s₁.heap.Ns b m->(qP s₁.heap H).Ns b m:=fun {b m} ⟨o,es,ep,e,d,r⟩=>⟨o,es,ep,xh e (KD e d),d,r⟩
  have Px:K.In (qP s₁.heap H):=fun b o e=>xh (KX b o e) (by
   cases q:H b with
   | none=>rfl
   | some u=>
    have e':b=a:=hA b (by rw[q];simp)
    subst e'
    rw[hK (by rw[q];simp)]at e;cases e)
  have hM:Mod K mg (qP s₁.heap H):=⟨Px,Mp Mo,⟨mb,Mp hb,Rj⟩,let ⟨mc,h1,h2⟩:=NW;⟨mc,Mp h1,h2⟩⟩
  have e0:vn P w K mg (qP s₁.heap H) callerA [] s₁ H:=⟨rfl,hM,fun b o e=>C8 e,Nat.le_of_eq (yy _ _),trivial,fun b hb=>absurd (show b∈([]:List Addr) from hb) (by simp),bR, .of_eq hg⟩
  refine codeAny_mono ((F _ Px (Mp Mo)).run callerA [] s₁ H ⟨[.ref a],[]⟩ [.ref a] [.ref a] _ _ hr e0 (KU s₁ (.ref a)) (.cons rfl .nil) (E_ H hO hS)) fun r s' h=>?_
  cases r with
  | error e=>exact (NX H e s' h).elim
  | ok fl=>
   cases fl with
   | next=>exact False.elim h
   | brk=>exact False.elim h
   | cont=>exact False.elim h
   | ret u=>
    obtain ⟨v,H',os,bare,un,NZ,r',q⟩:=h
    have q':v= .bl true:=q
    subst q'
    obtain rfl:u=Value.bool true:=r'
    refine ⟨rfl,OldK.of_keep fun b o e=>?_,os,bare⟩
    cases q:H b with
    | none=>exact un.keep b o e q (by intro z;exact absurd (show b∈([]:List Addr) from z) (by simp)) (by simp)
    | some u=>
     rcases hO b with z | ⟨ob,xs,z⟩
     ·rw[q]at z;cases z
     ·have z2:=un.mV b ob _ z
      obtain ⟨e1,_⟩:=bR b _ z
      obtain ⟨e2,_⟩:=NZ b _ z2
      rw[e]at e1;cases e1
      exact e2
 cases hk:K.lookup a with
 | some o=>
  -- CN script is one of CN An own objects
  have e:=KX a o hk
  rw[ha]at e
  cases e
  refine core (fun _=>none) (fun _=> .inl rfl) (.inr ⟨_,vs.toArray,_,hk,rfl,rfl,rfl,by rw[Rl,NY];exact hl,by simpa using rv⟩) (fun b u z=>by have z':(none:Option HO)=some u:=z;cases z') (fun b z=>absurd rfl z) fun z=>absurd rfl z
 | none=>
  refine core (fun b=>if b=a then some (.CK { cls:= .type "list",data:= .seq vs.toArray } (.lst (ns.map V.int))) else none) (fun b=>?_) (.inl (.inr ⟨{ cls:= .type "list",data:= .seq vs.toArray },if_pos rfl⟩)) (fun b u z=>?_) (fun b z=>?_) fun _=>hk
  ·by_cases hb:b=a
   ·exact .inr ⟨_,_,if_pos hb⟩
   ·exact .inl (if_neg hb)
  ·by_cases hb:b=a
   ·have z':=(if_pos hb).symm.trans z
    cases z'
    subst hb
    exact ⟨ha,by rw[Py];exact hl,vs,_,rv,ha⟩
   ·have z':=(if_neg hb).symm.trans z
    cases z'
  ·by_cases hb:b=a
   ·exact hb
   ·exact absurd (if_neg hb) z
theorem xi {l:PySem.W.OpenLaw} {n k:Nat} {q:Program} {loose:List Str} {XP:(Str->Option Value)->Heap->Prop} {YP:World->Heap->Prop} {d:DefRec} {K:Params->PySem.W.Frag} {CX:World->yK} {sp:World->Sp} {x:Str}
  (hn:l.most=some n) (ve:n<=sizeLine) (KS:d.params.defaults=[]) (hr:eI k callerA)
  (hY: ∀(w:World) (h:Heap),YP w h->(K w.params).In h)
  (F: ∀(w:World) (mg:Str->Option Value) (fa:Addr) (h:Heap),(K w.params).In h->h.Ns mainGlobals mg->mg d.name=some (.ref fa)->
   ∃fd:FuncData,(∀(s:Shared) (u:Value),BindsTo s fd ⟨[u],[]⟩ [(x,u)])/\
    ∀base:Heap,(K w.params).In base->base.Ns mainGlobals mg->bA l.prog w (K w.params) mg base (CX w) k fa fd [x] (sp w))
  (E_: ∀(w:World) (H:Hp) (a:Addr) (ns:List Int),ns.length<=n->GI H->bJ (K w.params) H a (ns.map V.int)->sp w [.ref a] H (fun v _=>v= .bl true) fun _ _ _=>False)
  (NX: ∀(w:World) (H:Hp) (s:Shared) (e:Value) (s':Shared),CX w [] H s (fun _ _ _=>False) e s'->False):
  PySem.W.WalkO q loose XP YP l.row.toRowW d [] (fun f vs=>PySem.call f vs):=by
 refine Pu.tD hn KS fun w s₀ s₁ mg mb fa o pm cd doc a vs ns G Y ho hd lT hmg GH hints hlen hg=>?_
 have KX:=hY w _ Y
 obtain ⟨fd,hb,hF⟩:=F w mg fa _ KX G.T.g hmg
 exact Aq KX G.T.g G.T.b G.T.builtins G.T.nolimit hg GH hints (UW hlen ve) hr hF hb (fun H hO hS=>E_ w H a ns hlen hO hS) fun H e s'=>NX w H s₁ e s'
noncomputable def eZ (s:Stmt):Arguments:=match s with
 | .FunctionDef _ a _ _ _ _ _ _ _ _=>a
 | _=>{ posonlyargs:=[],args:=[],vararg:=none,kwonlyargs:=[],kw_defaults:=[],kwarg:=none,defaults:=[] }
noncomputable def eB (s:Stmt):List Stmt:=match s with
 | .FunctionDef _ _ b _ _ _ _ _ _ _=>b
 | _=>[]
noncomputable def ar (s:Stmt):Scope:=match s with
 | .FunctionDef _ _ _ _ _ _ sc _ _ _=>sc
 | _=>{ kind:= .function,names:=[],isGenerator:=false,isCoroutine:=false }
abbrev e_:yK:=fun _ _ _ _ _ _=>False
abbrev E0:XK:=fun _ _ _=>False
theorem aB {X:Cx}:Passes e_ X E0:=fun _ _ _ _ _ _ _ h=>h.elim
structure Dt (K:PySem.W.Frag) (x qual:Str) (st:Stmt) (f:Addr) (fd:FuncData):Prop where
 ex: ∃(oc:Value) (od:Option Addr) (kV doc pm:Value) (an:Option Addr) (cB ct:Value) (CP:Array (Option Value)),
  fd=PySem.W.fnOf x qual (eZ st) (eB st) (ar st) .none kV doc pm an cB ct/\K.lookup f=some ⟨oc,od, .func fd,CP⟩/\PySem.W.codeIn K cB qual=true
 kp:PySem.W.keepIn K (.ref f)=true
section
variable {P:Program} {w:World} {K:PySem.W.Frag} {mg:Str->Option Value} {base:Heap}
theorem Dt.ok {x qual:Str} {st:Stmt} {f:Addr} {fd:FuncData} {N ps:List Str} {k:Nat} {sp:Sp} (F:Dt K x qual st f fd) (S:aE N ps (ar st)) (len: ∀vs H Q E,sp vs H Q E->vs.length=ps.length)
  (Aj: ∀(cB:Value) (A:Around) (outer:List Env) (s:Shared) (H:Hp) (vs:List V) (Q:VK) (E:XK),eI k (A.deeper (envOfC qual (ar st) s.heap.objs.size f cB))->sp vs H Q E->
   ∃t,u_ (yL e_ P w K mg base N qual (ar st) f cB A outer s H E).Mi (eB st) t/\t { nx:=fun _ H'=>Q .fq H',rt:=Q } (start N vs) H):bA P w K mg base e_ (k+1) f fd ps sp:=by
 obtain ⟨oc,od,kV,doc,pm,an,cB,ct,CP,rfl,lk,lT⟩:=F.ex
 refine KG lk lT S len fun A outer s H vs Q E hr E_=>?_
 obtain ⟨t,h,q⟩:=Aj cB A outer s H vs Q E hr E_
 exact ⟨t,h.Mi,q⟩
theorem Dt.binds {x qual:Str} {st:Stmt} {f:Addr} {fd:FuncData} {ps:List Str} (F:Dt K x qual st f fd)
  (h: ∀(kV doc pm:Value) (an:Option Addr) (cB ct:Value) (us:List Value),us.length=ps.length->bindArgs (PySem.W.fnOf x qual (eZ st) (eB st) (ar st) .none kV doc pm an cB ct) ⟨us,[]⟩=pure (ps.zip us)):Binds K fd ps []:=by
 obtain ⟨oc,od,kV,doc,pm,an,cB,ct,CP,rfl,lk,lT⟩:=F.ex
 exact .all (h kV doc pm an cB ct)
theorem vz {x qual:Str} {st:Stmt} {f:Addr} {oc:Value} {od an:Option Addr} {CP:Array (Option Value)} {kV doc pm cB ct:Value} (l:K.lookup f=some ⟨oc,od, .func (PySem.W.fnOf x qual (eZ st) (eB st) (ar st) .none kV doc pm an cB ct),CP⟩)
  (c:PySem.W.codeIn K cB qual=true) (k:PySem.W.keepIn K (.ref f)=true):Dt K x qual st f (PySem.W.fnOf x qual (eZ st) (eB st) (ar st) .none kV doc pm an cB ct):=⟨⟨oc,od,kV,doc,pm,an,cB,ct,CP,rfl,l,c⟩,k⟩
end
theorem m_ {A:Around} {k:Nat} (hr:eI k A):A.units+1<cLine:=UX (Nat.add_le_add_left (by decide:1<=64) _) hr.units
section
variable {X:Cx}
theorem pv (i:Nat) {x:Str} {pos:Pos} (hN:X.N[i]? =some x:=by rfl) (hv:J5 X.env.scope x:=by first | exact Or.inl rfl | exact Or.inr (Or.inl rfl) | exact Or.inr (Or.inr rfl)) (hd:(x==("__debug__":Str))=false:=by decide)
  (lT:(x==("__classdict__":Str))=false:=by decide):PE X (.Name x pos) (F_ i):=Ga hN hv hd lT
end
theorem yR {A B:Prop} (h:B):if false=true then A else B:=by
 rw[if_neg UH]
 exact h
theorem KW {A B:Prop} (h:A):if true=true then A else B:=by
 rw[if_pos rfl]
 exact h
theorem bY {c A B:Prop} [Decidable c] (h1:c->A) (h2: ¬c->B):if c then A else B:=by
 by_cases h:c
 ·rw[if_pos h]
  exact h1 h
 ·rw[if_neg h]
  exact h2 h
def ay (H H':Hp):Prop:= ∀b o,H b=some o->H' b=some o
theorem ay.refl (H:Hp):ay H H:=fun _ _ h=>h
theorem ay.trans {H H1 H2:Hp} (a:ay H H1) (b:ay H1 H2):ay H H2:=fun c o h=>b c o (a c o h)
theorem ay.free {H H':Hp} (e:ay H H') {l:Addr} (h:H' l=Option.none):H l=Option.none:=by
 cases q:H l with
 | none=>rfl
 | some o=>
  rw[e l o q]at h
  cases h
theorem ay.seq {K:PySem.W.Frag} {H H':Hp} {a:Addr} {xs:List V} (e:ay H H') (h:bJ K H a xs):bJ K H' a xs:=by
 rcases h with (h | ⟨o,h⟩) | h
 ·exact .inl (.inl (e _ _ h))
 ·exact .inl (.inr ⟨o,e _ _ h⟩)
 ·exact .inr h
noncomputable def g5 (env:Env):List (Str×NameKind)->List (Str×Addr)->List (Str×Addr)
 | [],acc=>acc
 |(n,k)::r,acc=>g5 env r (if k== .free then (match env.cells.lookup n with | some a=>(n,a)::acc | none=>acc) else acc)
theorem eT {env:Env}: ∀(names:List (Str×NameKind)) (acc:List (Str×Addr)),(∀y∈names,y.2= .free-> ∃c,env.cells.lookup y.1=some c)->
  (forIn names acc fun (x:Str×NameKind) (cs:List (Str×Addr))=>(if (x.2==NameKind.free)=true then do let a <-cellOf env x.1;pure (ForInStep.yield ((x.1,a)::cs)) else pure (ForInStep.yield cs):Sem (ForInStep (List (Str×Addr)))))=pure (g5 env names acc)
 | [],acc,_=>rfl
 |(n,k)::r,acc,h=>by
  rw[Wu]
  have hr: ∀y∈r,y.2= .free-> ∃c,env.cells.lookup y.1=some c:=fun y hy=>h y (T5 _ hy)
  cases hk:(k==NameKind.free) with
  | false=>
   have e1:g5 env ((n,k)::r) acc=g5 env r acc:=by
    show g5 env r (if (k==NameKind.free)=true then (match env.cells.lookup n with | some a=>(n,a)::acc | none=>acc) else acc)=_
    rw[hk,if_neg UH]
   rw[e1, <-eT r acc hr]
   simp only[hk,VV,if_false,pure_bind]
  | true=>
   obtain ⟨c,hc⟩:=h (n,k) UA (by simpa using hk)
   have e1:g5 env ((n,k)::r) acc=g5 env r ((n,c)::acc):=by
    have oT:env.cells.lookup n=some c:=hc
    show g5 env r (if (k==NameKind.free)=true then (match env.cells.lookup n with | some a=>(n,a)::acc | none=>acc) else acc)=_
    rw[hk,oT,if_pos rfl]
   have e2:cellOf env n=pure c:=by
    have oT:env.cells.lookup n=some c:=hc
    unfold cellOf
    rw[oT]
   rw[e1, <-eT r ((n,c)::acc) hr]
   simp only[hk,if_true,e2,pure_bind]
theorem ja {scope:Scope} {env:Env} (h: ∀y∈scope.names,y.2= .free-> ∃c,env.cells.lookup y.1=some c):closureFor scope env=pure (g5 env scope.names []):=by
 have e:=eT scope.names [] h
 simp only[closureFor]
 rw[e]
 rfl
theorem kF {env:Env} {x:Str} {c:Addr}: ∀(names:List (Str×NameKind)) (acc:List (Str×Addr)),(∀y d,acc.lookup y=some d->env.cells.lookup y=some d)->(g5 env names acc).lookup x=some c->env.cells.lookup x=some c
 | [],acc,ha,h=>ha x c h
 |(n,k)::r,acc,ha,h=>by
  refine kF r _ (fun y d q=>?_) h
  by_cases hk:(k==NameKind.free)=true
  ·rw[if_pos hk]at q
   cases e:env.cells.lookup n with
   | none=>rw[e]at q;exact ha y d q
   | some a=>
    rw[e]at q
    have q':List.lookup y ((n,a)::acc)=some d:=q
    rw[U6]at q'
    cases hy:(y==n) with
    | true=>
     rw[hy]at q'
     have:y=n:=by simpa using hy
     subst this
     rw[e];exact q'
    | false=>rw[hy]at q';exact ha y d q'
  ·rw[if_neg hk]at q;exact ha y d q
theorem tE {env:Env} {x:Str}: ∀(names:List (Str×NameKind)) (acc:List (Str×Addr)),(∃c,acc.lookup x=some c)-> ∃c,(g5 env names acc).lookup x=some c
 | [],acc,h=>h
 |(n,k)::r,acc,⟨c,hc⟩=>by
  refine tE r _ ?_
  by_cases hk:(k==NameKind.free)=true
  ·rw[if_pos hk]
   cases e:env.cells.lookup n with
   | none=>exact ⟨c,hc⟩
   | some a=>
    show ∃c,List.lookup x ((n,a)::acc)=some c
    rw[U6]
    cases hy:(x==n) with
    | true=>exact ⟨a,rfl⟩
    | false=>exact ⟨c,hc⟩
  ·rw[if_neg hk];exact ⟨c,hc⟩
theorem nc {env:Env} {x:Str}: ∀(names:List (Str×NameKind)) (acc:List (Str×Addr)),(∀y∈names,y.2= .free-> ∃c,env.cells.lookup y.1=some c)->names.lookup x=some .free-> ∃c,(g5 env names acc).lookup x=some c
 | [],acc,_,h=>by simp at h
 |(n,k)::r,acc,hf,h=>by
  have hr: ∀y∈r,y.2= .free-> ∃c,env.cells.lookup y.1=some c:=fun y hy=>hf y (T5 _ hy)
  rw[U6]at h
  cases hy:(x==n) with
  | true=>
   rw[hy]at h
   have hk:k= .free:=UE h
   subst hk
   have hx:x=n:=by simpa using hy
   subst hx
   obtain ⟨c,hc⟩:=hf (x, .free) UA rfl
   have oT:env.cells.lookup x=some c:=hc
   refine tE r _ ⟨c,?_⟩
   rw[if_pos (show (NameKind.free==NameKind.free)=true by decide),oT]
   show List.lookup x ((x,c)::acc)=some c
   rw[U6]
   simp
  | false=>
   rw[hy]at h
   exact nc r _ hr h
theorem jJ {env:Env}: ∀{names:List (Str×NameKind)} {x:Str},names.lookup x=some .free->
  ((names.map fun (n,k)=>if (k==NameKind.free&&env.scope.kind== .function&&env.kindOf n==some .cell) then (n,NameKind.cell) else (n,k)).lookup x=some .cell\/
   (names.map fun (n,k)=>if (k==NameKind.free&&env.scope.kind== .function&&env.kindOf n==some .cell) then (n,NameKind.cell) else (n,k)).lookup x=some .free)
 | [],_,h=>by simp at h
 |(n,k)::r,x,h=>by
  have ih:= @jJ env r x
  show (List.lookup x ((if (k==NameKind.free&&env.scope.kind== .function&&env.kindOf n==some .cell)=true then (n,NameKind.cell) else (n,k))::_)=_\/List.lookup x ((if (k==NameKind.free&&env.scope.kind== .function&&env.kindOf n==some .cell)=true then (n,NameKind.cell) else (n,k))::_)=_)
  cases hx:x==n with
  | true=>
   simp only[U6,hx]at h
   cases h
   by_cases hc:((NameKind.free==NameKind.free)&&env.scope.kind== .function&&env.kindOf n==some .cell)=true
   ·rw[if_pos hc];simp[U6,hx]
   ·rw[if_neg hc];simp[U6,hx]
  | false=>
   simp only[U6,hx]at h
   by_cases hc:(k==NameKind.free&&env.scope.kind== .function&&env.kindOf n==some .cell)=true
   ·rw[if_pos hc];simp only[U6,hx];exact ih h
   ·rw[if_neg hc];simp only[U6,hx];exact ih h
theorem jK {env:Env}: ∀{names:List (Str×NameKind)} {x:Str},(∀y∈names,y.2≠ .cell)->
  ((names.map fun (n,k)=>if (k==NameKind.free&&env.scope.kind== .function&&env.kindOf n==some .cell) then (n,NameKind.cell) else (n,k)).lookup x=some .cell\/
   (names.map fun (n,k)=>if (k==NameKind.free&&env.scope.kind== .function&&env.kindOf n==some .cell) then (n,NameKind.cell) else (n,k)).lookup x=some .free)->names.lookup x=some .free
 | [],_,_,h=>by simp at h
 |(n,k)::r,x,hn,h=>by
  have ih:= @jK env r x (fun y hy=>hn y (T5 _ hy))
  have hk:=hn (n,k) UA
  have h':(List.lookup x ((if (k==NameKind.free&&env.scope.kind== .function&&env.kindOf n==some .cell)=true then (n,NameKind.cell) else (n,k))::(r.map fun (n,k)=>if (k==NameKind.free&&env.scope.kind== .function&&env.kindOf n==some .cell) then (n,NameKind.cell) else (n,k)))=some .cell\/List.lookup x ((if (k==NameKind.free&&env.scope.kind== .function&&env.kindOf n==some .cell)=true then (n,NameKind.cell) else (n,k))::(r.map fun (n,k)=>if (k==NameKind.free&&env.scope.kind== .function&&env.kindOf n==some .cell) then (n,NameKind.cell) else (n,k)))=some .free):=h
  cases hx:x==n with
  | true=>
   rw[U6,hx]
   by_cases hc:(k==NameKind.free&&env.scope.kind== .function&&env.kindOf n==some .cell)=true
   ·have:(k==NameKind.free)=true:=by
     rw[Ve,Ve]at hc;exact hc.1.1
    have Fc:k= .free:=by simpa using this
    rw[Fc]
   ·rw[if_neg hc]at h'
    simp only[U6,hx]at h'
    rcases h' with h' | h'
    ·exact absurd (UE h') hk
    ·exact h'
  | false=>
   rw[U6,hx]
   by_cases hc:(k==NameKind.free&&env.scope.kind== .function&&env.kindOf n==some .cell)=true
   ·rw[if_pos hc]at h';simp only[U6,hx]at h';exact ih h'
   ·rw[if_neg hc]at h';simp only[U6,hx]at h';exact ih h'
abbrev CV:Value->Shared->Prop:=fun _ _=>False
theorem q5 {prog:Program} {w:World} {A:Around} {R:Result->Shared->Prop} {s:Shared} {elt target iter:Expr} {ifs:List Expr} {scope:Scope} {pos:Pos} {it acc:Value} {env:Env} (I:Nat->Shared->Prop)
  (turn: ∀n s,I n s->wpAny (model prog w) A (pyNext it) (fun r s₁=>match r with
   | none=>R (.ok .next) s₁
   | some v=>wpAny (model prog w) A (letOwnedTupleGo target it v) (fun _ PD=>wpAny (model prog w) A (assign target env v) (fun _ s₂=>
     wpAny (model prog w) A (forIn ifs true fun c r=>if r=true then do let ok <-isTrue c env (eval c env);pure (ForInStep.yield ok) else pure (ForInStep.yield r)) (fun ok s₃=>
      if ok=true then wpAny (model prog w) A (eval elt env) (fun x s₄=>
       wpAny (model prog w) A (call (.builtin "list.append") [acc,x]) (fun _ s₅=> ∃m,m<n/\I m s₅) CV s₄) CV s₃
      else ∃m,m<n/\I m s₃) CV s₂) CV PD) CV s₁) CV s)
  (n:Nat) (h:I n s):codeAny (model prog w) A (.compLoop (.ListComp elt [⟨target,iter,ifs,0⟩] scope pos) 0 it acc env) R s:=by
 refine codeAny_loop rfl I (fun n s hI=>?_) n h
 show wpAny _ A ((compTurn (.ListComp elt [⟨target,iter,ifs,0⟩] scope pos) 0 it acc env).onRaise (fun x=>do noteFrame x env;theTreesLotGoes x)) _ _ s
 refine wpAny_noted ?_
 rw[compTurn_list]
 have no: ∀{F:Value->Shared->Prop} (e:Value) (s':Shared),CV e s'->F e s':=fun _ _ h=>h.elim
 refine wpAny_bind (wpAny_standAt (wpAny_bind (wpAny_mono (turn n s hI) (fun r s₁ h₁=>?_) no)))
 cases r with
 | none=>exact wpAny_pure h₁
 | some v=>
  refine wpAny_bind (wpAny_mono h₁ (fun _ PD Rp=>?_) no)
  refine wpAny_bind (wpAny_mono Rp (fun _ s₂ h₂=>wpAny_bind (wpAny_mono h₂ (fun ok s₃ h₃=>?_) no)) no)
  cases ok with
  | false=>exact wpAny_pure ⟨rfl,h₃⟩
  | true=>
   exact wpAny_bind (wpAny_bind (wpAny_mono h₃ (fun x s₄ h₄=>wpAny_bind (wpAny_mono h₄ (fun _ s₅ h₅=>wpAny_pure (wpAny_pure ⟨rfl,h₅⟩)) no)) no))
noncomputable def bH (X:Cx) (scope:Scope) (C:Addr) (Nc:List Str) (s:Shared) (H:Hp) (fp:List Addr):Cx where
 prog:=X.prog
 w:=X.w
 K:=X.K
 mg:=X.mg
 base:=X.base
 A:=X.A
 N:=Nc
 s₀:=s
 H₀:=H
 env:=compEnvC scope (g5 X.env scope.names []) C X.env
 outer:=X.stack
 stack:=X.stack
 ex:=fp
 fn:=fun _=>false
 calm:=X.calm
 pn:=[]
 xe:=CV
def i7 (X:Cx) (scope:Scope):List Str->List (Option Nat)->Prop
 | [],[]=>True
 | _::ys,none::os=>i7 X scope ys os
 | y::ys,some j::os=>(X.N[j]? =some y/\scope.names.lookup y=some .free/\(X.env.kindOf y=some .cell\/X.env.kindOf y=some .free))/\i7 X scope ys os
 | _,_=>False
noncomputable def jL (σ:St) (ix:List (Option Nat)):St:=ix.map fun o=>match o with | none=>none | some j=>(σ[j]?).getD none
def Wk:St->St->Prop
 | [],[]=>True
 | none::a,_::b=>Wk a b
 | some v::a,w::b=>w=some v/\Wk a b
 | _,_=>False
theorem Wk.len: ∀{a b:St},Wk a b->a.length=b.length
 | [],[],_=>rfl
 | none::a,_::b,h=>congrArg (· +1) (Wk.len (a:=a) (b:=b) h)
 | some _::a,_::b,h=>congrArg (· +1) (Wk.len (a:=a) (b:=b) h.2)
theorem Wk.get: ∀{a b:St} {i:Nat} {v:V},Wk a b->a[i]? =some (some v)->b[i]? =some (some v)
 | [],[],i,v,_,h=>by simp at h
 | none::a,x::b,0,v,_,h=>by simp at h
 | none::a,x::b,i+1,v,k,h=>by
  have:=Wk.get (a:=a) (b:=b) (i:=i) (v:=v) k (by simpa using h)
  simpa using this
 | some y::a,x::b,0,v,k,h=>by
  have e:y=v:=by simpa using h
  subst e
  simp[k.1]
 | some y::a,x::b,i+1,v,k,h=>by
  have:=Wk.get (a:=a) (b:=b) (i:=i) (v:=v) k.2 (by simpa using h)
  simpa using this
theorem i7.len {X:Cx} {scope:Scope}: ∀{N:List Str} {ix:List (Option Nat)},i7 X scope N ix->ix.length=N.length
 | [],[],_=>rfl
 | _::ys,none::os,h=>congrArg (· +1) (i7.len (N:=ys) (ix:=os) h)
 | _::ys,some _::os,h=>congrArg (· +1) (i7.len (N:=ys) (ix:=os) h.2)
theorem i7.get {X:Cx} {scope:Scope}: ∀{N:List Str} {ix:List (Option Nat)} {i j:Nat},i7 X scope N ix->ix[i]? =some (some j)-> ∃y,N[i]? =some y/\X.N[j]? =some y/\scope.names.lookup y=some .free/\(X.env.kindOf y=some .cell\/X.env.kindOf y=some .free)
 | [],[],i,j,_,h=>by simp at h
 | y::ys,none::os,0,j,_,h=>by simp at h
 | y::ys,none::os,i+1,j,k,h=>by
  obtain ⟨z,h1,h2⟩:=i7.get (N:=ys) (ix:=os) (i:=i) (j:=j) k (by simpa using h)
  exact ⟨z,by simpa using h1,h2⟩
 | y::ys,some j'::os,0,j,k,h=>by
  have e:j'=j:=by simpa using h
  subst e
  exact ⟨y,by simp,k.1⟩
 | y::ys,some j'::os,i+1,j,k,h=>by
  obtain ⟨z,h1,h2⟩:=i7.get (N:=ys) (ix:=os) (i:=i) (j:=j) k.2 (by simpa using h)
  exact ⟨z,by simpa using h1,h2⟩
theorem yS {σ:St} {ix:List (Option Nat)} {i:Nat} {v:V} (h:(jL σ ix)[i]? =some (some v)): ∃j,ix[i]? =some (some j)/\σ[j]? =some (some v):=by
 unfold jL at h
 rw[UI]at h
 cases e:ix[i]? with
 | none=>rw[e]at h;cases h
 | some o=>
  rw[e]at h
  cases o with
  | none=>cases h
  | some j=>
   refine ⟨j,rfl,?_⟩
   have h':some ((σ[j]?).getD none)=some (some v):=h
   cases q:σ[j]? with
   | none=>rw[q]at h';cases h'
   | some z=>rw[q]at h';cases h';rfl
theorem vA {X:Cx} {pins:List (Addr×Obj)} {σ:St} {H:Hp} {s:Shared} (I:Inv X pins σ H s) {scope:Scope} {Nc:List Str} {ix:List (Option Nat)} (vB:i7 X scope Nc ix) (gh: ∀y∈scope.names,y.2≠ .cell)
  (gQ:scope.kind= .function) (Du: ∀y∈scope.names,y.2= .free->X.env.kindOf y.1=some .cell\/X.env.kindOf y.1=some .free) {fp:List Addr} (hf: ∀b∈fp,lU X pins H b) (KY: ∀b∈fp, ∃o,s.heap.get? b=some o)
  {C:Addr} {h':Heap} {t':Nat} {m0:Str->Option Value} (hC:s.heap.objs.size<=C) (Mo:h'.Ns C m0) (k: ∀b o,s.heap.get? b=some o->h'.get? b=some o):
  Inv (bH X scope C Nc s H fp) [] (jL σ ix) H { s with heap:=h',toks:=t' }:=by
 have ID: ∀y∈scope.names,y.2= .free-> ∃c,X.env.cells.lookup y.1=some c:=fun y hy e=>I.ok.has y.1 (Du y hy e)
 have jM: ∀{x:Str} {c:Addr},(g5 X.env scope.names []).lookup x=some c->X.env.cells.lookup x=some c:=fun {x c} e=>kF scope.names [] (fun y d q=>by simp at q) e
 refine ⟨⟨I.ok.mod,gQ,I.ok.glob,I.ok.blt,hC,fun x y c h1 h2=>I.ok.inj x y c (jM h1) (jM h2),fun x hx=>?_,fun x c h=>?_,I.ok.hd,I.ok.frames, .inl rfl,fun b hb=>?_,I.bs,UW I.ok.C9 I.sz,fun b o e hb=>?_,fun b hb hs=>?_,I.stack,I.w5⟩,
  rfl,I.bare,Un.kept k,⟨m0,Mo,fun i x v h1 h2 h3=>?_⟩,fun x c e=>?_,I.bR.fresh hC,fun x c e=>I.g8 x c (jM e),fun p hp=>absurd (show p∈([]:List (Addr×Obj)) from hp) (by simp),I.bR.kept k,?_⟩
 ·have E3:scope.names.lookup x=some .free:=jK gh hx
  exact nc scope.names [] ID E3
 ·exact absurd (show false=true from h) (by decide)
 ·refine ⟨?_,fun x c e=>(hf b hb).2.2.2.2.1 x c (jM e)⟩
  obtain ⟨o,ho⟩:=KY b hb
  exact UJ (UN (UD ho) hC)
 ·rcases (hf b hb).2.2.2.1 with z | z
  ·exact I.ok.z8 b o e z
  ·exact absurd (UN (UD e) (UW I.ok.C9 z)) (U_ _)
 ·rcases T3.mp (I.mW b hs) with z | z
  ·exact (hf b hb).2.1 z
  ·exact (hf b hb).2.2.1 z
 ·obtain ⟨j,e1,e2⟩:=yS h2
  obtain ⟨y,y1,y2,y3,y4⟩:=vB.get e1
  have PH:Nc[i]? =some x:=h1
  rw[y1]at PH
  cases PH
  obtain ⟨m,hn,hl⟩:=I.loc
  have hv:J5 X.env.scope x:=by
   rcases y4 with z | z
   ·exact .inr (.inl z)
   ·exact .inr (.inr z)
  obtain ⟨u,r,l⟩:=hl j x v y2 e2 hv
  refine ⟨u,r, .inr ⟨jJ y3,?_⟩⟩
  rcases l with ⟨l,_⟩ | ⟨_,c,hc,q⟩
  ·rcases y4 with z | z
   ·rw[z]at l;cases l
   ·rw[z]at l;cases l
  ·obtain ⟨c',oT⟩:=nc scope.names [] ID y3
   have e:=jM oT
   rw[hc]at e
   cases e
   obtain ⟨o,ho,hd⟩:=q
   exact ⟨c,oT,o,k _ _ ho,hd⟩
 ·obtain ⟨v,o,ho,hd⟩:=I.cell x c (jM e)
  exact ⟨v,o,k _ _ ho,hd⟩
 ·show (jL σ ix).length=Nc.length
  unfold jL
  rw[Py]
  exact vB.len
theorem yT {X:Cx} {pins w9:List (Addr×Obj)} {σ σ':St} {H H':Hp} {s s':Shared} (I:Inv X pins σ H s) {scope:Scope} {Nc:List Str} {fp:List Addr} {C D:Addr} (J:Inv (bH X scope C Nc s H fp) w9 σ' H' s')
  (hf: ∀b∈fp,lU X pins H b) (hD:s.heap.objs.size<=D) (hC:s.heap.objs.size<=C) (GL:D≠C) {aI:List Value} {n:Nat} {acc:List V} (eD:s'.heap.get? D=some { cls:= .type "list",data:= .seq aI.toArray n }) (r:Vals acc aI)
  (hz:acc.length<=sizeLine) (nD:H' D=none) {oC:Obj} (eC:s'.heap.get? C=some oC) (dC: ∀v,oC.data≠ .cell v):Inv X (pins++[(C,oC)]) σ (upd H' D (.lst acc)) s':=by
 have lt: ∀b o,s.heap.get? b=some o->b≠D:=fun b o e=>UJ (UN (UD e) hD)
 have U:Un (w4 X.stack) fp H H' s.heap s'.heap:=J.base
 have U':Un (w4 X.stack) fp H (upd H' D (.lst acc)) s.heap s'.heap:=
  ⟨U.keep,U.slot,fun b o e n hx=>by rw[au (lt b o e)];exact U.free b o e n hx,U.there,fun b xs e=>by rw[au (aq (U.oS b xs e) nD)];exact U.oS b xs e,
   fun b o u e=>by rw[au (aq (U.mV b o u e) nD)];exact U.mV b o u e,fun b ps e=>by
    obtain ⟨more,q⟩:=U.qO b ps e
    exact ⟨more,by rw[au (aq q nD)];exact q⟩⟩
 have bR:jl X.prog X.w (upd H' D (.lst acc)) s'.heap:=fun b u e=>by
  by_cases hb:b=D
  ·subst hb
   rw[ag]at e;cases e
   exact ⟨hz,aI,n,r,eD⟩
  ·rw[au hb]at e
   exact (J.bR b u e).sW (fun c v _ q=>q) (fun c q=>by rw[au (aq q nD)];exact q) fun c xs q=>by rw[au (aq q nD)];exact q
 have I':Inv X pins σ (upd H' D (.lst acc)) s':=I.Kb (ch:=fp) J.os U' bR J.bare fun b hb=>by
  obtain ⟨_,h1,_,h2,h3,h4⟩:=hf b hb
  exact ⟨h2,h1,h3,h4⟩
 refine I'.jG fun p hp=>?_
 rcases UO.mp hp with z | z
 ·exact I'.pin p (UM _ z)
 ·have e:p=(C,oC):=PC.mp z
  subst e
  refine ⟨eC,?_,We (UN I.lt hC),I.FX hC,dC⟩
  rw[au (Ne.symm GL)]
  exact J.free
def PF (Y:Cx) (ifs:List Expr) (tc:TT):Prop:=
 ∀(pins:List (Addr×Obj)) (s:Shared) (σ:St) (H:Hp) (Q:Bool->Hp->Prop),Inv Y pins σ H s->tc σ H Q->
  wpAny (model Y.prog Y.w) Y.A (forIn ifs true fun c r=>if r=true then do let ok <-isTrue c Y.env (eval c Y.env);pure (ForInStep.yield ok) else pure (ForInStep.yield r)) (TP Y pins σ Q) Y.xe s
def KZ:TT:=fun _ H Q=>Q true H
theorem hX {Y:Cx}:PF Y [] KZ:=fun _ _ _ H _ I h=>wpAny_tests_nil ⟨H,I,h⟩
theorem GN {Y:Cx} {c:Expr} {tc:TT} (h:PT Y c tc):PF Y [c] tc:=fun pins s σ H Q I hw=>wpAny_tests_one (h pins s σ H Q I hw)
def pV (J:It) (σc:St) (g:TG) (tc:TT) (te:TE) (Q:VK) (H1:Hp):Prop:=
 ∃W:Nat->Nat->List V->Hp->Prop,(∃m,W 0 m [] H1)/\ ∀i m acc H,W i m acc H->acc.length<sizeLine/\
 ((J.stop i H/\ ∀D,H D=none->Q (.ref D) (upd H D (.lst acc)))\/
  (J.go i H/\ ∀x H',J.Ac i H x H'->g x σc H' fun σ2 H2=>Wk σc σ2/\tc σ2 H2 fun b H3=>if b=true then te σ2 H3 fun v H4=> ∃m',m'<m/\W (i+1) m' (acc++[v]) H4 else ∃m',m'<m/\W (i+1) m' acc H3))
def tF (wi:TI) (ix:List (Option Nat)) (g:TG) (tc:TT) (te:TE):TE:=fun σ H Q=>wi σ H fun J H1=>pV J (jL σ ix) g tc te Q H1
theorem pW {X:Cx} {tg iter elt:Expr} {ifs:List Expr} {scope:Scope} {pos:Pos} {wi:TI} {g:TG} {tc:TT} {te:TE} {Nc:List Str} {ix:List (Option Nat)} (hi:PI X tg iter wi) (jb:X.calm=true) (vB:i7 X scope Nc ix)
  (gh: ∀y∈scope.names,y.2≠ .cell) (gQ:scope.kind= .function) (Du: ∀y∈scope.names,y.2= .free->X.env.kindOf y.1=some .cell\/X.env.kindOf y.1=some .free)
  (hG: ∀C s H fp,PG (bH X scope C Nc s H fp) tg g) (hT: ∀C s H fp,PF (bH X scope C Nc s H fp) ifs tc) (hE: ∀C s H fp,PE (bH X scope C Nc s H fp) elt te)
  {pins:List (Addr×Obj)} {s:Shared} {σ:St} {H:Hp} {Q:VK} (I:Inv X pins σ H s) (h:tF wi ix g tc te σ H Q) {RR:Value->Addr->Result->Shared->Prop}
  (Rq: ∀(D C:Addr) (oC:Obj) (m:Str->Option Value) (H':Hp) (s':Shared),s'.heap.get? C=some oC->s'.heap.Ns C m->lU X pins H' C->Inv X (pins++[(C,oC)]) σ H' s'->Q (.ref D) H'->RR (.ref D) C (.ok .next) s'):
  wpAny (model X.prog X.w) X.A (eval iter X.env) (fun v s1=>wpAny (model X.prog X.w) X.A (pyIter v) (fun it s2=>wpAny (model X.prog X.w) X.A (newList []) (fun acc s3=>
   wpAny (model X.prog X.w) X.A (newFunctionEnv scope X.env.globals (g5 X.env scope.names []) [] X.env.qual none .none (some X.env)) (fun K0 s4=>
    codeAny (model X.prog X.w) X.A (.compStart (.ListComp elt [⟨tg,iter,ifs,0⟩] scope pos) 0 it acc { K0 with scope:=relabel scope X.env }) (RR acc K0.locals) s4) X.xe s3) X.xe s2) X.xe s1) X.xe s:=by
 refine bZ (hi pins s σ H _ I h) fun v s1 h1=>bZ h1 fun NA s2 h2=>?_
 obtain ⟨it,fp,tn,J,H2,e,I2,T,uU,f2,W,⟨m0,w0⟩,turn⟩:=h2
 subst e
 refine wpAny_newObj_type (wpAny_newFunctionEnv gh (by intro y hy;simp at hy) (fun h₁ GO Dv=>?_) gQ)
 dsimp only at GO Dv ⊢
 generalize Fd:s2.heap.push { cls:= .type "list",dict:=none,data:= .seq ([]:List Value).toArray }=P2 at GO Dv ⊢
 have hC:P2.objs.size=s2.heap.objs.size+1:=by rw[<-Fd,Ws]
 have GL:s2.heap.objs.size≠P2.objs.size:=by rw[hC];exact UJ (VH _)
 have GP:s2.heap.objs.size<=P2.objs.size:=by rw[hC];exact VR _
 have FZ: ∀b,b<s2.heap.objs.size->b≠P2.objs.size:=fun b hb=>by rw[hC];exact UJ (V0 hb)
 have old: ∀b o,s2.heap.get? b=some o->h₁.get? b=some o:=fun b o e=>Dv.extBut b o (FZ b (UD e)) (Pz _ (Fd▸Pz _ e))
 have vC:h₁.get? s2.heap.objs.size=some { cls:= .type "list",data:= .seq ([]:List Value).toArray }:=Dv.extBut _ _ GL (Pz _ (Fd▸UG _ rfl))
 have PJ:tn 0 h₁:=T.keep 0 _ _ uU fun b _ o e=>old b o e
 have KY: ∀b∈fp, ∃o,s2.heap.get? b=some o:=fun b hb=>let ⟨o,e,_⟩:=T.obj 0 _ uU b hb;⟨o,e⟩
 have PK: ∀b∈fp,s2.heap.objs.size≠b:=fun b hb=>let ⟨o,e⟩:=KY b hb;We (UD e)
 have IY:=vA I2 vB gh gQ Du f2 KY (t':=s2.toks+([]:List (Str×Value)).length) GP GO old
 have N0: ∀b,s2.heap.objs.size<=b->b∉w4 X.stack:=fun b hb hs=>by
  rcases T3.mp (I2.mW b hs) with z | z
  ·exact absurd (UN I2.lt hb) (by rw[z];exact U_ _)
  ·exact I2.FX hb z
 have jM: ∀{x:Str} {c:Addr},(g5 X.env scope.names []).lookup x=some c->X.env.cells.lookup x=some c:=fun {x c} e=>kF scope.names [] (fun y d q=>by simp at q) e
 have K1: ∀x c,(g5 X.env scope.names []).lookup x=some c->c≠s2.heap.objs.size:=fun x c e z=>by
  obtain ⟨v,q⟩:=I2.cell x c (jM e)
  exact absurd (q.lt) (by rw[z];exact U_ _)
 have fY: ∀{pl:List (Addr×Obj)} {H':Hp},(∀p∈pl,p.1=s2.heap.objs.size)->(∀b∈fp,H' b=none)-> ∀b∈fp,lU (bH X scope P2.objs.size Nc s2 H2 fp) pl H' b:=fun {pl H'} iP hn b hb=>by
  refine ⟨hn b hb,?_,?_, .inl hb,fun x c e=>(f2 b hb).2.2.2.2.1 x c (jM e),fun p hp=>?_⟩
  ·obtain ⟨o,e⟩:=KY b hb
   exact FZ b (UD e)
  ·intro hs
   rcases T3.mp (I2.mW b hs) with z | z
   ·exact (f2 b hb).2.1 z
   ·exact (f2 b hb).2.2.1 z
  ·rw[iP p hp]
   exact PK b hb
 have loop: ∀s₃:Shared,s₃={ s2 with heap:=h₁,toks:=s2.toks+([]:List (Str×Value)).length }->
   codeAny (model X.prog X.w) X.A (.compLoop (.ListComp elt [⟨tg,iter,ifs,0⟩] scope pos) 0 (.ref it) (.ref s2.heap.objs.size) (compEnvC scope (g5 X.env scope.names []) P2.objs.size X.env)) (RR (.ref s2.heap.objs.size) P2.objs.size) s₃:=by
  rintro s₃ rfl
  refine q5 (fun n s'=> ∃i acc aI nn H',Inv (bH X scope P2.objs.size Nc s2 H2 fp) [] (jL σ ix) H' s'/\tn i s'.heap/\(∀b∈fp,H' b=none)/\
   s'.heap.get? s2.heap.objs.size=some { cls:= .type "list",data:= .seq (aI:List Value).toArray nn }/\Vals acc aI/\H' s2.heap.objs.size=none/\W i n acc H') ?_ m0
   ⟨0,[],[],0,H2,IY,PJ,fun b hb=>(f2 b hb).1,vC, .nil,I2.bR.fresh (Mq _),w0⟩
  rintro n s3 ⟨i,acc,aI,nn,H3,I3,Ko,Kp,eD,rv,nD,w3⟩
  obtain ⟨hz,alt⟩:=turn i n acc H3 w3
  have IP:Inv (bH X scope P2.objs.size Nc s2 H2 fp) [(s2.heap.objs.size,{ cls:= .type "list",data:= .seq aI.toArray nn })] (jL σ ix) H3 s3:=I3.jG fun p hp=>by
   have e:p=(s2.heap.objs.size,_):=PC.mp hp
   subst e
   refine ⟨eD,nD,GL,N0 _ (Mq _),fun v z=>?_⟩
   have z':Data.seq aI.toArray nn=Data.cell v:=z
   cases z'
  have iP: ∀p∈[(s2.heap.objs.size,({ cls:= .type "list",data:= .seq aI.toArray nn }:Obj))],p.1=s2.heap.objs.size:=fun p hp=>by
   have e:p=(s2.heap.objs.size,_):=PC.mp hp
   rw[e]
  rcases alt with ⟨stop,fin⟩ | ⟨go,step⟩
  ·refine bZ (T.done (bH X scope P2.objs.size Nc s2 H2 fp) rfl rfl rfl jb i _ s3 _ H3 CV IP (fY iP Kp) Ko stop) fun r s4 zz=>?_
   obtain ⟨hr,I4⟩:=zz
   subst hr
   obtain ⟨m,hn,_⟩:=id I4.loc
   obtain ⟨oC,es,ep,eC,dC,_⟩:=id hn
   have Rr:=(I4.pin (s2.heap.objs.size,_) (UM _ (PC.mpr rfl))).1
   have N1:=fin _ nD
   refine Rq _ _ oC m _ s4 eC hn ?_ (yT I2 I4 f2 (Mq _) GP GL Rr rv (U0 hz) nD eC fun v z=>?_) N1
   ·refine I2.oV GP ?_
    rw[au (Ne.symm GL)]
    exact I4.free
   ·rw[dC]at z;cases z
  ·refine bZ (T.item (bH X scope P2.objs.size Nc s2 H2 fp) rfl rfl rfl jb i _ s3 _ H3 CV IP (fY iP Kp) Ko go) fun r s4 zz=>?_
   obtain ⟨u,hr,h4⟩:=zz
   subst hr
   refine bZ h4 fun _ s5 zz=>?_
   obtain ⟨x,H5,I5,r5,y5,Gm,ND⟩:=zz
   have NF:=I5.pinned (fY iP ND) (T.obj _ _ Gm)
   refine bZ (hG _ s2 H2 fp _ s5 _ H5 x u _ NF r5 (step x H5 y5)) fun _ s6 zz=>?_
   obtain ⟨σ6,H6,I6,wk,q6⟩:=zz
   refine bZ (hT _ s2 H2 fp _ s6 σ6 H6 _ I6 q6) fun b s7 zz=>?_
   obtain ⟨H7,I7,q7⟩:=zz
   have again: ∀{H9:Hp} {s9:Shared} {m':Nat},Inv (bH X scope P2.objs.size Nc s2 H2 fp) ([(s2.heap.objs.size,({ cls:= .type "list",data:= .seq aI.toArray nn }:Obj))]++mX fp s5.heap) σ6 H9 s9->
     (s9.heap.get? s2.heap.objs.size=some { cls:= .type "list",data:= .seq aI.toArray nn }/\H9 s2.heap.objs.size=none)/\tn (i+1) s9.heap/\(∀b∈fp,H9 b=none)/\Inv (bH X scope P2.objs.size Nc s2 H2 fp) [] (jL σ ix) H9 s9:=fun {H9 s9 m'} I9=>by
    have pD:=I9.pin (s2.heap.objs.size,_) (UM _ (V3 _ (PC.mpr rfl)))
    refine ⟨⟨pD.1,pD.2.1⟩,T.keep _ _ _ Gm fun b hb o e=>(I9.pin (b,o) (UM _ (UM _ (gA hb e)))).1,fun b hb=>?_,?_⟩
    ·obtain ⟨o,e,d⟩:=T.obj _ _ Gm b hb
     exact (I9.pin (b,o) (UM _ (UM _ (gA hb e)))).2.1
    ·exact (I9.weak wk.len fun i v e=>wk.get e).jG fun p hp=>absurd hp (by simp)
   cases b with
   | false=>
    rw[if_neg UH]at q7 ⊢
    obtain ⟨m',hm,w7⟩:=q7
    obtain ⟨⟨e7,n7⟩,t7,f7,J7⟩:=again (m':=0) I7
    exact ⟨m',hm,i+1,acc,aI,nn,H7,J7,t7,f7,e7,rv,n7,w7⟩
   | true=>
    rw[if_pos rfl]at q7 ⊢
    refine bZ (hE _ s2 H2 fp _ s7 σ6 H7 _ I7 q7) fun y s8 zz=>?_
    obtain ⟨v,H8,I8,r8,m',hm,w8⟩:=zz
    obtain ⟨⟨e8,n8⟩,t8,f8,J8⟩:=again (m':=0) I8
    refine wpAny_list_append_plain (items:=aI.toArray) ⟨nn,e8⟩ (fun h9 Rt PL=>?_) (by rw[Rl, <-rv.length];exact U0 hz)
    obtain ⟨n9,e9⟩:=Rt
    refine ⟨m',hm,i+1,acc++[v],aI++[y],n9,H8,J8.turned (t':=s8.toks) (fun b o hb e=>(PL.2 b hb).trans e) n8 GL (.inr (Mq _)) K1 (fun p hp=>absurd hp (by simp[bH])),?_,f8,?_,rv.append (.cons r8 .nil),n8,w8⟩
    ·exact T.keep _ _ _ t8 fun b hb o e=>(PL.2 b (Ne.symm (PK b hb))).trans e
    ·simpa using e9
 exact codeAny_compStart_list (loop _ rfl) (T.self _ 0 _ _ _ PJ (loop _ rfl))
theorem Dw {X:Cx} {tg iter elt:Expr} {ifs:List Expr} {scope:Scope} {pos:Pos} {wi:TI} {g:TG} {tc:TT} {te:TE} (Nc:List Str) (ix:List (Option Nat)) (hi:PI X tg iter wi) (jb:X.calm=true) (vB:i7 X scope Nc ix)
  (gh: ∀y∈scope.names,y.2≠ .cell) (gQ:scope.kind= .function) (Du: ∀y∈scope.names,y.2= .free->X.env.kindOf y.1=some .cell\/X.env.kindOf y.1=some .free)
  (vD: ∀x∈scope.names,x.2= .local->scope.names.lookup x.1=some .local)
  (hG: ∀C s H fp,PG (bH X scope C Nc s H fp) tg g) (hT: ∀C s H fp,PF (bH X scope C Nc s H fp) ifs tc) (hE: ∀C s H fp,PE (bH X scope C Nc s H fp) elt te)
  (hs: ∀x,foldedSetIterable iter X.env x=pure x:=by intro _;rfl):PE X (.ListComp elt [⟨tg,iter,ifs,0⟩] scope pos) (tF wi ix g tc te):=by
 intro pins s σ H Q I h
 rw[eval_ListComp]
 have ID: ∀y∈scope.names,y.2= .free-> ∃c,X.env.cells.lookup y.1=some c:=fun y hy e=>I.ok.has y.1 (Du y hy e)
 refine wpAny_comprehension_free (use:=none) rfl hs (ja ID) gQ vD (pW hi jb vB gh gQ Du hG hT hE I h (RR:=fun acc C=>compPost (model X.prog X.w) X.A X.xe none (EP X pins σ Q) acc C) ?_)
 intro D C oC m H' s' eC hn fC I' q
 refine ⟨m,hn,fun h' K2=>⟨.ref D,H',?_,rfl,q⟩⟩
 exact I'.hU.turned (t':=s'.toks) (fun b o hb e=>(K2.2 b hb).trans e) fC.1 fC.2.1 fC.2.2.2.1 fC.2.2.2.2.1 fC.2.2.2.2.2
theorem Dx {X:Cx} {i:Nat} {x:Str} {tg iter elt:Expr} {ifs:List Expr} {scope:Scope} {pos Ar pos':Pos} {wi:TI} {g:TG} {tc:TT} {te:TE} (Nc:List Str) (ix:List (Option Nat)) (hN:X.N.Nodup) (K3:X.N[i]? =some x) (hx:Loc X.env.scope x)
  (K4:swapsWith (.ListComp elt [⟨tg,iter,ifs,0⟩] scope pos) (some (.Name x pos')) Ar.line X.env=pure true) (hi:PI X tg iter wi) (jb:X.calm=true) (vB:i7 X scope Nc ix)
  (gh: ∀y∈scope.names,y.2≠ .cell) (gQ:scope.kind= .function) (Du: ∀y∈scope.names,y.2= .free->X.env.kindOf y.1=some .cell\/X.env.kindOf y.1=some .free)
  (vD: ∀x∈scope.names,x.2= .local->scope.names.lookup x.1=some .local)
  (hG: ∀C s H fp,PG (bH X scope C Nc s H fp) tg g) (hT: ∀C s H fp,PF (bH X scope C Nc s H fp) ifs tc) (hE: ∀C s H fp,PE (bH X scope C Nc s H fp) elt te)
  (hs: ∀x,foldedSetIterable iter X.env x=pure x:=by intro _;rfl) (hf:X.fn x=true\/X.env.scope.names.lookup x=some .local:=by first | exact .inl rfl | exact .inr rfl | assumption):
  PS X (.Assign [.Name x pos'] (.ListComp elt [⟨tg,iter,ifs,0⟩] scope pos) Ar) (De (tF wi ix g tc te) (s_ i)):=by
 intro pins s σ H E I h
 have ID: ∀y∈scope.names,y.2= .free-> ∃c,X.env.cells.lookup y.1=some c:=fun y hy e=>I.ok.has y.1 (Du y hy e)
 rw[exec_Assign_Name_used _ _ _ _ K4]
 refine wpAny_bind (wpAny_standAt (wpAny_bind ?_))
 show wpAny _ X.A (do let _ <-comprehension (.ListComp elt [⟨tg,iter,ifs,0⟩] scope pos) scope X.env _ (newList []) false (eval iter X.env) (some (assign (.Name x pos') X.env))) _ _ s
 refine wpAny_bind (wpAny_mono (wpAny_comprehension_free (use:=some (assign (.Name x pos') X.env)) (Q:=fun _ s'=>SP X pins E .next s') rfl hs (ja ID) gQ vD
  (pW hi jb vB gh gQ Du hG hT hE I h (RR:=fun acc C=>compPost (model X.prog X.w) X.A X.xe (some (assign (.Name x pos') X.env)) (fun _ s'=>SP X pins E .next s') acc C) ?_)) (fun _ s' hq=>wpAny_pure (wpAny_pure hq)) fun _ _ e=>e)
 intro D C oC m H' s' eC hn fC I' q
 show wpAny _ X.A (assign (.Name x pos') X.env (.ref D)) _ _ _
 refine wpAny_assign_Name (gg I' hN K3 hx (show RelV (.ref D) _ from rfl) (fun KC PM=>?_) hf)
 have pC:=PM.pin (C,oC) (UM _ (UM _ (PC.mpr rfl)))
 refine ⟨m,?_,fun h' K2=>?_⟩
 ·obtain ⟨o,es,ep,e,r⟩:=hn
  rw[eC]at e;cases e
  exact ⟨oC,es,ep,pC.1,r⟩
 ·refine ⟨_,H',PM.hU.turned (t':=KC.toks) (fun b o hb e=>(K2.2 b hb).trans e) fC.1 fC.2.1 fC.2.2.2.1 fC.2.2.2.2.1 fC.2.2.2.2.2,q⟩
noncomputable def S (l:List Nat):Str:=⟨l.toArray⟩
theorem dP (l:List Nat):(S l).cps.toList=l:=by simp[S]
theorem cP (l:List Nat):(S l).length=l.length:=by simp[S,Str.length]
theorem kG (l:List Nat):(S l).cps.size=l.length:=by simp[S]
theorem K5 {a b:List Nat} (h:S a=S b):a=b:=by
 have:=congrArg (fun x:Str=>x.cps.toList) h
 simpa [S]using this
theorem K6 (x:Str):x=S x.cps.toList:=by cases x;simp[S]
theorem K7 (a b:List Nat):S a++S b=S (a++b):=by
 apply Str.ext'
 apply WQ.mp
 simp[S,Str.cps_append]
theorem Fe {a b:List Nat}:decide (V.str (S a)=V.str (S b))=decide (a=b):=by
 by_cases h:a=b
 ·subst h;simp
 ·rw[decide_eq_false h,decide_eq_false]
  intro q
  exact h (K5 (V.str.inj q))
noncomputable def cut {α:Type} (xs:List α) (lo hi:Option Int):List α:=(xs.drop (HT.g6 xs.length 0 lo)).take (HT.g6 xs.length xs.length hi - HT.g6 xs.length 0 lo)
theorem tG (n d:Nat) (v:Int):max 0 (min (if v<0 then v+(n:Int) else v) (n:Int))=((HT.g6 n d (some v):Nat):Int):=by
 show _=(((if v<0 then (v+(n:Int)).toNat else min v.toNat n):Nat):Int)
 by_cases hv:v<0
 ·simp only[if_pos hv];omega
 ·simp only[if_neg hv];omega
theorem lK (lo hi:Option Int) (n:Nat):Builtin.Str.strSliceIndices lo hi 1 n=(List.range (HT.g6 n n hi - HT.g6 n 0 lo)).map (HT.g6 n 0 lo+ ·):=by
 have h1:(1:Int)>0:=by decide
 rw[<-sliceRange_one]
 unfold Builtin.Str.strSliceIndices
 simp only[h1,if_true]
 congr 1
 ·cases lo with
  | none=>rfl
  | some v=>exact tG n 0 v
 ·cases hi with
  | none=>rfl
  | some v=>exact tG n n v
theorem Dy (l:List Nat) (lo hi:Option Int):Txt.slice (S l) lo hi=S (cut l lo hi):=by
 have hx:((Builtin.Str.strSliceIndices lo hi 1 (S l).length).filterMap ((S l).cps[·]?))=cut l lo hi:=by
  rw[cP,lK,pick_run,dP]
  rfl
 have hlen:(Builtin.Str.strSliceIndices lo hi 1 (S l).length).length=HT.g6 l.length l.length hi - HT.g6 l.length 0 lo:=by
  rw[cP,lK,Py,WG]
 unfold Txt.slice
 by_cases hc:((1:Int)==1&&(Builtin.Str.strSliceIndices lo hi 1 (S l).length).length==(S l).length)=true
 ·rw[if_pos hc]
  rw[hlen,cP]at hc
  have e:HT.g6 l.length l.length hi - HT.g6 l.length 0 lo=l.length:=by simpa using hc
  have h2:=HT.Gu l.length l.length (Mq _) hi
  have e0:HT.g6 l.length 0 lo=0\/l.length=0:=by omega
  unfold cut
  rw[e]
  rcases e0 with z | z
  ·rw[z];simp
  ·have:l=[]:=Wq z
   subst this
   simp
 ·rw[if_neg hc]
  rw[hx]
  rfl
section
variable {X:Cx}
theorem lW {x:Str} {j pos} (l:List Nat) (h:x=S l):PE X (.Constant (.str x) j pos) (tC (.str (S l))):=by
 subst h
 exact Gb
def K8:R2:=fun x y H Q=> ∃a b,x= .str (S a)/\y= .str (S b)/\a.length+b.length<=sizeLine/\Q (.str (S (a++b))) H
theorem gB:i6 X (binaryOp .Add) K8:=by
 intro pins s σ H x y v u Q I rx ry h
 obtain ⟨a,b,rfl,rfl,hz,q⟩:=h
 exact vd pins s σ H _ _ v u Q I rx ry ⟨S a,S b,rfl,rfl,by rw[cP,cP];exact hz,by rw[K7];exact q⟩
def K9:R2:=fun x y H Q=> ∃l i c,x= .str (S l)/\y= .int i/\l.length<=sizeLine/\pR l i=some c/\Q (.str (S [c])) H
theorem jn:Gv X K9:=by
 intro value slice pins s σ H x y v u Q I rx ry h hs
 obtain ⟨l,i,c,rfl,rfl,hz,he,q⟩:=h
 exact Gx value slice pins s σ H _ _ v u Q I rx ry ⟨S l,i,c,rfl,rfl,by rw[cP];exact hz,by rw[dP];exact he,q⟩ hs
def N2:V->Option Int->Option Int->Hp->VK->Prop:=fun x lo hi H Q=> ∃l,x= .str (S l)/\l.length<=sizeLine/\Q (.str (S (cut l lo hi))) H
theorem jN:Mn X N2:=by
 intro pins s σ H x v vl vu lo hi sl Q I rx hs pl pu h
 obtain ⟨l,rfl,hz,q⟩:=h
 obtain ⟨t,rfl⟩:=rx
 refine ⟨"str",_,F.slot_str_getitem.lookup,typeIs_str _ _ _,?_⟩
 have key: ∀(a b:Option (Int×Tok)),vl=partValue a->vu=partValue b->a.map (·.1)=lo->b.map (·.1)=hi->wpAny (model X.prog X.w) X.A (getItem (.str (S l) t) (.ref sl)) (EP X pins σ Q) X.xe s:=by
  rintro a b rfl rfl rfl rfl
  obtain ⟨o,e,c,d⟩:=hs
  refine wpAny_getItem_str_slice (l:=a) (u:=b) (st:=none) ⟨o,e,c,d⟩ rfl (post_val_or_str ⟨?_,fun t' k=>?_⟩)
  ·exact UW (Txt.slice_le (S l) _ _) (by rw[cP];exact hz)
  ·exact ⟨.str (S (cut l _ _)),H,I.tok _,⟨t',congrArg (fun z=>Value.str z t') (Dy l _ _)⟩,q⟩
 cases pl with
 | none=>
  cases pu with
  | none=>exact key none none rfl rfl rfl rfl
  | int i ti=>exact key none (some (i,ti)) rfl rfl rfl rfl
 | int i ti=>
  cases pu with
  | none=>exact key (some (i,ti)) none rfl rfl rfl rfl
  | int j tj=>exact key (some (i,ti)) (some (j,tj)) rfl rfl rfl rfl
theorem aF:dH X (.builtin "len") (fun xs H Q=> ∃l,xs=[.str (S l)]/\l.length<=sizeLine/\Q (.int l.length) H):=by
 intro pins s σ H xs us Q I r h
 obtain ⟨l,rfl,hz,q⟩:=h
 exact qY pins s σ H _ us Q I r ⟨S l,rfl,by rw[cP];exact hz,by rw[cP];exact q⟩
noncomputable def dj (l:List Nat):List V:=l.map fun c=>V.str (S [c])
theorem vE {l:List Nat}: ∀{acc:List Value},acc.length=l.length->(∀j v,acc[j]? =some v->SignAt (S l) j v)->Vals (dj l) acc:=by
 induction l with
 | nil=>intro acc h _;have:acc=[]:=Wq h;subst this;exact .nil
 | cons c l ih=>
  intro acc h k
  cases acc with
  | nil=>cases h
  | cons a acc=>
   refine .cons ?_ (ih (by simpa using h) fun j v e=>?_)
   ·obtain ⟨c',u,e1,e2⟩:=k 0 a rfl
    have:c=c':=by simpa [S]using e1
    subst this
    exact ⟨u,e2⟩
   ·obtain ⟨c',u,e1,e2⟩:=k (j+1) v (by simpa using e)
    exact ⟨c',u,by simpa [S]using e1,e2⟩
theorem vF (hc:X.calm=true):dH X (.type "list") (fun xs H Q=> ∃l,xs=[.str (S l)]/\l.length<=sizeLine/\ ∀p,H p=none->Q (.ref p) (upd H p (.lst (dj l)))):=by
 intro pins s σ H xs us Q I r h
 obtain ⟨l,rfl,hz,q⟩:=h
 obtain ⟨u,rfl,t,rfl⟩:=vals1 r
 refine call_list_str (I.ok.hd hc) (S l) t (fun h' tk dQ c' hk e vC=>?_) (by rw[kG];exact hz)
 obtain ⟨h1,h2⟩:=vC
 rw[kG]at h1
 refine ⟨.ref s.heap.objs.size,_,I.laid (t':=tk) (o:= .lst (dj l)) hk (Mq _) ?_,rfl,q _ I.fresh⟩
 exact ⟨by unfold dj;rw[Py];exact hz,dQ.toList,c',vE (by simpa using h1) (fun j v e=>h2 j v (by simpa using e)),by simpa using e⟩
def N3:R2:=fun x y H Q=> ∃c l,x= .str (S [c])/\y= .str (S l)/\Q (.bl (decide (c∈l))) H
theorem GQ:i6 X (compareOp .In) N3:=by
 intro pins s σ H x y v u Q I rx ry h
 obtain ⟨c,l,rfl,rfl,q⟩:=h
 refine yE pins s σ H _ _ v u Q I rx ry ⟨S [c],S l,rfl,rfl,?_⟩
 have e:=StrLaws.found_one (S l) c
 rw[dP]at e
 rw[show (S [c])=(⟨#[c]⟩:Str) from rfl,e]
 exact q
end
theorem pX (s sub:Str) (hi:Nat): ∀(l:List Nat) (st:Array Nat×Nat),1<=st.fst.size->(forIn l st (StrLaws.occBody s sub hi 1)).run.fst=st.fst
 | [],st,h=>rfl
 | a::l,st,h=>by
  rw[Wu]
  unfold StrLaws.occBody
  rw[if_neg (fun z=>absurd z.1.1.1 (Nat.not_lt.mpr h))]
  exact pX s sub hi l _ h
theorem occ_first (s sub:Str) (hi:Nat): ∀(l:List Nat) (free:Nat),(∀i∈l,free<=i)->
  (forIn l ((#[]:Array Nat),free) (StrLaws.occBody s sub hi 1)).run.fst.toList=(l.find? fun i=>decide (i+sub.length<=hi)&&Builtin.Str.subAt s sub i).toList
 | [],free,_=>rfl
 | a::l,free,hf=>by
  rw[Wu,VM]
  unfold StrLaws.occBody
  have ha:free<=a:=hf a UA
  by_cases hc:a+sub.length<=hi/\Builtin.Str.subAt s sub a=true
  ·rw[if_pos ⟨⟨⟨by simp,ha⟩,hc.1⟩,hc.2⟩]
   have:(decide (a+sub.length<=hi)&&Builtin.Str.subAt s sub a)=true:=by simp[hc]
   rw[this]
   show (forIn l (#[].push a,a+sub.length) (StrLaws.occBody s sub hi 1)).run.fst.toList=_
   rw[pX s sub hi l _ (by simp)]
   rfl
  ·rw[if_neg (fun z=>hc ⟨z.1.2,z.2⟩)]
   have:(decide (a+sub.length<=hi)&&Builtin.Str.subAt s sub a)=false:=by
    cases h1:decide (a+sub.length<=hi) with
    | false=>rfl
    | true=>
     cases h2:Builtin.Str.subAt s sub a with
     | false=>rfl
     | true=>exact absurd ⟨of_decide_eq_true h1,h2⟩ hc
   rw[this]
   exact occ_first s sub hi l free fun i lX=>hf i (T5 _ lX)
theorem subAt_one (l:List Nat) (c i:Nat):Builtin.Str.subAt (S l) (S [c]) i=(l[i]? ==some c):=by
 unfold Builtin.Str.subAt
 rw[cP]
 show ((S l).cps.extract i (i+1)== #[c])=_
 have e:((S l).cps.extract i (i+1))=((l.drop i).take 1).toArray:=by
  apply WQ.mp
  simp[S,List.take_drop]
 rw[e]
 by_cases h:i<l.length
 ·have e2:(l.drop i).take 1=[l[i]]:=by
   rw[Vf h];rfl
  rw[e2,GJ h]
  by_cases hc:l[i]=c
  ·rw[hc];simp
  ·have h1:([l[i]].toArray== #[c])=false:=by
    rw[beq_eq_false_iff_ne]
    intro z
    apply hc
    have:=congrArg Array.toList z
    simpa using this
   have h2:(some l[i]==some c)=false:=by simpa using hc
   rw[h1,h2]
 ·have e2:(l.drop i).take 1=[]:=by rw[Wh (by omega)];rfl
  rw[e2,VL (by omega)]
  rfl
theorem nh (l:List Nat) (c:Nat): ∀(k n:Nat),k+n=l.length+1->((List.range' k n).find? fun i=>decide (i+1<=l.length)&&(l[i]? ==some c))=if c∈l.drop k then some (k+(l.drop k).idxOf c) else none
 | k,0,h=>by
  have:l.drop k=[]:=Wh (by omega)
  rw[this];simp
 | k,n+1,h=>by
  rw[List.range'_succ,VM]
  by_cases hk:k<l.length
  ·have e:l.drop k=l[k]::l.drop (k+1):=Vf hk
   rw[GJ hk,e]
   by_cases hc:l[k]=c
   ·have:(decide (k+1<=l.length)&&(some l[k]==some c))=true:=by simp[hc];omega
    rw[this,if_pos (by simp[hc])]
    simp[hc]
   ·have:(decide (k+1<=l.length)&&(some l[k]==some c))=false:=by simp[hc]
    rw[this,nh l c (k+1) n (by omega)]
    have oT: ¬c=l[k]:=fun z=>hc z.symm
    by_cases hm:c∈l.drop (k+1)
    ·rw[if_pos hm,if_pos (T5 _ hm),List.idxOf_cons]
     have:(l[k]==c)=false:=by simpa using hc
     rw[this]
     show some (k+1+List.idxOf c (List.drop (k+1) l))=some (k+(List.idxOf c (List.drop (k+1) l)+1))
     congr 1
     omega
    ·rw[if_neg hm,if_neg (by intro z;rcases T3.mp z with z | z;exact oT z;exact hm z)]
  ·have:l.drop k=[]:=Wh (by omega)
   have e1:(decide (k+1<=l.length)&&(l[k]? ==some c))=false:=by
    rw[decide_eq_false (by omega)];rfl
   have e2:l.drop (k+1)=[]:=Wh (by omega)
   rw[e1,nh l c (k+1) n (by omega),this,e2]
   simp
theorem Ff (l:List Nat) (c:Nat):Builtin.Str.occurrences (S l) (S [c]) 0 (S l).length 1=if c∈l then [l.idxOf c] else []:=by
 rw[StrLaws.occ_eq,occ_first _ _ _ _ 0 fun _ _=>T6 _]
 have e:(fun i=>decide (i+(S [c]).length<=(S l).length)&&Builtin.Str.subAt (S l) (S [c]) i)=fun i=>decide (i+1<=l.length)&&(l[i]? ==some c):=by
  funext i
  rw[subAt_one,cP,cP]
  rfl
 rw[e,cP,Nat.sub_zero,nh l c 0 (l.length+1) (by omega),List.drop_zero]
 by_cases h:c∈l
 ·rw[if_pos h,if_pos h,WW];rfl
 ·rw[if_neg h,if_neg h];rfl
section
variable {X:Cx}
def Dz:V->List V->Hp->VK->Prop:=fun x vs H Q=> ∃l c,x= .str (S l)/\vs=[.str (S [c])]/\c∈l/\Q (.int (l.idxOf c:Nat)) H
theorem kH:yN X "str.index" Dz:=by
 intro pins s σ H x xs v us Q I rx rv h
 obtain ⟨l,c,rfl,rfl,hc,q⟩:=h
 obtain ⟨t,rfl⟩:=rx
 obtain ⟨u,rfl,t',rfl⟩:=vals1 rv
 exact SC.index (i:=l.idxOf c) (rest:=[]) (by rw[Ff,if_pos hc]) ⟨.int (l.idxOf c:Nat),H,I.tok _,⟨_,rfl⟩,q⟩
def GR:V->List V->Hp->VK->Prop:=fun x vs H Q=> ∃l c,x= .str (S l)/\vs=[.str (S [c])]/\Q (.int (if c∈l then (l.idxOf c:Nat) else -1)) H
theorem tH:yN X "str.find" GR:=by
 intro pins s σ H x xs v us Q I rx rv h
 obtain ⟨l,c,rfl,rfl,q⟩:=h
 obtain ⟨t,rfl⟩:=rx
 obtain ⟨u,rfl,t',rfl⟩:=vals1 rv
 refine SC.find ⟨.int _,H,I.tok _,⟨_,rfl⟩,?_⟩
 have e:Txt.find (S l) (S [c])=(if c∈l then ((l.idxOf c:Nat):Int) else -1):=by
  unfold Txt.find
  rw[Ff]
  by_cases h:c∈l
  ·rw[if_pos h,if_pos h]
  ·rw[if_neg h,if_neg h]
 rw[e]
 exact q
def Fg (f:Nat->Bool):V->List V->Hp->VK->Prop:=fun x vs H Q=> ∃c,x= .str (S [c])/\vs=[]/\c<128/\Q (.bl (f c)) H
def K_ (f:Nat->Nat):V->List V->Hp->VK->Prop:=fun x vs H Q=> ∃c,x= .str (S [c])/\vs=[]/\c<128/\Q (.str (S [f c])) H
noncomputable def az (c:Nat):Bool:=decide (97<=c)&&decide (c<=122)
noncomputable def isUp (c:Nat):Bool:=decide (65<=c)&&decide (c<=90)
theorem DA: ∀c,c<128->Txt.islower ⟨#[c]⟩=az c:=by decide+kernel
theorem GS: ∀c,c<128->Txt.isupper ⟨#[c]⟩=isUp c:=by decide+kernel
theorem jo:yN X "str.islower" (Fg az):=by
 intro pins s σ H x xs v us Q I rx rv h
 obtain ⟨c,rfl,rfl,hc,q⟩:=h
 obtain ⟨t,rfl⟩:=rx
 have e:us=[]:=by cases rv;rfl
 subst e
 exact SC.islower ⟨.bl (az c),H,I,congrArg Value.bool (DA c hc),q⟩
theorem vG:yN X "str.isupper" (Fg isUp):=by
 intro pins s σ H x xs v us Q I rx rv h
 obtain ⟨c,rfl,rfl,hc,q⟩:=h
 obtain ⟨t,rfl⟩:=rx
 have e:us=[]:=by cases rv;rfl
 subst e
 exact SC.isupper ⟨.bl (isUp c),H,I,congrArg Value.bool (GS c hc),q⟩
theorem upper_one {c:Nat} (hc:c<128):Txt.upper (S [c])=S [up1 c]:=by
 rw[upper_ascii (by intro d hd;rw[dP]at hd;simp at hd;omega)]
 simp[S]
theorem pY {c:Nat} (hc:c<128):Txt.lower (S [c])=S [lo1 c]:=by
 rw[lower_ascii (by intro d hd;rw[dP]at hd;simp at hd;omega)]
 simp[S]
theorem Fh (c:Nat):Builtin.Str.tooLong (S [c]).length=false:=by
 rw[cP]
 show Builtin.Str.tooLong 1=false
 decide
theorem As:yN X "str.upper" (K_ up1):=by
 intro pins s σ H x xs v us Q I rx rv h
 obtain ⟨c,rfl,rfl,hc,q⟩:=h
 obtain ⟨t,rfl⟩:=rx
 have e:us=[]:=by cases rv;rfl
 subst e
 exact SC.upper (by rw[upper_one hc];exact Fh _) ⟨.str (S [up1 c]),H,I.tok _,⟨_,congrArg (fun z=>Value.str z _) (upper_one hc)⟩,q⟩
theorem ni:yN X "str.lower" (K_ lo1):=by
 intro pins s σ H x xs v us Q I rx rv h
 obtain ⟨c,rfl,rfl,hc,q⟩:=h
 obtain ⟨t,rfl⟩:=rx
 have e:us=[]:=by cases rv;rfl
 subst e
 exact SC.lower (by rw[pY hc];exact Fh _) ⟨.str (S [lo1 c]),H,I.tok _,⟨_,congrArg (fun z=>Value.str z _) (pY hc)⟩,q⟩
theorem Au: ∀(ls:List (List Nat)) (a:Array Nat),(ls.map S).foldl (fun acc p=>acc++(S []).cps++p.cps) a=a++ls.flatten.toArray
 | [],a=>by simp
 | l::ls,a=>by
  rw[UK,Wv,Au ls]
  simp[S]
theorem GU (ls:List (List Nat)):Txt.join (S []) (ls.map S)=S ls.flatten:=by
 unfold Txt.join Builtin.Str.glued
 cases ls with
 | nil=>rfl
 | cons l ls=>
  show Str.mk ((List.map S ls).foldl (fun acc p=>acc++(S []).cps++p.cps) (S l).cps)=_
  rw[Au]
  simp[S]
theorem nj: ∀{ls:List (List Nat)} {us:List Value},Vals (ls.map fun l=>V.str (S l)) us->StrsAre us (ls.map S)
 | [],us,r=>by cases r;exact .nil
 | l::ls,us,r=>by
  cases r with
  | cons r1 r2=>
   obtain ⟨t,rfl⟩:=r1
   exact .cons _ t (nj r2)
def Av (K:PySem.W.Frag):V->List V->Hp->VK->Prop:=fun x vs H Q=> ∃(p:Addr) (ls:List (List Nat)),x= .str (S [])/\vs=[.ref p]/\bJ K H p (ls.map fun l=>V.str (S l))/\(ls.map List.length).sum<=16777216/\Q (.str (S ls.flatten)) H
theorem Aw:yN X "str.join" (Av X.K):=by
 intro pins s σ H x xs v us Q I rx rv h
 obtain ⟨p,ls,rfl,rfl,hq,hz,q⟩:=h
 obtain ⟨t,rfl⟩:=rx
 obtain ⟨u,rfl,ru⟩:=vals1 rv
 cases ru
 obtain ⟨aI,r,pl,_⟩:=I.list hq
 have e:(S []).length=0:=rfl
 refine join_list pl.isList (by simpa using nj r) ?_ fun t' k=>?_
 ·rw[e,Nat.mul_zero,Nat.add_zero,Vj]
  have e2:(Str.length ∘ S)=List.length:=by funext l;exact cP l
  have e3:((fun x:Str=>x.length) ∘ S)=List.length:=by funext l;exact cP l
  first | (rw[e2];exact hz) | (rw[e3];exact hz)
 ·exact ⟨.str (S ls.flatten),H,I.tok _,⟨t',congrArg (fun z=>Value.str z t') (GU ls)⟩,q⟩
end
end L2
namespace L2.F2
open PySem PySem.Spec PyProof.Rows
theorem pZ:Manifest.owners.lookup (String.ofList ['d','e','s','r','e','v','e','r'].reverse)=some Manifest.sig_reversed:=by kernel_rfl
theorem cU:Slot "reversed" "__next__" "reversed.__next__":=
 .of (owner:="reversed") (n:="__next__") (by rw[typeLookup_type,builtinLookup_eq_fast];kernel_rfl) (by decide+kernel) (by decide+kernel) (by decide+kernel)
  (by first | exact .inl (by decide+kernel) | exact .inr (by decide+kernel)) (by rw[isSubtype_type];kernel_rfl)
theorem hZ:entryFor table "reversed.__next__"=some Builtin.«reversed.__next__» :=entryFor_of_tree (by kernel_rfl)
theorem gR (a:Value):argsOk "reversed.__next__" ⟨[a],[]⟩:=by
 unfold argsOk;rw[signature?_of (id:="reversed.__next__") (n:=['_','_','t','x','e','n','_','_']) (o:=['d','e','s','r','e','v','e','r']) (by kernel_rfl) pZ];kernel_rfl
theorem jc:Slot "reversed" "__iter__" "reversed.__iter__":=
 .of (owner:="reversed") (n:="__iter__") (by rw[typeLookup_type,builtinLookup_eq_fast];kernel_rfl) (by decide+kernel) (by decide+kernel) (by decide+kernel)
  (by first | exact .inl (by decide+kernel) | exact .inr (by decide+kernel)) (by rw[isSubtype_type];kernel_rfl)
theorem lY (a:Value):argsOk "reversed.__iter__" ⟨[a],[]⟩:=by
 unfold argsOk;rw[signature?_of (id:="reversed.__iter__") (n:=['_','_','r','e','t','i','_','_']) (o:=['d','e','s','r','e','v','e','r']) (by kernel_rfl) pZ];kernel_rfl
theorem nk:entryFor table "reversed.__iter__"=some Builtin.«dict_keyiterator.__iter__» :=
 entryFor_alias (id':="dict_keyiterator.__iter__") (by kernel_rfl) (by first | rfl | decide+kernel | (unfold String.splitOn;simp+decide [String.splitOnAux])) (by decide+kernel) (by kernel_rfl)
theorem oY:Slot "reversed" "__init__" "object.__init__":=
 .of (owner:="object") (n:="__init__") (by rw[typeLookup_type,builtinLookup_eq_fast];kernel_rfl) (by decide+kernel) (by decide+kernel) (by decide+kernel)
  (by first | exact .inl (by decide+kernel) | exact .inr (by decide+kernel)) (by rw[isSubtype_type];kernel_rfl)
theorem vH:TypeCalled "reversed" "reversed.__new__" "object.__init__":=
 ⟨by decide+kernel,by decide+kernel,⟨_,_,F.mro_reversed⟩,F.made_reversed,by decide+kernel,by rw[isSubtype_type];kernel_rfl,oY⟩
theorem vI:typeLookup (.type "str") "__reversed__"=pure none:=by rw[typeLookup_type,builtinLookup_eq_fast];kernel_rfl
end L2.F2
namespace L2
open PySem PySem.Spec PyProof.Rows
theorem nq (x:Str) (t:Tok) (hz:x.length<=sizeLine):Meets (Builtin.«reversed.__new__» ⟨[.type "reversed", .str x t],[]⟩) (fun _ R s=> ∀tk,R (.ok (.ret (.ref s.heap.objs.size))) { s with heap:=s.heap.push { cls:= .type "reversed",data:= .fields #[.str x t,rawInt ((x.length:Int) - 1)] },toks:=tk }):=by
 refine Meets.of_wp fun prog w A R s h=>?_
 unfold Builtin.«reversed.__new__»
 refine wpAny_bind (wpAny_of_eq (newClass_reversed _) ?_)
 try dsimp only
 refine wpAny_bind (wpAny_of_eq (a:=()) (by first | rfl | kernel_rfl) ?_)
 refine wpAny_bind (wpAny_of_eq (a:=()) (by first | rfl | kernel_rfl) ?_)
 try dsimp only
 refine wpAny_bind (wpAny_specialOf (typeIs_str s x t) F2.vI ?_)
 try dsimp only
 refine wpAny_bind (wpAny_of_eq (a:=true) (by first | rfl | kernel_rfl) ?_)
 rw[if_neg (by decide)]
 have hn:=ft
 refine wpAny_bind (len_str (by omega) ?_)
 refine wpAny_bind (wpAny_of_eq (a:=some (x.length:Int)) (by first | rfl | kernel_rfl) ?_)
 show wpAny _ _ (Builtin.SmallTypes.newRecord (Value.type "reversed") [Value.str x t,rawInt ((x.length:Int) - 1)] >>= _) _ _ _
 refine wpAny_bind ?_
 unfold Builtin.SmallTypes.newRecord
 refine wpAny_newObj_type ?_ (by size_fits)
 exact wpAny_pure ⟨_,rfl,h _⟩
section
variable {prog:Program} {w:World} {A:Around} {E:Value->Shared->Prop} {s:Shared}
theorem nu {x:Str} {t:Tok} {Q:Value->Shared->Prop} (hz:x.length<=sizeLine) (h: ∀tk,Q (.ref s.heap.objs.size) { s with heap:=s.heap.push { cls:= .type "reversed",data:= .fields #[.str x t,rawInt ((x.length:Int) - 1)] },toks:=tk }):
  wpAny (model prog w) A (call (.type "reversed") [.str x t]) Q E s:=
 callType_new F2.vH (by decide+kernel) (F.typeCall_reversed_1 _) (F.newCall_reversed_1 _) (fun obj=>by unfold argsOk;kernel_rfl) F.entry_reversed_new (nq x t hz)
  fun tk=>⟨⟨_,UG _ rfl,rfl⟩,h tk⟩
def h7 (h:Heap) (it:Addr) (x:Str) (t:Tok) (i:Int):Prop:= ∃o,h.get? it=some o/\o.cls= .type "reversed"/\o.data= .fields #[.str x t,rawInt i]
theorem h7.typeIs {it:Addr} {x:Str} {t:Tok} {i:Int} (h:h7 s.heap it x t i):s.TypeIs (.ref it) "reversed":=let ⟨o,ho,hc,_⟩:=h;⟨o,ho,hc⟩
theorem ny {it:Addr} {x:Str} {t:Tok} {i:Int} {Q:Value->Shared->Prop} (hit:h7 s.heap it x t i) (h:Q (.ref it) s):wpAny (model prog w) A (pyIter (.ref it)) Q E s:=by
 refine wpAny_pyIter_slot hit.typeIs F2.jc (wpAny_call_entry F2.jc hit.typeIs F2.nk ?_ (F2.lY _))
 show wpAny _ _ (ret (.ref it)) _ _ s
 exact wpAny_pure ⟨_,rfl,"reversed",_,hit.typeIs,F2.cU.lookup,h⟩
theorem lZ {it:Addr} {x:Str} {t:Tok} {i c:Nat} {Q:Option Value->Shared->Prop} (hit:h7 s.heap it x t (i:Int)) (hx:x.cps[i]? =some c) (hz:x.length<=sizeLine)
  (hQ: ∀h' tk u,h7 h' it x t ((i:Int) - 1)->Heap.SameBut it s.heap h'->Q (some (.str ⟨#[c]⟩ u)) { s with heap:=h',toks:=tk }):wpAny (model prog w) A (pyNext (.ref it)) Q E s:=by
 obtain ⟨o,ho,hc,hd⟩:=id hit
 have hn:=ft
 have hi:i<x.length:=(Array.getElem?_eq_some_iff.mp hx).1
 unfold pyNext
 refine wpAny_bind (wpAny_attempt (wpAny_callSpecial?_slot (name:=Str.ofString "__next__") hit.typeIs F2.cU
  (wpAny_call_entry F2.cU hit.typeIs F2.hZ ?_ (F2.gR _))))
 unfold Builtin.«reversed.__next__»
 refine wpAny_bind (wpAny_of_eq (a:=(Value.ref it,[])) rfl ?_)
 try dsimp only
 refine wpAny_bind (wpAny_field ho hd (x:= .str x t) rfl ?_)
 refine wpAny_bind (wpAny_field ho hd (x:=rawInt (i:Int)) rfl ?_)
 show wpAny _ _ (if (i:Int)<0 then _ else _) _ _ s
 rw[if_neg (by omega)]
 refine wpAny_bind (wpAny_specialOf (typeIs_str s x t) F.slot_str_getitem.lookup ?_)
 show wpAny _ _ (if (some (Value.builtin _)).isNone=true then _ else _) _ _ s
 rw[if_neg (by decide)]
 refine wpAny_bind (wpAny_mkInt ?_)
 refine wpAny_bind (wpAny_attempt (getItem_str (c:=c) (by
  have e1:decide ((i:Int)< -(2 ^ 63:Int))=false:=decide_eq_false (by omega)
  have e2:decide ((i:Int) ≥ 2 ^ 63)=false:=decide_eq_false (by omega)
  rw[e1,e2,XE]) (by rw[seqIndex_of (by omega) (by omega),PB];exact hx) ?_))
 show wpAny _ _ (field (Value.ref it) 1 >>= _) _ _ _
 refine wpAny_bind (wpAny_field ho hd (x:=rawInt (i:Int)) rfl ?_)
 show wpAny _ _ (setField (Value.ref it) 1 (rawInt ((i:Int) - 1)) >>= _) _ _ _
 refine wpAny_bind (wpAny_setField ho hd (by simp) ?_)
 refine wpAny_pure ⟨_,rfl,wpAny_pure (hQ _ _ _ ?_ (Xx ..))⟩
 exact ⟨_,Vu _ ho (Obj.isFreed_of_fields (Obj.data_mapFields hd _)),(Obj.cls_mapFields ..).trans hc,by
  rw[Obj.data_mapFields hd];simp⟩
theorem nz {it:Addr} {x:Str} {t:Tok} {Q:Option Value->Shared->Prop} (hh:A.handled=none) (hit:h7 s.heap it x t (-1))
  (hQ: ∀h',Heap.ExtBut it s.heap h'->Q none { s with heap:=h' }):wpAny (model prog w) A (pyNext (.ref it)) Q E s:=by
 obtain ⟨o,ho,hc,hd⟩:=id hit
 unfold pyNext
 refine wpAny_bind (wpAny_attempt (wpAny_callSpecial?_slot (name:=Str.ofString "__next__") hit.typeIs F2.cU
  (wpAny_call_entry F2.cU hit.typeIs F2.hZ ?_ (F2.gR _))))
 unfold Builtin.«reversed.__next__»
 refine wpAny_bind (wpAny_of_eq (a:=(Value.ref it,[])) rfl ?_)
 try dsimp only
 refine wpAny_bind (wpAny_field ho hd (x:= .str x t) rfl ?_)
 refine wpAny_bind (wpAny_field ho hd (x:=rawInt (-1)) rfl ?_)
 show wpAny _ _ (if (-1:Int)<0 then _ else _) _ _ s
 rw[if_pos (by decide)]
 refine wpAny_bind (wpAny_rule ?_)
 refine wpAny_bind ?_
 show wpAny _ _ (setField (Value.ref it) 1 (rawInt (-1)) >>= fun _=>setField (Value.ref it) 0 .none) _ _ _
 refine wpAny_bind (wpAny_setField ho hd (by simp) ?_)
 refine wpAny_setField (Vu _ ho (Obj.isFreed_of_fields (Obj.data_mapFields hd _))) (Obj.data_mapFields hd _) (by simp) ?_
 first
 | show wpAny _ _ (newExc (.type "StopIteration") [] >>= _) _ _ _
 |(refine wpAny_bind ?_;show wpAny _ _ (newExc (.type "StopIteration") [] >>= _) _ _ _)
 refine wpAny_bind ?_
 simp only[newExc,newTuple]
 refine wpAny_bind (wpAny_newObj_type ?_ (by size_fits))
 refine wpAny_bind (m:=firstArgMember _ _) (wpAny_of_eq (a:=Value.none) (by first | rfl | (simp only[firstArgMember];rfl)) ?_)
 refine wpAny_newObj_type ?_ (by size_fits)
 simp only[raiseNew]
 refine wpAny_bind (wpAny_handled ?_)
 first | rw[show A.in1.handled=none from hh] | rw[hh]
 refine wpAny_bind (wpAny_pure (wpAny_throw ?_))
 refine wpAny_bind (wpAny_isInstance (T:="StopIteration") (b:=true) ⟨_,UG _ rfl,rfl⟩ isSubtype_stop ?_)
 refine wpAny_pure (hQ _ fun b ob hb e=>?_)
 refine Pz _ (Pz _ ?_)
 exact (U9 _ _ (Ne.symm hb)).trans ((U9 _ _ (Ne.symm hb)).trans e)
end
noncomputable def DB (xs:List V):It:=⟨fun i _=>i<xs.length,fun i H x H'=>H'=H/\xs[i]? =some x,fun i _=>xs.length<=i⟩
theorem iQ {l:List Nat} {i:Nat} {x:V} (h:(dj l)[i]? =some x): ∃c,l[i]? =some c/\x= .str (S [c]):=by
 unfold dj at h
 rw[UI]at h
 cases e:l[i]? with
 | none=>rw[e]at h;cases h
 | some c=>rw[e]at h;cases h;exact ⟨c,rfl,rfl⟩
theorem aW (l:List Nat):(dj l).length=l.length:=by unfold dj;rw[Py]
theorem Ax {P:Program} {w:World} {K:PySem.W.Frag} {tg:Expr} (it:Addr) (l:List Nat) (t:Tok):Turn P w K tg (DB (dj l)) [it] it (fun i h=>h.IsStrIter it (strIterType (S l)) (S l) t i) where
 mem:=by simp
 obj:=fun i h st b hb=>by
  have e:b=it:=by simpa using hb
  subst e
  obtain ⟨o,e,c,d⟩:=st
  exact ⟨o,e,fun v z=>by rw[d]at z;cases z⟩
 keep:=fun i h h' st k=>let ⟨o,e,r⟩:=st;⟨o,k it (by simp) o e,r⟩
 item:=by
  intro X hP hw hK hc i pins s σ H E I hf st hg
  subst hP hw hK
  have GV:i<l.length:=by have:i<(dj l).length:=hg;rwa [aW]at this
  obtain ⟨f0,f1,f2,f3,f4,f5⟩:=hf it (by simp)
  have fin: ∀(v:Value) (h':Heap) (tk:Nat),SignAt (S l) i v->h'.IsStrIter it (strIterType (S l)) (S l) t (i+1)->(∀b o,b∉[it]->s.heap.get? b=some o->h'.get? b=some o)->
    ∃u,some v=some u/\wpAny (model X.prog X.w) X.A (letOwnedTupleGo tg (.ref it) u) (fun _ s2=> ∃x H',Inv X pins σ H' s2/\RelV x u/\(DB (dj l)).Ac i H x H'/\s2.heap.IsStrIter it (strIterType (S l)) (S l) t (i+1)/\ ∀b∈[it],H' b=none) E { s with heap:=h',toks:=tk }:=by
   intro v h' tk hv sP kk
   obtain ⟨c,u,e1,e2⟩:=hv
   subst e2
   have I1:Inv X pins σ H { s with heap:=h',toks:=tk }:=I.turned (fun b o hb e=>kk b o (by simpa using hb) e) f0 f1 f3 f4 f5
   obtain ⟨o,e,cc,d⟩:=id sP
   refine ⟨_,rfl,tf (s:={ s with heap:=h',toks:=tk }) e cc d (by unfold strIterType;split<;>decide) ⟨.str (S [c]),H,I1,⟨u,rfl⟩,⟨rfl,?_⟩,sP,fun b hb=>(hf b hb).1⟩⟩
   unfold dj
   rw[UI]
   have Ay:l[i]? =some c:=by simpa [S]using e1
   rw[Ay]
   rfl
  have hsz:i<(S l).cps.size:=by rw[kG];exact GV
  by_cases ha:(S l).cps.all (· <128)=true
  ·have et:strIterType (S l)="str_ascii_iterator":=by unfold strIterType;rw[if_pos ha]
   rw[et]at st
   exact (Walks.strAscii (prog:=X.prog) (w:=X.w) (I.ok.hd hc) it (S l) t).item i s _ _ hsz st fun v h' tk hv sP kk=>fin v h' tk hv (by rw[et];exact sP) kk
  ·have et:strIterType (S l)="str_iterator":=by unfold strIterType;rw[if_neg ha]
   rw[et]at st
   exact (Walks.strWide (prog:=X.prog) (w:=X.w) (I.ok.hd hc) it (S l) t).item i s _ _ hsz st fun v h' tk hv sP kk=>fin v h' tk hv (by rw[et];exact sP) kk
 done:=by
  intro X hP hw hK hc i pins s σ H E I hf st hg
  subst hP hw hK
  obtain ⟨f0,f1,f2,f3,f4,f5⟩:=hf it (by simp)
  have GV:l.length<=i:=by have:(dj l).length<=i:=hg;rwa [aW]at this
  have hx:(S l).cps[i]? =none:=by rw[Array.getElem?_eq_none_iff,kG];exact GV
  by_cases ha:(S l).cps.all (· <128)=true
  ·have et:strIterType (S l)="str_ascii_iterator":=by unfold strIterType;rw[if_pos ha]
   rw[et]at st
   exact wpAny_pyNext_ascii_end (I.ok.hd hc) st hx fun h' eb=>⟨rfl,I.turned (t':=s.toks) (fun b o hb e=>eb b o hb e) f0 f1 f3 f4 f5⟩
  ·have et:strIterType (S l)="str_iterator":=by unfold strIterType;rw[if_neg ha]
   rw[et]at st
   exact wpAny_pyNext_wide_end (I.ok.hd hc) st hx fun h' eb=>⟨rfl,I.turned (t':=s.toks) (fun b o hb e=>eb b o hb e) f0 f1 f3 f4 f5⟩
 self:=fun _ _ s _ _ st h=>by
  by_cases ha:(S l).cps.all (· <128)=true
  ·have et:strIterType (S l)="str_ascii_iterator":=by unfold strIterType;rw[if_pos ha]
   rw[et]at st
   exact wpAny_pyIter_striter_ascii st h
  ·have et:strIterType (S l)="str_iterator":=by unfold strIterType;rw[if_neg ha]
   rw[et]at st
   exact wpAny_pyIter_striter_wide st h
theorem Az {P:Program} {w:World} {K:PySem.W.Frag} {tg:Expr} (it:Addr) (l:List Nat) (t:Tok) (hz:l.length<=sizeLine):Turn P w K tg (DB (dj l).reverse) [it] it (fun i h=>i<=l.length/\h7 h it (S l) t ((l.length:Int) - 1 - (i:Int))) where
 mem:=by simp
 obj:=fun i h st b hb=>by
  have e:b=it:=by simpa using hb
  subst e
  obtain ⟨_,o,e,c,d⟩:=st
  exact ⟨o,e,fun v z=>by rw[d]at z;cases z⟩
 keep:=fun i h h' st k=>let ⟨q,o,e,r⟩:=st;⟨q,o,k it (by simp) o e,r⟩
 item:=by
  intro X hP hw hK hc i pins s σ H E I hf st hg
  subst hP hw hK
  have GV:i<l.length:=by have:i<(dj l).reverse.length:=hg;rwa [UY,aW]at this
  obtain ⟨f0,f1,f2,f3,f4,f5⟩:=hf it (by simp)
  obtain ⟨_,st⟩:=st
  have e:(l.length:Int) - 1 - (i:Int)=((l.length - 1 - i:Nat):Int):=by omega
  rw[e]at st
  have dk:l.length - 1 - i<l.length:=by omega
  refine lZ (c:=l[l.length - 1 - i]) st (by simp[S,dk]) (by rw[cP];exact hz) fun h' tk u sP sb=>?_
  have I1:Inv X pins σ H { s with heap:=h',toks:=tk }:=I.turned (fun b o hb e=>(sb.2 b hb).trans e) f0 f1 f3 f4 f5
  obtain ⟨o,e1,cc,d⟩:=id sP
  refine ⟨_,rfl,tf (s:={ s with heap:=h',toks:=tk }) e1 cc d (by decide) ⟨.str (S [l[l.length - 1 - i]]),H,I1,⟨u,rfl⟩,⟨rfl,?_⟩,⟨GV,?_⟩,fun b hb=>(hf b hb).1⟩⟩
  ·rw[Wm (by rw[aW];exact GV),aW]
   unfold dj
   rw[UI,GJ dk]
   rfl
  ·have e2:(l.length:Int) - 1 - ((i+1:Nat):Int)=((l.length - 1 - i:Nat):Int) - 1:=by omega
   rw[e2]
   exact sP
 done:=by
  intro X hP hw hK hc i pins s σ H E I hf st hg
  subst hP hw hK
  obtain ⟨f0,f1,f2,f3,f4,f5⟩:=hf it (by simp)
  have GV:l.length<=i:=by have:(dj l).reverse.length<=i:=hg;rwa [UY,aW]at this
  obtain ⟨hi,st⟩:=st
  have e:(l.length:Int) - 1 - (i:Int)= -1:=by omega
  rw[e]at st
  exact nz (I.ok.hd hc) st fun h' eb=>⟨rfl,I.turned (t':=s.toks) (fun b o hb e=>eb b o hb e) f0 f1 f3 f4 f5⟩
 self:=fun _ _ _ _ _ st h=>ny st.2 h
section
variable {X:Cx} {tg:Expr}
def N4 (tl:TE):TI:=fun σ H R=>tl σ H fun x H1=> ∃l,x= .str (S l)/\R (DB (dj l)) H1
theorem q8 {l:Expr} {tl:TE} (hl:PE X l tl):PI X tg l (N4 tl):=by
 intro pins s σ H R I h
 refine bZ (hl pins s σ H _ I h) fun v s1 ⟨x,H1,I1,r1,q1⟩=>?_
 obtain ⟨l,rfl,q⟩:=q1
 obtain ⟨t,rfl⟩:=r1
 refine wpAny_pyIter_strU ?_
 refine ⟨s1.heap.objs.size,[s1.heap.objs.size],_,_,H1,rfl,I1.kept (t':=s1.toks) fun b o e=>Pz _ e,Ax _ l t,⟨_,UG _ rfl,rfl,rfl⟩,fun b hb=>?_,q⟩
 have e:b=s1.heap.objs.size:=by simpa using hb
 subst e
 exact I1.oV (Mq _) (I1.bR.fresh (Mq _))
def N5 (ta:TA):TI:=fun σ H R=>ta σ H fun vs H1=> ∃l,vs=[.str (S l)]/\l.length<=sizeLine/\R (DB (dj l).reverse) H1
theorem AA {a:Expr} {ta:TA} {p pos:Pos} (hg:Gl X "reversed") (hm:X.mg "reversed"=none) (ha:PA X [a] ta) (hs:starEach [a] X.env=[(false,eval a X.env)]:=by rfl):PI X tg (.Call (.Name "reversed" p) [a] [] pos) (N5 ta):=by
 intro pins s σ H R I h
 refine Call_ (gy I hg hm boot_reversed (Vi (bZ (ha pos pins s σ H _ I h) fun us s1 ⟨vs,H1,I1,r1,q1⟩=>?_) hs rfl))
 obtain ⟨l,rfl,hz,q⟩:=q1
 obtain ⟨u,rfl,t,rfl⟩:=vals1 r1
 refine nu (by rw[cP];exact hz) fun tk=>?_
 have hit:h7 (s1.heap.push { cls:= .type "reversed",data:= .fields #[.str (S l) t,rawInt (((S l).length:Int) - 1)] }) s1.heap.objs.size (S l) t (((S l).length:Int) - 1):=⟨_,UG _ rfl,rfl,rfl⟩
 refine ny hit ?_
 refine ⟨s1.heap.objs.size,[s1.heap.objs.size],_,_,H1,rfl,I1.kept (t':=tk) fun b o e=>Pz _ e,Az _ l t hz,⟨T6 _,?_⟩,fun b hb=>?_,q⟩
 ·have e:(l.length:Int) - 1 - ((0:Nat):Int)=((S l).length:Int) - 1:=by rw[cP];simp
  rw[e]
  exact hit
 ·have e:b=s1.heap.objs.size:=by simpa using hb
  subst e
  exact I1.oV (Mq _) (I1.bR.fresh (Mq _))
end
theorem xj {xs:List V} {g:TG} {tb:TS} {D:Ends} {σ:St} {H:Hp} (Pv:Nat->St->Hp->Prop) (h0:Pv 0 σ H)
  (hs: ∀i x σ H,xs[i]? =some x->Pv i σ H->g x σ H fun σ2 H2=>tb { D with nx:=Pv (i+1),ct:=Pv (i+1),bk:=D.nx } σ2 H2) (hd: ∀σ H,Pv xs.length σ H->D.nx σ H):
  ∃W:Nat->Nat->St->Hp->Prop,(∃m,W 0 m σ H)/\ ∀i m σ H,W i m σ H->
   ((DB xs).stop i H/\D.nx σ H)\/((DB xs).go i H/\ ∃N:St->Hp->Prop,(∀σ' H',N σ' H'-> ∃m',m'<m/\W (i+1) m' σ' H')/\ ∀x H',(DB xs).Ac i H x H'->g x σ H' fun σ2 H2=>tb { D with nx:=N,ct:=N,bk:=D.nx } σ2 H2):=by
 refine ⟨fun i m σ H=>m=xs.length - i/\i<=xs.length/\Pv i σ H,⟨xs.length,by simp,T6 _,h0⟩,?_⟩
 rintro i m σ H ⟨rfl,hi,p⟩
 by_cases dk:i<xs.length
 ·refine .inr ⟨dk,Pv (i+1),fun σ' H' p'=>⟨xs.length - (i+1),by omega,rfl,dk,p'⟩,fun x H' y=>?_⟩
  obtain ⟨e,y⟩:=y
  subst e
  exact hs i x σ _ y p
 ·have e:i=xs.length:=by omega
  subst e
  exact .inl ⟨Mq _,hd σ H p⟩
theorem mG {J:It} {n:Nat} {xs:Nat->V->Prop} {σc:St} {g:TG} {tc:TT} {te:TE} {Q:VK} {H1:Hp} (Pv:Nat->List V->Hp->Prop) (hn:n<sizeLine) (Ru: ∀i acc H,i<n->Pv i acc H->J.go i H) (La: ∀acc H,Pv n acc H->J.stop n H)
  (hy: ∀i acc H x H',i<n->Pv i acc H->J.Ac i H x H'->H'=H/\xs i x) (h0:Pv 0 [] H1)
  (hs: ∀(i:Nat) (x:V) (acc:List V) (H:Hp) (Nx:List V->Hp->Prop),i<n->xs i x->acc.length<=i->Pv i acc H->(∀dQ H',dQ.length<=i+1->Pv (i+1) dQ H'->Nx dQ H')->
   g x σc H fun σ2 H2=>Wk σc σ2/\tc σ2 H2 fun b H3=>if b=true then te σ2 H3 fun v H4=>Nx (acc++[v]) H4 else Nx acc H3)
  (hd: ∀acc H D,acc.length<=n->Pv n acc H->H D=none->Q (.ref D) (upd H D (.lst acc))):pV J σc g tc te Q H1:=by
 refine ⟨fun i m acc H=>m=n - i/\i<=n/\acc.length<=i/\Pv i acc H,⟨n,by simp,T6 _,Mq _,h0⟩,?_⟩
 rintro i m acc H ⟨rfl,hi,hl,p⟩
 refine ⟨by omega,?_⟩
 by_cases dk:i<n
 ·refine .inr ⟨Ru i acc H dk p,fun x H' y=>?_⟩
  obtain ⟨rfl,y2⟩:=hy i acc H x H' dk p y
  exact hs i x acc _ (fun dQ H'=> ∃m',m'<n - i/\(m'=n - (i+1)/\i+1<=n/\dQ.length<=i+1/\Pv (i+1) dQ H')) dk y2 hl p fun dQ H' h1 h2=>⟨n - (i+1),by omega,rfl,dk,h1,h2⟩
 ·have e:i=n:=by omega
  subst e
  exact .inl ⟨La acc H p,fun D hD=>hd acc H D hl p hD⟩
theorem jO {xs:List V} {σc:St} {g:TG} {tc:TT} {te:TE} {Q:VK} {H1:Hp} (Pv:Nat->List V->Hp->Prop) (hn:xs.length<sizeLine) (h0:Pv 0 [] H1)
  (hs: ∀(i:Nat) (x:V) (acc:List V) (H:Hp) (Nx:List V->Hp->Prop),i<xs.length->xs[i]? =some x->acc.length<=i->Pv i acc H->(∀dQ H',dQ.length<=i+1->Pv (i+1) dQ H'->Nx dQ H')->
   g x σc H fun σ2 H2=>Wk σc σ2/\tc σ2 H2 fun b H3=>if b=true then te σ2 H3 fun v H4=>Nx (acc++[v]) H4 else Nx acc H3)
  (hd: ∀acc H D,acc.length<=xs.length->Pv xs.length acc H->H D=none->Q (.ref D) (upd H D (.lst acc))):pV (DB xs) σc g tc te Q H1:=
 mG (xs:=fun i x=>xs[i]? =some x) Pv hn (fun i _ _ h _=>h) (fun _ _ _=>Mq _) (fun i _ H x H' _ _ y=>y) h0 hs hd
theorem tI {lo:Int} {n:Nat} {σc:St} {g:TG} {tc:TT} {te:TE} {Q:VK} {H1:Hp} (Pv:Nat->List V->Hp->Prop) (hn:n<sizeLine) (h0:Pv 0 [] H1)
  (hs: ∀(i:Nat) (acc:List V) (H:Hp) (Nx:List V->Hp->Prop),i<n->acc.length<=i->Pv i acc H->(∀dQ H',dQ.length<=i+1->Pv (i+1) dQ H'->Nx dQ H')->
   g (.int (lo+i)) σc H fun σ2 H2=>Wk σc σ2/\tc σ2 H2 fun b H3=>if b=true then te σ2 H3 fun v H4=>Nx (acc++[v]) H4 else Nx acc H3)
  (hd: ∀acc H D,acc.length<=n->Pv n acc H->H D=none->Q (.ref D) (upd H D (.lst acc))):pV (E4 lo n) σc g tc te Q H1:=
 mG (xs:=fun i x=>x= .int (lo+i)) Pv hn (fun i _ _ h _=>h) (fun _ _ _=>Mq _) (fun i _ H x H' _ _ y=>y) h0 (fun i x acc H Nx h1 h2=>by subst h2;exact hs i acc H Nx h1) hd
theorem yU {K:PySem.W.Frag} {a:Addr} {xs:List V} {σc:St} {g:TG} {tc:TT} {te:TE} {Q:VK} {H1:Hp} (Pv:Nat->List V->Hp->Prop) (hn:xs.length<sizeLine) (hl: ∀i acc H,Pv i acc H->bJ K H a xs) (h0:Pv 0 [] H1)
  (hs: ∀(i:Nat) (x:V) (acc:List V) (H:Hp) (Nx:List V->Hp->Prop),i<xs.length->xs[i]? =some x->acc.length<=i->Pv i acc H->(∀dQ H',dQ.length<=i+1->Pv (i+1) dQ H'->Nx dQ H')->
   g x σc H fun σ2 H2=>Wk σc σ2/\tc σ2 H2 fun b H3=>if b=true then te σ2 H3 fun v H4=>Nx (acc++[v]) H4 else Nx acc H3)
  (hd: ∀acc H D,acc.length<=xs.length->Pv xs.length acc H->H D=none->Q (.ref D) (upd H D (.lst acc))):pV (IB K a) σc g tc te Q H1:=
 mG (xs:=fun i x=>xs[i]? =some x) Pv hn (fun i acc H h p=>⟨xs,xs[i],hl i acc H p,by simp[h]⟩) (fun acc H p=>⟨xs,hl _ acc H p,Mq _⟩) (fun i acc H x H' h p y=>⟨y.1,y.2 xs (hl i acc H p)⟩) h0 hs hd
def DC (c:TT) (tb:TS):TS:=fun D σ H=> ∃W:Nat->St->Hp->Prop,(∃m,W m σ H)/\ ∀m σ H,W m σ H->
 c σ H fun b H1=>if b=true then tb { D with nx:=fun σ' H'=> ∃m',m'<m/\W m' σ' H',ct:=fun σ' H'=> ∃m',m'<m/\W m' σ' H',bk:=D.nx } σ H1 else D.nx σ H1
theorem dc {X:Cx} {c:Expr} {body:List Stmt} {tc:TT} {tb:TS} {pos:Pos} (hp:PassesOwn (model X.prog X.w) X.A X.env X.xe) (hc:PT X c tc) (hb:u_ X body tb):PS X (.While c body [] pos) (DC tc tb):=by
 intro pins s σ H D I h
 obtain ⟨W,⟨m0,w0⟩,turn⟩:=h
 refine wpAny_While (codeAny_whileLoop (fun n s'=> ∃σ' H',Inv X pins σ' H' s'/\W n σ' H') ?_ m0 ⟨σ,H,I,w0⟩)
 rintro n s1 ⟨σ1,H1,I1,w1⟩
 refine wpAny_passesOwn hp (bZ (hc pins s1 σ1 H1 _ I1 (turn n σ1 H1 w1)) fun b s2 ⟨H2,I2,q2⟩=>?_)
 cases b with
 | true=>
  rw[if_pos rfl]at q2 ⊢
  refine wpAny_passesOwn hp (bZ (hb pins s2 σ1 H2 _ I2 q2) fun f s3 q3=>?_)
  cases f with
  | next=>
   obtain ⟨σ3,H3,I3,m',hm,w3⟩:=q3
   exact ⟨m',hm,σ3,H3,I3,w3⟩
  | cont=>
   obtain ⟨σ3,H3,I3,m',hm,w3⟩:=q3
   exact ⟨m',hm,σ3,H3,I3,w3⟩
  | brk=>exact q3
  | ret v=>exact q3
 | false=>
  rw[if_neg UH]at q2 ⊢
  exact wpAny_execs_nil ⟨σ1,H2,I2,q2⟩
noncomputable def q9 (X:Cx) (scope:Scope):Bool:=(scope.names.all fun y=>y.2 != .cell)&&(scope.kind== .function)&&(scope.names.all fun y=>y.2 != .free||X.env.kindOf y.1==some .cell||X.env.kindOf y.1==some .free)&&(scope.names.all fun y=>y.2 != .local||scope.names.lookup y.1==some .local)
theorem jP {X:Cx} {scope:Scope} (h:q9 X scope=true):(∀y∈scope.names,y.2≠ .cell)/\scope.kind= .function/\(∀y∈scope.names,y.2= .free->X.env.kindOf y.1=some .cell\/X.env.kindOf y.1=some .free)/\(∀x∈scope.names,x.2= .local->scope.names.lookup x.1=some .local):=by
 unfold q9 at h
 simp only[Ve]at h
 obtain ⟨⟨⟨h1,h2⟩,h3⟩,h4⟩:=h
 refine ⟨fun y hy e=>?_,by simpa using h2,fun y hy e=>?_,fun y hy e=>?_⟩
 ·have:=WO.mp h1 y hy
  rw[e]at this;simp at this
 ·have:=WO.mp h3 y hy
  rw[e]at this
  simpa using this
 ·have:=WO.mp h4 y hy
  rw[e]at this
  simpa using this
theorem eJ {X:Cx} {tg iter elt:Expr} {ifs:List Expr} {scope:Scope} {pos:Pos} {wi:TI} {g:TG} {tc:TT} {te:TE} (Nc:List Str) (ix:List (Option Nat)) (hi:PI X tg iter wi) (vB:i7 X scope Nc ix)
  (hG: ∀C s H fp,PG (bH X scope C Nc s H fp) tg g) (hT: ∀C s H fp,PF (bH X scope C Nc s H fp) ifs tc) (hE: ∀C s H fp,PE (bH X scope C Nc s H fp) elt te) (bR:q9 X scope=true:=by rfl) (jb:X.calm=true:=by rfl)
  (hs: ∀x,foldedSetIterable iter X.env x=pure x:=by intro _;rfl):PE X (.ListComp elt [⟨tg,iter,ifs,0⟩] scope pos) (tF wi ix g tc te):=
 let ⟨h1,h2,h3,h4⟩:=jP bR
 Dw Nc ix hi jb vB h1 h2 h3 h4 hG hT hE hs
theorem AB {X:Cx} {i:Nat} {x:Str} {tg iter elt:Expr} {ifs:List Expr} {scope:Scope} {pos Ar pos':Pos} {wi:TI} {g:TG} {tc:TT} {te:TE} (Nc:List Str) (ix:List (Option Nat)) (hN:X.N.Nodup) (K3:X.N[i]? =some x) (hx:Loc X.env.scope x)
  (hi:PI X tg iter wi) (vB:i7 X scope Nc ix)
  (hG: ∀C s H fp,PG (bH X scope C Nc s H fp) tg g) (hT: ∀C s H fp,PF (bH X scope C Nc s H fp) ifs tc) (hE: ∀C s H fp,PE (bH X scope C Nc s H fp) elt te)
  (K4:swapsWith (.ListComp elt [⟨tg,iter,ifs,0⟩] scope pos) (some (.Name x pos')) Ar.line X.env=pure true:=by rfl) (bR:q9 X scope=true:=by rfl) (jb:X.calm=true:=by rfl)
  (hs: ∀x,foldedSetIterable iter X.env x=pure x:=by intro _;rfl) (hf:X.fn x=true\/X.env.scope.names.lookup x=some .local:=by first | exact .inl rfl | exact .inr rfl | assumption):
  PS X (.Assign [.Name x pos'] (.ListComp elt [⟨tg,iter,ifs,0⟩] scope pos) Ar) (De (tF wi ix g tc te) (s_ i)):=
 let ⟨h1,h2,h3,h4⟩:=jP bR
 Dx Nc ix hN K3 hx K4 hi jb vB h1 h2 h3 h4 hG hT hE hs hf
section
variable {X:Cx}
def N6:R2:=fun x y H Q=> ∃a b,x= .str (S a)/\y= .str (S b)/\Q (.bl (decide (a=b))) H
def N7:R2:=fun x y H Q=> ∃a b,x= .str (S a)/\y= .str (S b)/\Q (.bl (!decide (a=b))) H
theorem gC:i6 X (compareOp .Eq) N6:=by
 intro pins s σ H x y v u Q I rx ry h
 obtain ⟨a,b,rfl,rfl,q⟩:=h
 exact E6 pins s σ H _ _ v u Q I rx ry ⟨rfl,by rw[Fe];exact q⟩
theorem GW:i6 X (compareOp .NotEq) N7:=by
 intro pins s σ H x y v u Q I rx ry h
 obtain ⟨a,b,rfl,rfl,q⟩:=h
 exact E7 pins s σ H _ _ v u Q I rx ry ⟨rfl,by rw[Fe];exact q⟩
theorem Fi {i j:Int}:decide (V.int i=V.int j)=decide (i=j):=by
 by_cases h:i=j
 ·subst h;simp
 ·rw[decide_eq_false h,decide_eq_false]
  intro q
  exact h (V.int.inj q)
theorem nA:i6 X (compareOp .Eq) (CO fun i j=> .bl (decide (i=j))):=by
 intro pins s σ H x y v u Q I rx ry h
 obtain ⟨a,b,rfl,rfl,q⟩:=h
 exact E6 pins s σ H _ _ v u Q I rx ry ⟨rfl,by rw[Fi];exact q⟩
theorem q_:i6 X (compareOp .NotEq) (CO fun i j=> .bl (!decide (i=j))):=by
 intro pins s σ H x y v u Q I rx ry h
 obtain ⟨a,b,rfl,rfl,q⟩:=h
 exact E7 pins s σ H _ _ v u Q I rx ry ⟨rfl,by rw[Fi];exact q⟩
def N8 (f:List Nat->List Nat->Bool):R2:=fun x y H Q=> ∃a b,x= .str (S a)/\y= .str (S b)/\Q (.bl (f a b)) H
theorem ra:i6 X (compareOp .Lt) (N8 fun a b=>decide (a<b)):=by
 intro pins s σ H x y v u Q I rx ry h
 obtain ⟨a,b,rfl,rfl,q⟩:=h
 exact yD pins s σ H _ _ v u Q I rx ry ⟨S a,S b,rfl,rfl,by rw[dP,dP];exact q⟩
end
section
variable {X:Cx} {tg:Expr}
theorem bK (K:PySem.W.Frag) (h:X.K=K):Gv X (KI K):=by subst h;exact Dm
theorem bz (K:PySem.W.Frag) (h:X.K=K):Gv X (KJ K):=by subst h;exact Gw
def Lb (K:PySem.W.Frag):List V->Hp->VK->Prop:=fun xs H Q=> ∃p ys,xs=[.ref p]/\(bJ K H p ys\/cS K H p ys)/\Q (.int ys.length) H
theorem bj (K:PySem.W.Frag) (h:X.K=K):dH X (.builtin "len") (Lb K):=by subst h;exact qX
theorem h_ (K:PySem.W.Frag) (h:X.K=K):yN X "str.join" (Av K):=by subst h;exact Aw
def DD (K:PySem.W.Frag):List V->Hp->VK->Prop:=fun xs H Q=> ∃p ys,xs=[.ref p]/\(bJ K H p ys\/cS K H p ys)/\ ∀l,H l=none->Q (.ref l) (upd H l (.lst ys))
theorem oZ (K:PySem.W.Frag) (h:X.K=K):dH X (.type "list") (DD K):=by subst h;exact qZ
theorem nB (K:PySem.W.Frag) (h:X.K=K):Mn X (KN K):=by subst h;exact Dp
theorem ie (K:PySem.W.Frag) (h:X.K=K) {l:Expr} {tl:TE} (hl:PE X l tl):PI X tg l (E5 K tl):=by subst h;exact Df hl
theorem xk (K:PySem.W.Frag) (h:X.K=K) {l:Expr} {tl:TE} (hl:PE X l tl):PI X tg l (Kk K tl):=by subst h;exact Gi hl
end
section
variable {X:Cx} {o e:Expr} {es:List Expr} {to:TE} {t:TA} {name:Str} {apos gZ:Pos} {T id:String} {r:V->List V->Hp->VK->Prop}
theorem eE (K:PySem.W.Frag) (hK:X.K=K) (pa:PlainAttrs T) (slot:Slot T name id) (GB:typeOf (.builtin id)=pure (.type "method_descriptor")) (hm:yN X id r) (ho:PE X o to)
  (m8:attributeBase o name X.env (eval o X.env)=eval o X.env:=by rfl) (lJ:(apos.endLine==gZ.line)=true:=by rfl):PE X (.Call (.Attribute o name apos) [] [] gZ) (KO K T r to):=by
 subst hK
 exact GA pa slot GB hm ho m8 lJ
theorem b6 (K:PySem.W.Frag) (hK:X.K=K) (pa:PlainAttrs T) (slot:Slot T name id) (GB:typeOf (.builtin id)=pure (.type "method_descriptor")) (hm:yN X id r) (ho:PE X o to) (ha:PA X (e::es) t)
  (m8:attributeBase o name X.env (eval o X.env)=eval o X.env:=by rfl)
  (GC:((backTo gZ (starEach (e::es) X.env)).all (fun x=>!x.1)&&(backToKw gZ (keywordEach [] X.env)).all (fun x=>x.1.isSome)
   &&decide ((e::es).length+([]:List Keyword).length+(if ([]:List Keyword).isEmpty then 0 else 1)<30))=true:=by rfl)
  (lJ:(apos.endLine==gZ.line)=true:=by rfl) (hs:starEach (e::es) X.env=(false,eval e X.env)::starEach es X.env:=by rfl) (vv:(backTo gZ (starEach es X.env)).any (·.1)=false:=by rfl):
  PE X (.Call (.Attribute o name apos) (e::es) [] gZ) (Pq K T r to t):=by
 subst hK
 exact KP pa slot GB hm ho ha m8 GC lJ hs vv
end
section
variable {X:Cx} {pins:List (Addr×Obj)} {σ:St} {H:Hp} {s:Shared}
end
section
variable {X:Cx}
def Lc (K:PySem.W.Frag) (ta:TE):TT:=fun σ H Q=>ta σ H fun x H'=> ∃p xs,x= .ref p/\bJ K H' p xs/\Q (!xs.isEmpty) H'
theorem DE {a:Expr} {ta:TE} (K:PySem.W.Frag) (h:X.K=K) (ha:PE X a ta) (he: ∀whole,isTrue a X.env whole=(do let v <-whole;standAt a.pos;holding [v] (truthy v)):=by intro _;rfl):PT X a (Lc K ta):=by
 subst h
 intro pins s σ H Q I hw
 refine isTrue_plain (bZ (ha pins s σ H _ I hw) fun v s1 ⟨x,H1,I1,r1,q1⟩=>?_) (he _)
 obtain ⟨p,xs,rfl,hq,q⟩:=q1
 exact Gp pins s1 σ H1 _ v Q I1 r1 ⟨_, .inl ⟨xs,hq,rfl⟩,q⟩
theorem mH (K:PySem.W.Frag) (h:X.K=K) {es:List Expr} {k:Nat} {t:E2} {n:Nat} {pos:Pos} (hc:X.calm=true) (hs:Kf X es t)
  (hn:(assignEach es X.env).length=n:=by rfl) (lG:(assignEach es X.env).findIdx? (·.1)=none:=by rfl):PG X (.Tuple es k pos) (Kj K n t):=by
 subst h
 exact Gg hc hs hn lG
end
noncomputable def cC (a b:List Nat):List Nat:=if b<a then b else a
noncomputable def bU:List Nat->List (List Nat)->List Nat
 | a,[]=>a
 | a,b::r=>bU (cC a b) r
theorem argBest_lt (bt:Nat->Nat->Bool): ∀n,argBest bt n<=n
 | 0=>Mq _
 | n+1=>by
  unfold argBest
  split
  ·exact Mq _
  ·exact Nat.le_succ_of_le (argBest_lt bt n)
section
variable {X:Cx}
end
section
variable {X:Cx}
theorem AD (K:PySem.W.Frag) (h:X.K=K):i6 X (compareOp .In) (Pp K false):=by subst h;exact yO
end
noncomputable def cM (n:Nat) (l:List Nat):List Nat:=(List.replicate n l).flatten
theorem dR (n:Nat) (l:List Nat):cM (n+1) l=l++cM n l:=by unfold cM;rw[W_,V1]
theorem vJ (n:Nat) (l:List Nat):cM (n+1) l=cM n l++l:=by unfold cM;rw[List.replicate_succ',List.flatten_append,V1,List.flatten_nil,Vh]
theorem nC (n:Nat) (l:List Nat):(cM n l).length=n*l.length:=by
 induction n with
 | zero=>simp[cM]
 | succ n ih=>rw[dR,Rk,ih,V4,Xl]
theorem p5 (l:List Nat): ∀(n:Nat) (acc:Array Nat),((List.replicate n (S l).cps).foldl (· ++ ·) acc).toList=acc.toList++cM n l
 | 0,acc=>by simp[cM]
 | n+1,acc=>by
  rw[W_,Wv,p5 l n,dR]
  simp[S]
def Ld:R2:=fun x y H Q=> ∃(l:List Nat) (i:Int),x= .str (S l)/\y= .int i/\(0<=i/\i<=1000000)/\l.length*i.toNat<=sizeLine/\Q (.str (S (cM i.toNat l))) H
theorem jQ {X:Cx}:i6 X (binaryOp .Mult) Ld:=by
 intro pins s σ H x y v u Q I rx ry h
 obtain ⟨l,i,rfl,rfl,⟨h0,h1⟩,hz,q⟩:=h
 obtain ⟨t,rfl⟩:=rx
 obtain ⟨t',rfl⟩:=ry
 have hn:=ft
 have N9:(S l).length=l.length:=cP l
 have N_:(l.length:Int)*i<=2 ^ 63 - 1:=by
  have e:((l.length*i.toNat:Nat):Int)=(l.length:Int)*i:=by rw[Vr,Int.toNat_of_nonneg h0]
  have:((l.length*i.toNat:Nat):Int)<=(sizeLine:Int):=by exact_mod_cast hz
  rw[<-e];omega
 refine P.mul_str (x:=S l) (n:=i) (t:=t) (u:=t') (by
  have e1:decide (i< -(2 ^ 63:Int))=false:=decide_eq_false (by omega)
  have e2:decide (i ≥ 2 ^ 63)=false:=decide_eq_false (by omega)
  rw[e1,e2];rfl) (fun z _=>?_) (fun z _=>?_) ?_
 ·rw[N9]
  have:(l.length:Int)<=(2 ^ 63 - 1) / i:=(Int.le_ediv_iff_mul_le (by omega)).mpr N_
  omega
 ·rw[N9]
  show Builtin.Str.tooLong _=false
  unfold Builtin.Str.tooLong
  exact decide_eq_false (by omega)
 ·by_cases z:i<1
  ·rw[if_pos z]
   have e:i.toNat=0:=by omega
   rw[e]at q
   exact ⟨by decide, .str _,H,I.tok _,⟨_,rfl⟩,q⟩
  ·rw[if_neg z]
   by_cases z2:(i==1||(S l).length==0)=true
   ·rw[if_pos z2]
    have e:cM i.toNat l=l:=by
     rcases Bool.or_eq_true _ _ |>.mp z2 with e | e
     ·have e:i=1:=by simpa using e
      subst e
      show cM 1 l=l
      rw[dR];simp[cM]
     ·have e:l.length=0:=by rw[N9]at e;simpa using e
      have e:l=[]:=Vk.mp e
      subst e
      unfold cM
      simp
    rw[e]at q
    exact ⟨.str _,H,I,⟨_,rfl⟩,q⟩
   ·rw[if_neg z2]
    have e:(⟨(List.replicate i.toNat (S l).cps).foldl (· ++ ·) #[]⟩:Str)=S (cM i.toNat l):=by
     have:=p5 l i.toNat #[]
     show _=(⟨(cM i.toNat l).toArray⟩:Str)
     congr 1
     apply WQ.mp
     rw[this]
     simp
    rw[e]
    refine ⟨?_, .str _,H,I.tok _,⟨_,rfl⟩,q⟩
    rw[cP,nC,VD]
    exact hz
section
variable {X:Cx}
end
section
variable {X:Cx} {pins:List (Addr×Obj)} {σ:St} {H:Hp} {s:Shared} {h':Heap}
theorem Inv.nE {t':Nat} {ch:List Addr} {T:Addr} {ob:HO} (I:Inv X pins σ H s) (k: ∀b o,b∉ch->s.heap.get? b=some o->h'.get? b=some o) (hf: ∀b∈ch,lU X pins H b)
  (hT:s.heap.objs.size<=T) (new:cD X.prog X.w (upd H T ob) h' T ob):Inv X pins σ (upd H T ob) { s with heap:=h',toks:=t' }:=by
 have hn:=I.bR.fresh hT
 have EY: ∀b u,H b=some u->b∉ch:=fun b u e z=>by rw[(hf b z).1]at e;cases e
 have neT: ∀b o,s.heap.get? b=some o->b≠T:=fun b o e z=>absurd (UN (UD e) hT) (by rw[z];exact U_ _)
 refine I.step (g':=s.gens) (d':=s.drawn) (ch:=ch) (fun b hb=>?_) (fun b o _ _ hc e _=>k b o hc e) (fun b o _ _ hc e _=>⟨o.slots,k b o hc e⟩) (fun b o _ e n=>by rw[au (neT b o e)];exact n)
  (fun b o hc e=>⟨o,k b o hc e⟩) (fun b xs e=>by rw[au (aq e hn)];exact e) (fun b o u e=>by rw[au (aq e hn)];exact e) (fun b ps e=>⟨#[],by rw[au (aq e hn),e];simp⟩) (fun m hm=>?_) (fun b u e=>?_) I.bare
 ·obtain ⟨_,h2,_,h4,h5,h6⟩:=hf b hb
  exact ⟨h4,h2,h5,h6⟩
 ·obtain ⟨o,es,ep,ho,r⟩:=hm
  exact ⟨o,es,ep,k _ o (fun z=>(hf _ z).2.1 rfl) ho,r⟩
 ·by_cases hb:b=T
  ·subst hb;rw[ag]at e;cases e;exact new
  ·rw[au hb]at e
   refine (I.bR b u e).sW (fun c v hc q=>k c v ?_ q) (fun c q=>by rw[au (aq q hn)];exact q) fun c xs q=>by rw[au (aq q hn)];exact q
   rcases hc with z | z
   ·rw[z];exact EY b u e
   ·exact EY c _ z
theorem Inv.rh {t':Nat} {ch:List Addr} (I:Inv X pins σ H s) (k: ∀b o,b∉ch->s.heap.get? b=some o->h'.get? b=some o) (hf: ∀b∈ch,lU X pins H b):Inv X pins σ H { s with heap:=h',toks:=t' }:=by
 have EY: ∀b u,H b=some u->b∉ch:=fun b u e z=>by rw[(hf b z).1]at e;cases e
 refine I.step (g':=s.gens) (d':=s.drawn) (ch:=ch) (fun b hb=>?_) (fun b o _ _ hc e _=>k b o hc e) (fun b o _ _ hc e _=>⟨o.slots,k b o hc e⟩) (fun b o _ e n=>n)
  (fun b o hc e=>⟨o,k b o hc e⟩) (fun b xs e=>e) (fun b o u e=>e) (fun b ps e=>⟨#[],by rw[e];simp⟩) (fun m hm=>?_) (fun b u e=>?_) I.bare
 ·obtain ⟨_,h2,_,h4,h5,h6⟩:=hf b hb
  exact ⟨h4,h2,h5,h6⟩
 ·obtain ⟨o,es,ep,ho,r⟩:=hm
  exact ⟨o,es,ep,k _ o (fun z=>(hf _ z).2.1 rfl) ho,r⟩
 ·refine (I.bR b u e).sW (fun c v hc q=>k c v ?_ q) (fun c q=>q) fun c xs q=>q
  rcases hc with z | z
  ·rw[z];exact EY b u e
  ·exact EY c _ z
end
noncomputable def Le (l:List Nat):It:=⟨fun i _=>i<l.length,fun i H x H'=> ∃T c,l[i]? =some c/\x= .ref T/\H T=none/\H'=upd H T (.tup [.int i, .str (S [c])]),fun i _=>l.length<=i⟩
theorem p6 {prog:Program} {w:World} {A:Around} (hh:A.handled=none) (it:Addr) (x:Str) (t:Tok):
  Draws prog w A it [it] x.cps.size (fun i v=> ∃c u,x.cps[i]? =some c/\v= .str ⟨#[c]⟩ u) (fun i h=>h.IsStrIter it (strIterType x) x t i):=by
 by_cases ha:x.cps.all (· <128)=true
 ·have et:strIterType x="str_ascii_iterator":=by unfold strIterType;rw[if_pos ha]
  rw[et];exact Draws.strAscii hh it x t
 ·have et:strIterType x="str_iterator":=by unfold strIterType;rw[if_neg ha]
  rw[et];exact Draws.strWide hh it x t
theorem vK {P:Program} {w:World} {K:PySem.W.Frag} {elts:List Expr} {k:Nat} {pos:Pos} (e it:Addr) (xl:e≠it) (l:List Nat) (t:Tok):
  Turn P w K (.Tuple elts k pos) (Le l) [e,it] e (fun i h=>i<=l.length/\(∃old,IsEnum h e it i old)/\h.IsStrIter it (strIterType (S l)) (S l) t i) where
 mem:=by simp
 obj:=fun i h st b hb=>by
  obtain ⟨_,⟨old,he⟩,o,ho,hc,hd⟩:=st
  rcases T3.mp hb with z | z
  ·rw[z];exact ⟨_,he,fun v z=>by cases z⟩
  ·rw[PC.mp z];exact ⟨o,ho,fun v z=>by rw[hd]at z;cases z⟩
 keep:=fun i h h' st kp=>by
  obtain ⟨h1,⟨old,he⟩,o,ho,r⟩:=st
  exact ⟨h1,⟨old,kp e (by simp) _ he⟩,o,kp it (by simp) o ho,r⟩
 item:=by
  intro X hP hw hK hc i pins s σ H E I hf st hg
  subst hP hw hK
  obtain ⟨_,uV,uU⟩:=st
  have D:=p6 (prog:=X.prog) (w:=X.w) (A:=X.A.in1) (I.ok.hd hc) it (S l) t
  have W:=WalksT.enumerateD D e xl (by simpa using xl) (by simp)
  have hi:i<(S l).cps.size:=by rw[kG];exact hg
  refine W.item i s _ _ hi ⟨uV,uU⟩ fun T vals h' tk Lf hT AE tJ hk=>⟨_,rfl,?_⟩
  refine W.go elts k pos i T { s with heap:=h',toks:=tk } _ _ tJ fun h2 tK vL=>?_
  obtain ⟨tt,x,⟨c,u,Oa,rfl⟩,rfl⟩:=Lf
  have Fj:T∉[e,it]:=W.apart i T h' tJ
  have tL:h2.IsTuple T #[.int i tt, .str ⟨#[c]⟩ u]:=by
   obtain ⟨o,ho,r⟩:=AE
   exact ⟨o,vL T o Fj ho,r⟩
  have hl:l[i]? =some c:=by simpa [S]using Oa
  refine ⟨.ref T,upd H T (.tup [.int i, .str (S [c])]),?_,rfl,⟨T,c,hl,rfl,I.bR.fresh hT,rfl⟩,⟨hg,tK.1,tK.2⟩,fun b hb=>?_⟩
  ·refine I.nE (t':=tk) (h':=h2) (fun b o hb y=>vL b o hb (hk b o hb y)) hf hT ?_
   exact ⟨by show 2<=sizeLine;decide,[.int i tt, .str ⟨#[c]⟩ u], .cons ⟨tt,rfl⟩ (.cons ⟨u,rfl⟩ .nil),tL⟩
  ·rw[au (fun z:b=T=>Fj (z▸hb))];exact (hf b hb).1
 done:=by
  intro X hP hw hK hc i pins s σ H E I hf st hg
  subst hP hw hK
  obtain ⟨h1,uV,uU⟩:=st
  have e1:i=l.length:=W2 h1 hg
  have D:=p6 (prog:=X.prog) (w:=X.w) (A:=X.A.in1) (I.ok.hd hc) it (S l) t
  have W:=WalksT.enumerateD D e xl (by simpa using xl) (by simp)
  refine W.done s _ _ ?_ fun h' tk hk=>⟨rfl,I.rh (t':=tk) hk hf⟩
  rw[kG, <-e1]
  exact ⟨uV,uU⟩
 self:=fun _ _ s _ _ st h=>by
  obtain ⟨_,⟨old,he⟩,_⟩:=st
  exact wpAny_pyIter_enum he h
def GX (ta:TA):TI:=fun σ H R=>ta σ H fun vs H1=> ∃l,vs=[.str (S l)]/\R (Le l) H1
theorem AF {X:Cx} {elts:List Expr} {k:Nat} {pos':Pos} {a:Expr} {ta:TA} {p pos:Pos} (hg:Gl X "enumerate") (hm:X.mg "enumerate"=none) (ha:PA X [a] ta) (hs:starEach [a] X.env=[(false,eval a X.env)]:=by rfl):PI X (.Tuple elts k pos') (.Call (.Name "enumerate" p) [a] [] pos) (GX ta):=by
 intro pins s σ H R I h
 refine Call_ (gy I hg hm boot_enumerate (Vi (bZ (ha pos pins s σ H _ I h) fun us s1 ⟨vs,H1,I1,r1,q1⟩=>?_) hs rfl))
 obtain ⟨l,rfl,q⟩:=q1
 obtain ⟨u,rfl,t,rfl⟩:=vals1 r1
 refine call_enumerate_str fun h' he hit hsz hk=>?_
 refine wpAny_pyIter_enum he ?_
 refine ⟨s1.heap.objs.size+1,[s1.heap.objs.size+1,s1.heap.objs.size],_,_,H1,rfl,I1.kept (t':=s1.toks) hk,vK _ _ (WL _) l t,⟨T6 _,⟨_,he⟩,hit⟩,fun b hb=>?_,q⟩
 have mI:s1.heap.objs.size<=b:=by
  rcases T3.mp hb with z | z
  ·rw[z];exact VR _
  ·rw[PC.mp z];exact Mq _
 exact I1.oV mI (I1.bR.fresh mI)
theorem AG {l:List Nat} {g:TG} {tb:TS} {D:Ends} {σ:St} {H:Hp} (Pv:Nat->St->Hp->Prop) (h0:Pv 0 σ H)
  (hs: ∀i c σ H T,l[i]? =some c->Pv i σ H->H T=none->g (.ref T) σ (upd H T (.tup [.int i, .str (S [c])])) fun σ2 H2=>tb { D with nx:=Pv (i+1),ct:=Pv (i+1),bk:=D.nx } σ2 H2) (hd: ∀σ H,Pv l.length σ H->D.nx σ H):
  ∃W:Nat->Nat->St->Hp->Prop,(∃m,W 0 m σ H)/\ ∀i m σ H,W i m σ H->
   ((Le l).stop i H/\D.nx σ H)\/((Le l).go i H/\ ∃N:St->Hp->Prop,(∀σ' H',N σ' H'-> ∃m',m'<m/\W (i+1) m' σ' H')/\ ∀x H',(Le l).Ac i H x H'->g x σ H' fun σ2 H2=>tb { D with nx:=N,ct:=N,bk:=D.nx } σ2 H2):=by
 refine ⟨fun i m σ H=>m=l.length - i/\i<=l.length/\Pv i σ H,⟨l.length,by simp,T6 _,h0⟩,?_⟩
 rintro i m σ H ⟨rfl,hi,p⟩
 by_cases dk:i<l.length
 ·refine .inr ⟨dk,Pv (i+1),fun σ' H' p'=>⟨l.length - (i+1),by omega,rfl,dk,p'⟩,fun x H' y=>?_⟩
  obtain ⟨T,c,hc,rfl,hn,rfl⟩:=y
  exact hs i c σ _ T hc p hn
 ·have e:i=l.length:=by omega
  subst e
  exact .inl ⟨Mq _,hd σ H p⟩
section
variable {X:Cx}
theorem DF {ls:List (List Nat)}: ∀{aI:List Value},Vals (ls.map fun l=>V.str (S l)) aI->StrsAre aI (ls.map S):=by
 induction ls with
 | nil=>intro aI r;cases r;exact .nil
 | cons l ls ih=>
  intro aI r
  cases r with
  | cons r1 r2=>
   obtain ⟨t,rfl⟩:=r1
   exact .cons _ t (ih r2)
theorem xm: ∀{aI:List Value} {ss:List Str},StrsAre aI ss->Vals ((ss.map fun x=>x.cps.toList).map fun l=>V.str (S l)) aI
 | _,_, .nil=> .nil
 | _,_, .cons x t h=> .cons ⟨t,by rw[<-K6]⟩ (xm h)
theorem p7: ∀(p:Str) (r:List Str),risingS p r=true->(p::r).Pairwise fun a b=> ¬b.cps.toList<a.cps.toList
 | p,[],_=>List.pairwise_singleton _ _
 | p,x::r,h=>by
  have h':(!ltCps x.cps.toList p.cps.toList&&risingS x r)=true:=h
  rw[Ve,ltCps_eq]at h'
  have h1: ¬x.cps.toList<p.cps.toList:=by simpa using h'.1
  have ih:=p7 x r h'.2
  refine VI.mpr ⟨fun y hy=>?_,ih⟩
  rcases T3.mp hy with z | z
  ·rw[z];exact h1
  ·exact List.le_trans (show p.cps.toList<=x.cps.toList from h1) (show x.cps.toList<=y.cps.toList from List.rel_of_pairwise_cons ih z)
theorem yV {ss:List Str} (h:sortedS ss=true):(ss.map fun x=>x.cps.toList).Pairwise fun a b=> ¬b<a:=by
 rw[Vo]
 cases ss with
 | nil=>exact List.Pairwise.nil
 | cons x r=>exact p7 x r h
def GY (K:PySem.W.Frag):List V->Hp->VK->Prop:=fun xs H Q=> ∃(p:Addr) (ls:List (List Nat)),xs=[.ref p]/\bJ K H p (ls.map fun l=>V.str (S l))/\ls.length<64/\ ∀(q:Addr) (Ob:List (List Nat)),H q=none->Ob.Perm ls->(Ob.Pairwise fun a b=> ¬b<a)->Q (.ref q) (upd H q (.lst (Ob.map fun l=>V.str (S l))))
theorem rj (K:PySem.W.Frag) (h:X.K=K):dH X (.builtin "sorted") (GY K):=by
 subst h
 intro pins s σ H xs us Q I r h
 obtain ⟨p,ls,rfl,hq,hn,q⟩:=h
 obtain ⟨u,rfl,ru⟩:=vals1 r
 cases ru
 obtain ⟨aI,rv,pl,hz⟩:=I.list hq
 have hlen:aI.length=ls.length:=by rw[<-rv.length,Py]
 refine sorted_strs (l:=p) (vs:=aI) (ss:=ls.map S) pl.isList (DF rv) (by omega) fun out zX h1 h2 h3=>?_
 obtain ⟨e,he⟩:=sortedAll_at s.heap aI out
 have tM:(zX.map fun x=>x.cps.toList).Perm ls:=by
  have:=h2.map fun x:Str=>x.cps.toList
  rw[Vj]at this
  have e2:ls.map ((fun x:Str=>x.cps.toList) ∘ S)=ls:=by
   have: ∀l∈ls,((fun x:Str=>x.cps.toList) ∘ S) l=l:=fun l _=>dP l
   calc ls.map _=ls.map id:=Wx this
    _=ls:=Xz ls
  rwa [e2]at this
 have Fb:=tM.length_eq
 have Rv:(64:Nat)<sizeLine:=by decide
 have Lg:((zX.map fun x=>x.cps.toList).map fun l=>V.str (S l)).length<=sizeLine:=by rw[Py,Fb];omega
 refine ⟨.ref (s.heap.objs.size+1),_,I.laid (t':=s.toks) (a:=s.heap.objs.size+1) (o:= .lst ((zX.map fun x=>x.cps.toList).map fun l=>V.str (S l))) (fun b o e=>sortedAll_old e) (VR _) ⟨Lg,out.toList,e,xm h1,by simpa [seqObj]using he⟩,rfl,q _ _ (I.bR.fresh (VR _)) tM (yV h3)⟩
end
section
variable {X:Cx}
theorem DG {ls:List (List Nat)} {l:List Nat} (h:ls.Perm (l.map fun c=>[c])): ∃l':List Nat,ls=l'.map (fun c=>[c])/\l'.Perm l:=by
 refine ⟨ls.flatten,?_,?_⟩
 ·have hs: ∀x∈ls, ∃c,x=[c]:=fun x hx=>by
   obtain ⟨c,_,e⟩:=UQ.mp (h.mem_iff.mp hx)
   exact ⟨c,e.symm⟩
  clear h
  induction ls with
  | nil=>rfl
  | cons x ls ih=>
   obtain ⟨c,rfl⟩:=hs x UA
   rw[V1,Rn, <-ih fun y hy=>hs y (T5 _ hy)]
   rfl
 ·have:=h.flatten
  have e:(l.map fun c=>[c]).flatten=l:=by
   clear h this
   induction l with
   | nil=>rfl
   | cons c l ih=>rw[UK,V1,ih];rfl
  rwa [e]at this
theorem DH {l:List Nat} (h:(l.map fun c=>[c]).Pairwise fun a b=> ¬b<a):l.Pairwise fun a b=>a<=b:=by
 rw[Vo]at h
 refine h.imp fun {a b} z=>?_
 by_cases y:a<=b
 ·exact y
 ·exact absurd (W5.mpr (.inl (by omega))) z
end
section
variable {X:Cx}
end
section
variable {prog:Program} {w:World} {A:Around} {E:Value->Shared->Prop} {s:Shared}
theorem vM {it tp:Addr} {j:Nat} {xs:Array Value} {y:Value} {Q:Value->Shared->Prop} (hi:s.heap.IsTupleIter it tp j) (ht:s.heap.IsTuple tp xs) (hy:xs[j]? =some y)
  (q: ∀h2,h2.IsTupleIter it tp (j+1)->Heap.SameBut it s.heap h2->Q y { s with heap:=h2 }):wpAny (model prog w) A (Builtin.SmallTypes.nextOf (.ref it)) Q E s:=by
 obtain ⟨oi,eo,ec,ed⟩:=id hi
 obtain ⟨ot,et,_,nt,dt⟩:=ht
 unfold Builtin.SmallTypes.nextOf
 refine wpAny_bind (wpAny_callSpecial?_slot (name:=Str.ofString "__next__") hi.typeIs F.slot_tuple_iterator_next (wpAny_call_entry F.slot_tuple_iterator_next hi.typeIs F.entry_tuple_iterator_next ?_ (F.args_tuple_iterator_next_1 _)))
 refine wpAny_bind (m:=field (.ref it) 0) (wpAny_field eo ed (x:= .ref tp) rfl ?_)
 show wpAny (model prog w) _ (if (Value.ref tp==Value.none)=true then _ else _) _ E s
 rw[if_neg (show ¬(Value.ref tp==Value.none)=true from UH)]
 refine wpAny_bind (m:=field (.ref it) 1) (wpAny_field eo ed (x:= .int j 0) rfl ?_)
 refine wpAny_bind (m:=seqItems? (.ref tp)) (wpAny_seqItems et dt ?_)
 simp only[PB,hy]
 refine wpAny_bind (wpAny_setField eo ed (by simp) (wpAny_pure ⟨y,rfl,wpAny_pure (q _ ⟨_,Vu _ eo (Obj.isFreed_of_fields (Obj.data_mapFields ed _)),(Obj.cls_mapFields ..).trans ec,by rw[Obj.data_mapFields ed];simp[rawInt]⟩ (Xx ..))⟩))
theorem yW {it tp:Addr} {j:Nat} {xs:Array Value} {Q:Value->Shared->Prop} (hh:A.handled=none) (hi:s.heap.IsTupleIter it tp j) (ht:s.heap.IsTuple tp xs) (hy:xs[j]? =none)
  (q: ∀h2 e,Heap.ExtBut it s.heap h2->(∃o,h2.get? e=some o/\o.cls= .type "StopIteration")->E (.ref e) { s with heap:=h2 }):wpAny (model prog w) A (Builtin.SmallTypes.nextOf (.ref it)) Q E s:=by
 obtain ⟨oi,eo,ec,ed⟩:=id hi
 obtain ⟨ot,et,_,nt,dt⟩:=ht
 unfold Builtin.SmallTypes.nextOf
 refine wpAny_bind (wpAny_callSpecial?_slot (name:=Str.ofString "__next__") hi.typeIs F.slot_tuple_iterator_next (wpAny_call_entry F.slot_tuple_iterator_next hi.typeIs F.entry_tuple_iterator_next ?_ (F.args_tuple_iterator_next_1 _)))
 refine wpAny_bind (m:=field (.ref it) 0) (wpAny_field eo ed (x:= .ref tp) rfl ?_)
 show wpAny (model prog w) _ (if (Value.ref tp==Value.none)=true then _ else _) _ E s
 rw[if_neg (show ¬(Value.ref tp==Value.none)=true from UH)]
 refine wpAny_bind (m:=field (.ref it) 1) (wpAny_field eo ed (x:= .int j 0) rfl ?_)
 refine wpAny_bind (m:=seqItems? (.ref tp)) (wpAny_seqItems et dt ?_)
 simp only[PB,hy]
 refine wpAny_bind (wpAny_rule (wpAny_bind (wpAny_setField eo ed (by simp) ?_)))
 refine wpAny_bind (m:=newExc (.type "StopIteration") []) ?_
 simp only[newExc,newTuple]
 refine wpAny_bind (wpAny_newObj_type (wpAny_bind (m:=firstArgMember _ _) (wpAny_of_eq (a:=Value.none) (by first | rfl | (simp only[firstArgMember];rfl)) (wpAny_newObj_type ?_ (by size_fits)))) (by size_fits))
 simp only[raiseNew]
 refine wpAny_bind (wpAny_handled ?_);first | rw[show A.in1.handled=none from hh] | rw[hh]
 exact wpAny_bind (wpAny_pure (wpAny_throw (q _ _ (((Xx ..).extBut.push _).push _) ⟨_,UG _ rfl,rfl⟩)))
theorem lL (hh:A.handled=none) (it tp:Addr) (ne:tp≠it) (xs:Array Value):
  Draws prog w A it [it,tp] xs.size (fun i v=>xs[i]? =some v) (fun i h=>h.IsTupleIter it tp i/\h.IsTuple tp xs) where
 live:=fun _ _ z=>let ⟨o,e,_⟩:=z.1;⟨o,e⟩
 frame:=fun _ _ _ z k=>by
  obtain ⟨⟨o,e,r⟩,o2,e2,r2⟩:=z
  exact ⟨⟨o,k it (by simp) o e,r⟩,o2,k tp (by simp) o2 e2,r2⟩
 item:=fun i s Q E hi z q=>vM z.1 z.2 (y:=xs[i]) (by simp[hi]) fun h2 z2 sb=>q _ h2 s.toks (by simp[hi]) ⟨z2,z.2.extBut sb.extBut ne⟩ sb
 done:=fun s Q E z q=>yW hh z.1 z.2 (by simp) q
theorem tN (l:Addr) (items:Array Value) (n:Nat) (Oc:Option Addr) (sl:Array (Option Value)):
  Meets (Builtin.«enumerate.__new__» ⟨[.type "enumerate", .ref l],[]⟩) (fun _ R s=>s.heap.get? l=some { cls:= .type "tuple",dict:=Oc,data:= .seq items n,slots:=sl }/\
   R (.ok (.ret (.ref (s.heap.push { cls:= .type "tuple_iterator",data:= .fields #[.ref l, .int 0 0] }).objs.size)))
    { s with heap:=(s.heap.push { cls:= .type "tuple_iterator",data:= .fields #[.ref l, .int 0 0] }).push { cls:= .type "enumerate",data:= .fields #[.none, .bool false, .ref s.heap.objs.size,rawInt 0, .none, .none] } }):=
 .of_wp fun prog w A R s h=>by
  obtain ⟨hp,g,d,tk,os⟩:=s;obtain ⟨hl,q⟩:=h;have Rw:=sub_enumerate
  have hT:Heap.IsTuple (Shared.heap ⟨hp,g,d,tk,os⟩) l items:=⟨_,hl,rfl,n,rfl⟩
  wp_walk using AutoSeq1.wpAny_loadPart' hl
  refine wpAny_stack_any fun st=>wpAny_pure ?_
  split
  ·rename_i c _ _ _ _ _
   cases (c==Value.type "enumerate")<;>(wp_walk using AutoSeq1.wpAny_loadPart' hl,wpAny_pyIter_tuple hT;exact ⟨_,rfl,q⟩)
  ·wp_walk using AutoSeq1.wpAny_loadPart' hl,wpAny_pyIter_tuple hT
   exact ⟨_,rfl,q⟩
theorem vN {l:Addr} {items:Array Value} {Q:Value->Shared->Prop} (hL:s.heap.IsTuple l items)
  (h: ∀h',IsEnum h' (s.heap.objs.size+1) s.heap.objs.size 0 .none->h'.IsTupleIter s.heap.objs.size l 0->(∀b o,s.heap.get? b=some o->h'.get? b=some o)->Q (.ref (s.heap.objs.size+1)) { s with heap:=h' }):
  wpAny (model prog w) A (call (.type "enumerate") [.ref l]) Q E s:=by
 obtain ⟨⟨c,Oc,dt,sl⟩,hl,hc,n,hd⟩:=hL
 cases (show c= .type "tuple" from hc)
 cases (show dt= .seq items n from hd)
 refine callType_new F.called_enumerate (by decide) (F.typeCall_enumerate_1 _) (F.newCall_enumerate_1 _) (fun ob=>F.args_object_init_2 ob _) F.entry_enumerate_new (tN l items n Oc sl) ⟨hl,?_⟩
 have hz:(s.heap.push { cls:= .type "tuple_iterator",data:= .fields #[.ref l, .int 0 0] }).objs.size=s.heap.objs.size+1:=Ws ..
 show _/\_
 rw[hz]
 have he:IsEnum ((s.heap.push { cls:= .type "tuple_iterator",data:= .fields #[.ref l, .int 0 0] }).push { cls:= .type "enumerate",data:= .fields #[.none, .bool false, .ref s.heap.objs.size,rawInt 0, .none, .none] }) (s.heap.objs.size+1) s.heap.objs.size 0 .none:=by
  have:=UG (s.heap.push { cls:= .type "tuple_iterator",data:= .fields #[.ref l, .int 0 0] }) (o:={ cls:= .type "enumerate",data:= .fields #[.none, .bool false, .ref s.heap.objs.size,rawInt 0, .none, .none] }) rfl
  rwa [hz]at this
 exact ⟨⟨_,he,rfl⟩,h _ he ⟨_,Pz _ (UG _ rfl),rfl,rfl⟩ fun b o x=>Pz _ (Pz _ x)⟩
end
noncomputable def AH (K:PySem.W.Frag) (a:Addr):It:=⟨fun i H=> ∃xs x,cS K H a xs/\xs[i]? =some x,fun i H x H'=> ∃T y,(∀xs,cS K H a xs->xs[i]? =some y)/\x= .ref T/\H T=none/\H'=upd H T (.tup [.int i,y]),fun i H=> ∃xs,cS K H a xs/\xs.length=i⟩
noncomputable def AI (K:PySem.W.Frag) (a:Addr):It:=⟨fun i H=> ∃xs x,bJ K H a xs/\xs[i]? =some x,fun i H x H'=> ∃T y,(∀xs,bJ K H a xs->xs[i]? =some y)/\x= .ref T/\H T=none/\H'=upd H T (.tup [.int i,y]),fun i H=> ∃xs,bJ K H a xs/\xs.length=i⟩
theorem vO {P:Program} {w:World} {K:PySem.W.Frag} {elts:List Expr} {k:Nat} {pos:Pos} (e it a:Addr) (xl:e≠it) (Lh:a≠e) (Li:a≠it):
  Turn P w K (.Tuple elts k pos) (AH K a) [e,it] e (fun i h=>(∃old,IsEnum h e it i old)/\h.IsTupleIter it a i) where
 mem:=by simp
 obj:=fun i h st b hb=>by
  obtain ⟨⟨old,he⟩,o,ho,hc,hd⟩:=st
  rcases T3.mp hb with z | z
  ·rw[z];exact ⟨_,he,fun v z=>by cases z⟩
  ·rw[PC.mp z];exact ⟨o,ho,fun v z=>by rw[hd]at z;cases z⟩
 keep:=fun i h h' st kp=>by
  obtain ⟨⟨old,he⟩,o,ho,r⟩:=st
  exact ⟨⟨old,kp e (by simp) _ he⟩,o,kp it (by simp) o ho,r⟩
 item:=by
  intro X hP hw hK hc i pins s σ H E I hf st hg
  subst hP hw hK
  obtain ⟨uV,uU⟩:=st
  obtain ⟨xs,x,hq,hx⟩:=hg
  obtain ⟨aI,rv,p,hz⟩:=I.tuple hq
  obtain ⟨u0,hu,ru⟩:=rv.get hx
  have D:=lL (prog:=X.prog) (w:=X.w) (A:=X.A.in1) (I.ok.hd hc) it a Li aI.toArray
  have W:=WalksT.enumerateD D e xl (by simp;exact ⟨xl,Ne.symm Lh⟩) (by simp)
  have Oe:i<aI.toArray.size:=by rw[Rl];exact (GK.mp hu).1
  refine W.item i s _ _ Oe ⟨uV,uU,p⟩ fun T vals h' tk Lf hT AE tJ hk=>⟨_,rfl,?_⟩
  refine W.go elts k pos i T { s with heap:=h',toks:=tk } _ _ tJ fun h2 tK vL=>?_
  obtain ⟨tt,x2,Lj,rfl⟩:=Lf
  have ex:x2=u0:=by
   rw[List.getElem?_toArray]at Lj
   exact UE (Lj.symm.trans hu)
  subst ex
  have Fj:T∉[e,it]:=W.apart i T h' tJ
  have tL:h2.IsTuple T #[.int i tt,x2]:=by
   obtain ⟨o,ho,r⟩:=AE
   exact ⟨o,vL T o Fj ho,r⟩
  refine ⟨.ref T,upd H T (.tup [.int i,x]),?_,rfl,⟨T,x,fun ys hy=>by rw[I.pH hy hq];exact hx,rfl,I.bR.fresh hT,rfl⟩,⟨tK.1,tK.2.1⟩,fun b hb=>?_⟩
  ·refine I.nE (t':=tk) (h':=h2) (fun b o hb y=>vL b o hb (hk b o hb y)) hf hT ?_
   exact ⟨by show 2<=sizeLine;decide,[.int i tt,x2], .cons ⟨tt,rfl⟩ (.cons ru .nil),tL⟩
  ·rw[au (fun z:b=T=>Fj (z▸hb))];exact (hf b hb).1
 done:=by
  intro X hP hw hK hc i pins s σ H E I hf st hg
  subst hP hw hK
  obtain ⟨uV,uU⟩:=st
  obtain ⟨xs,hq,hx⟩:=hg
  obtain ⟨aI,rv,p,hz⟩:=I.tuple hq
  have hl:=rv.length
  have D:=lL (prog:=X.prog) (w:=X.w) (A:=X.A.in1) (I.ok.hd hc) it a Li aI.toArray
  have W:=WalksT.enumerateD D e xl (by simp;exact ⟨xl,Ne.symm Lh⟩) (by simp)
  refine W.done s _ _ ?_ fun h' tk hk=>⟨rfl,I.rh (t':=tk) hk hf⟩
  have e1:aI.toArray.size=i:=by rw[Rl];omega
  rw[e1]
  exact ⟨uV,uU,p⟩
 self:=fun _ _ s _ _ st h=>by
  obtain ⟨⟨old,he⟩,_⟩:=st
  exact wpAny_pyIter_enum he h
theorem vP {P:Program} {w:World} {K:PySem.W.Frag} {elts:List Expr} {k:Nat} {pos:Pos} (e it a:Addr) (xl:e≠it) (Lh:a≠e) (Li:a≠it):
  Turn P w K (.Tuple elts k pos) (AI K a) [e,it] e (fun i h=>(∃old,IsEnum h e it i old)/\h.IsListIter it a i) where
 mem:=by simp
 obj:=fun i h st b hb=>by
  obtain ⟨⟨old,he⟩,o,ho,hc,hd⟩:=st
  rcases T3.mp hb with z | z
  ·rw[z];exact ⟨_,he,fun v z=>by cases z⟩
  ·rw[PC.mp z];exact ⟨o,ho,fun v z=>by rw[hd]at z;cases z⟩
 keep:=fun i h h' st kp=>by
  obtain ⟨⟨old,he⟩,o,ho,r⟩:=st
  exact ⟨⟨old,kp e (by simp) _ he⟩,o,kp it (by simp) o ho,r⟩
 item:=by
  intro X hP hw hK hc i pins s σ H E I hf st hg
  subst hP hw hK
  obtain ⟨uV,uU⟩:=st
  obtain ⟨xs,x,hq,hx⟩:=hg
  obtain ⟨aI,rv,p,hz⟩:=I.list hq
  obtain ⟨u0,hu,ru⟩:=rv.get hx
  have D:=Draws.list (prog:=X.prog) (w:=X.w) (A:=X.A.in1) (I.ok.hd hc) it a Li aI.toArray
  have W:=WalksT.enumerateD D e xl (by simp;exact ⟨xl,Ne.symm Lh⟩) (by simp)
  have Oe:i<aI.toArray.size:=by rw[Rl];exact (GK.mp hu).1
  refine W.item i s _ _ Oe ⟨uV,uU,p.isList⟩ fun T vals h' tk Lf hT AE tJ hk=>⟨_,rfl,?_⟩
  refine W.go elts k pos i T { s with heap:=h',toks:=tk } _ _ tJ fun h2 tK vL=>?_
  obtain ⟨tt,x2,Lj,rfl⟩:=Lf
  have ex:x2=u0:=by
   rw[List.getElem?_toArray]at Lj
   exact UE (Lj.symm.trans hu)
  subst ex
  have Fj:T∉[e,it]:=W.apart i T h' tJ
  have tL:h2.IsTuple T #[.int i tt,x2]:=by
   obtain ⟨o,ho,r⟩:=AE
   exact ⟨o,vL T o Fj ho,r⟩
  refine ⟨.ref T,upd H T (.tup [.int i,x]),?_,rfl,⟨T,x,fun ys hy=>by rw[I.sZ hy hq];exact hx,rfl,I.bR.fresh hT,rfl⟩,⟨tK.1,tK.2.1⟩,fun b hb=>?_⟩
  ·refine I.nE (t':=tk) (h':=h2) (fun b o hb y=>vL b o hb (hk b o hb y)) hf hT ?_
   exact ⟨by show 2<=sizeLine;decide,[.int i tt,x2], .cons ⟨tt,rfl⟩ (.cons ru .nil),tL⟩
  ·rw[au (fun z:b=T=>Fj (z▸hb))];exact (hf b hb).1
 done:=by
  intro X hP hw hK hc i pins s σ H E I hf st hg
  subst hP hw hK
  obtain ⟨uV,uU⟩:=st
  obtain ⟨xs,hq,hx⟩:=hg
  obtain ⟨aI,rv,p,hz⟩:=I.list hq
  have hl:=rv.length
  have D:=Draws.list (prog:=X.prog) (w:=X.w) (A:=X.A.in1) (I.ok.hd hc) it a Li aI.toArray
  have W:=WalksT.enumerateD D e xl (by simp;exact ⟨xl,Ne.symm Lh⟩) (by simp)
  refine W.done s _ _ ?_ fun h' tk hk=>⟨rfl,I.rh (t':=tk) hk hf⟩
  have e1:aI.toArray.size=i:=by rw[Rl];omega
  rw[e1]
  exact ⟨uV,uU,p.isList⟩
 self:=fun _ _ s _ _ st h=>by
  obtain ⟨⟨old,he⟩,_⟩:=st
  exact wpAny_pyIter_enum he h
def GZ (K:PySem.W.Frag) (ta:TA):TI:=fun σ H R=>ta σ H fun vs H1=> ∃a,vs=[.ref a]/\(∃xs,cS K H1 a xs)/\R (AH K a) H1
def G0 (K:PySem.W.Frag) (ta:TA):TI:=fun σ H R=>ta σ H fun vs H1=> ∃a,vs=[.ref a]/\(∃xs,bJ K H1 a xs)/\R (AI K a) H1
theorem tP {X:Cx} (K:PySem.W.Frag) (hK:X.K=K) {elts:List Expr} {k:Nat} {pos':Pos} {a:Expr} {ta:TA} {p pos:Pos} (hg:Gl X "enumerate") (hm:X.mg "enumerate"=none) (ha:PA X [a] ta) (hs:starEach [a] X.env=[(false,eval a X.env)]:=by rfl):PI X (.Tuple elts k pos') (.Call (.Name "enumerate" p) [a] [] pos) (GZ K ta):=by
 subst hK
 intro pins s σ H R I h
 refine Call_ (gy I hg hm boot_enumerate (Vi (bZ (ha pos pins s σ H _ I h) fun us s1 ⟨vs,H1,I1,r1,q1⟩=>?_) hs rfl))
 obtain ⟨b,rfl,⟨xs,hq⟩,q⟩:=q1
 obtain ⟨u,rfl,ru⟩:=vals1 r1
 cases ru
 obtain ⟨aI,rv,pl,hz⟩:=I1.tuple hq
 obtain ⟨ob,eb,_⟩:=id pl
 have dk:b<s1.heap.objs.size:=UD eb
 refine vN pl fun h' he hit hk=>wpAny_pyIter_enum he ?_
 refine ⟨s1.heap.objs.size+1,[s1.heap.objs.size+1,s1.heap.objs.size],_,_,H1,rfl,I1.kept (t':=s1.toks) hk,vO _ _ b (WL _) (UJ (V0 dk)) (UJ dk),⟨⟨_,he⟩,hit⟩,fun c hb=>?_,q⟩
 have mI:s1.heap.objs.size<=c:=by
  rcases T3.mp hb with z | z
  ·rw[z];exact VR _
  ·rw[PC.mp z];exact Mq _
 exact I1.oV mI (I1.bR.fresh mI)
theorem AJ {X:Cx} (K:PySem.W.Frag) (hK:X.K=K) {elts:List Expr} {k:Nat} {pos':Pos} {a:Expr} {ta:TA} {p pos:Pos} (hg:Gl X "enumerate") (hm:X.mg "enumerate"=none) (ha:PA X [a] ta) (hs:starEach [a] X.env=[(false,eval a X.env)]:=by rfl):PI X (.Tuple elts k pos') (.Call (.Name "enumerate" p) [a] [] pos) (G0 K ta):=by
 subst hK
 intro pins s σ H R I h
 refine Call_ (gy I hg hm boot_enumerate (Vi (bZ (ha pos pins s σ H _ I h) fun us s1 ⟨vs,H1,I1,r1,q1⟩=>?_) hs rfl))
 obtain ⟨b,rfl,⟨xs,hq⟩,q⟩:=q1
 obtain ⟨u,rfl,ru⟩:=vals1 r1
 cases ru
 obtain ⟨aI,rv,pl,hz⟩:=I1.list hq
 obtain ⟨ob,eb,_⟩:=id pl.isList
 have dk:b<s1.heap.objs.size:=UD eb
 refine call_enumerate_list pl.isList fun h' he hit hsz hk=>wpAny_pyIter_enum he ?_
 refine ⟨s1.heap.objs.size+1,[s1.heap.objs.size+1,s1.heap.objs.size],_,_,H1,rfl,I1.kept (t':=s1.toks) hk,vP _ _ b (WL _) (UJ (V0 dk)) (UJ dk),⟨⟨_,he⟩,hit⟩,fun c hb=>?_,q⟩
 have mI:s1.heap.objs.size<=c:=by
  rcases T3.mp hb with z | z
  ·rw[z];exact VR _
  ·rw[PC.mp z];exact Mq _
 exact I1.oV mI (I1.bR.fresh mI)
theorem p8 {K:PySem.W.Frag} {a:Addr} {xs:List V} {g:TG} {tb:TS} {D:Ends} {σ:St} {H:Hp} (Pv:Nat->St->Hp->Prop) (h0:Pv 0 σ H) (hl: ∀i σ H,i<=xs.length->Pv i σ H->cS K H a xs)
  (hs: ∀i x σ H T,xs[i]? =some x->Pv i σ H->H T=none->g (.ref T) σ (upd H T (.tup [.int i,x])) fun σ2 H2=>tb { D with nx:=Pv (i+1),ct:=Pv (i+1),bk:=D.nx } σ2 H2) (hd: ∀σ H,Pv xs.length σ H->D.nx σ H):
  ∃W:Nat->Nat->St->Hp->Prop,(∃m,W 0 m σ H)/\ ∀i m σ H,W i m σ H->
   ((AH K a).stop i H/\D.nx σ H)\/((AH K a).go i H/\ ∃N:St->Hp->Prop,(∀σ' H',N σ' H'-> ∃m',m'<m/\W (i+1) m' σ' H')/\ ∀x H',(AH K a).Ac i H x H'->g x σ H' fun σ2 H2=>tb { D with nx:=N,ct:=N,bk:=D.nx } σ2 H2):=by
 refine ⟨fun i m σ H=>m=xs.length - i/\i<=xs.length/\Pv i σ H,⟨xs.length,by simp,T6 _,h0⟩,?_⟩
 rintro i m σ H ⟨rfl,hi,p⟩
 have hq:=hl i σ H hi p
 by_cases dk:i<xs.length
 ·refine .inr ⟨⟨xs,xs[i],hq,by simp[dk]⟩,Pv (i+1),fun σ' H' p'=>⟨xs.length - (i+1),by omega,rfl,dk,p'⟩,fun x H' y=>?_⟩
  obtain ⟨T,z,hz,rfl,hn,rfl⟩:=y
  exact hs i z σ _ T (hz xs hq) p hn
 ·have e:i=xs.length:=by omega
  subst e
  exact .inl ⟨⟨xs,hq,rfl⟩,hd σ H p⟩
theorem yX {K:PySem.W.Frag} {a:Addr} {xs:List V} {g:TG} {tb:TS} {D:Ends} {σ:St} {H:Hp} (Pv:Nat->St->Hp->Prop) (h0:Pv 0 σ H) (hl: ∀i σ H,i<=xs.length->Pv i σ H->bJ K H a xs)
  (hs: ∀i x σ H T,xs[i]? =some x->Pv i σ H->H T=none->g (.ref T) σ (upd H T (.tup [.int i,x])) fun σ2 H2=>tb { D with nx:=Pv (i+1),ct:=Pv (i+1),bk:=D.nx } σ2 H2) (hd: ∀σ H,Pv xs.length σ H->D.nx σ H):
  ∃W:Nat->Nat->St->Hp->Prop,(∃m,W 0 m σ H)/\ ∀i m σ H,W i m σ H->
   ((AI K a).stop i H/\D.nx σ H)\/((AI K a).go i H/\ ∃N:St->Hp->Prop,(∀σ' H',N σ' H'-> ∃m',m'<m/\W (i+1) m' σ' H')/\ ∀x H',(AI K a).Ac i H x H'->g x σ H' fun σ2 H2=>tb { D with nx:=N,ct:=N,bk:=D.nx } σ2 H2):=by
 refine ⟨fun i m σ H=>m=xs.length - i/\i<=xs.length/\Pv i σ H,⟨xs.length,by simp,T6 _,h0⟩,?_⟩
 rintro i m σ H ⟨rfl,hi,p⟩
 have hq:=hl i σ H hi p
 by_cases dk:i<xs.length
 ·refine .inr ⟨⟨xs,xs[i],hq,by simp[dk]⟩,Pv (i+1),fun σ' H' p'=>⟨xs.length - (i+1),by omega,rfl,dk,p'⟩,fun x H' y=>?_⟩
  obtain ⟨T,z,hz,rfl,hn,rfl⟩:=y
  exact hs i z σ _ T (hz xs hq) p hn
 ·have e:i=xs.length:=by omega
  subst e
  exact .inl ⟨⟨xs,hq,rfl⟩,hd σ H p⟩
section
variable {X:Cx}
end
section
variable {X:Cx}
def G1 (K:PySem.W.Frag):List V->Hp->VK->Prop:=fun xs H Q=> ∃p ys,xs=[.ref p]/\((bJ K H p ys/\ ∀l,H l=none->Q (.ref l) (upd H l (.tup ys)))\/(cS K H p ys/\Q (.ref p) H))
theorem fu (K:PySem.W.Frag) (h:X.K=K):dH X (.type "tuple") (G1 K):=by subst h;exact oX
end
theorem tQ {K:PySem.W.Frag} {a:Addr} {xs:List V} {σc:St} {g:TG} {tc:TT} {te:TE} {Q:VK} {H1:Hp} (Pv:Nat->List V->Hp->Prop) (hn:xs.length<sizeLine) (hl: ∀i acc H,Pv i acc H->cS K H a xs) (h0:Pv 0 [] H1)
  (hs: ∀(i:Nat) (x:V) (acc:List V) (H:Hp) (Nx:List V->Hp->Prop),i<xs.length->xs[i]? =some x->acc.length<=i->Pv i acc H->(∀dQ H',dQ.length<=i+1->Pv (i+1) dQ H'->Nx dQ H')->
   g x σc H fun σ2 H2=>Wk σc σ2/\tc σ2 H2 fun b H3=>if b=true then te σ2 H3 fun v H4=>Nx (acc++[v]) H4 else Nx acc H3)
  (hd: ∀acc H D,acc.length<=xs.length->Pv xs.length acc H->H D=none->Q (.ref D) (upd H D (.lst acc))):pV (NB K a) σc g tc te Q H1:=
 mG (xs:=fun i x=>xs[i]? =some x) Pv hn (fun i acc H h p=>⟨xs,xs[i],hl i acc H p,by simp[h]⟩) (fun acc H p=>⟨xs,hl _ acc H p,Mq _⟩) (fun i acc H x H' h p y=>⟨y.1,y.2 xs (hl i acc H p)⟩) h0 hs hd
def du (H H':Hp):Prop:= ∀c xs,H c=some (.tup xs)->H' c=some (.tup xs)
theorem du.trans {H H1 H2:Hp} (a:du H H1) (b:du H1 H2):du H H2:=fun c xs h=>b c xs (a c xs h)
theorem du.of {H H':Hp} (s:ay H H'):du H H':=fun c xs h=>s c _ h
theorem du.DI {H:Hp} {p:Addr} {ys:List V} {o:HO} (h:H p=some (.lst ys)):du H (upd H p o):=fun c xs e=>by
 rw[au (fun z=>by rw[z,h]at e;cases e)];exact e
section
variable {prog:Program} {w:World} {A:Around} {E:Value->Shared->Prop} {s:Shared}
end
section
variable {X:Cx}
end
section
variable {prog:Program} {w:World} {A:Around} {E:Value->Shared->Prop} {s:Shared}
noncomputable def bp:List Int->List Int->Bool
 | [],[]=>false
 | [],_::_=>true
 | _::_,[]=>false
 | a::r,b::t=>if a=b then bp r t else decide (a<b)
end
section
variable {X:Cx}
end
end L2
namespace HT
open PySem PySem.Spec PyProof.Rows
section
variable {prog:Program} {w:World} {A:Around} {E:Value->Shared->Prop} {s:Shared}
end
end HT
namespace L2
open PySem PySem.Spec PyProof.Rows
section
variable {X:Cx} {e st:Expr} {te:TE} {ts:TO} {pos p2:Pos}
end
section
variable {κ:Type} [DecidableEq κ]
noncomputable def cV (aK:List (κ×V)) (k:κ):Option V:=(aK.find? fun kv=>decide (kv.1=k)).map (·.2)
noncomputable def putK (aK:List (κ×V)) (k:κ) (v:V):List (κ×V):=
 if (aK.any fun kv=>decide (kv.1=k))=true then aK.map (fun kv=>if kv.1=k then (kv.1,v) else kv) else aK++[(k,v)]
theorem cu {p:κ×V} {r:List (κ×V)} {k:κ} (e:p.1=k):cV (p::r) k=some p.2:=by simp[cV,VM,e]
theorem b7 {p:κ×V} {r:List (κ×V)} {k:κ} (e: ¬p.1=k):cV (p::r) k=cV r k:=by simp[cV,VM,e]
theorem ig (k:κ): ∀aK:List (κ×V),(aK.any fun kv=>decide (kv.1=k))=(cV aK k).isSome
 | []=>rfl
 | p::r=>by
  rw[VX]
  by_cases e:p.1=k
  ·simp only[cu e,decide_eq_true e,Bool.true_or,Option.isSome_some]
  ·rw[b7 e,decide_eq_false e,Xi];exact ig k r
theorem tR (k j:κ) (y:V): ∀aK:List (κ×V),cV (aK.map fun kv=>if kv.1=k then (kv.1,y) else kv) j=(cV aK j).map fun x=>if j=k then y else x
 | []=>rfl
 | p::r=>by
  have ih:=tR k j y r
  rw[UK]
  by_cases h:p.1=k
  ·rw[if_pos h]
   by_cases e:p.1=j
   ·rw[cu (p:=(p.1,y)) e,cu e,WY,if_pos (e.symm.trans h)]
   ·rw[b7 (p:=(p.1,y)) e,b7 e,ih]
  ·rw[if_neg h]
   by_cases e:p.1=j
   ·rw[cu (p:=p) e,cu e,WY,if_neg (fun z=>h (e.trans z))]
   ·rw[b7 (p:=p) e,b7 e,ih]
theorem p9 (k j:κ) (y:V): ∀aK:List (κ×V),cV aK k=none->cV (aK++[(k,y)]) j=if j=k then some y else cV aK j
 | [],_=>by
  by_cases e:k=j
  ·rw[if_pos e.symm];exact cu (p:=(k,y)) e
  ·rw[if_neg (fun z=>e z.symm)];exact b7 (p:=(k,y)) e
 | p::r,hn=>by
  rw[List.cons_append]
  have hk: ¬p.1=k:=fun z=>by rw[cu z]at hn;cases hn
  rw[b7 hk]at hn
  have ih:=p9 k j y r hn
  by_cases e:p.1=j
  ·rw[cu e,cu e,if_neg (fun z=>hk (e.trans z))]
  ·rw[b7 e,b7 e,ih]
theorem AK (aK:List (κ×V)) (k j:κ) (y:V):cV (putK aK k y) j=if j=k then some y else cV aK j:=by
 unfold putK
 by_cases a:(aK.any fun kv=>decide (kv.1=k))=true
 ·rw[if_pos a,tR]
  rw[ig]at a
  by_cases e:j=k
  ·obtain ⟨x,hx⟩:=Option.isSome_iff_exists.mp a
   rw[if_pos e,e,hx,WY,if_pos rfl]
  ·rw[if_neg e]
   cases cV aK j with
   | none=>rfl
   | some x=>rw[WY,if_neg e]
 ·rw[if_neg a]
  refine p9 k j y aK ?_
  rw[ig]at a
  cases q:cV aK k with
  | none=>rfl
  | some x=>rw[q]at a;exact (a rfl).elim
theorem fK (aK:List (κ×V)) (k:κ) (v:V):(putK aK k v).length<=aK.length+1:=by
 unfold putK
 split
 ·rw[Py];omega
 ·rw[Rk,U1,List.length_nil];omega
theorem tT {aK:List (κ×V)} {k:κ} (v:V) (h:cV aK k=none):putK aK k v=aK++[(k,v)]:=by
 unfold putK
 rw[ig,h]
 exact if_neg (by decide)
theorem kB.yY {o:Option V} {u:Option Value} (r:kB o u):o.isSome=u.isSome:=by
 cases o with
 | none=>cases u with
  | none=>rfl
  | some _=>exact (show False from r).elim
 | some _=>cases u with
  | none=>exact (show False from r).elim
  | some _=>rfl
theorem KV.val {aK:List (κ×V)} {vs:List (κ×Value)} (r:KV aK vs) (k:κ):kB (cV aK k) (valueAt vs k):=by
 unfold KV at r
 induction r with
 | nil=>exact True.intro
 | @cons p q ps qs h t ih=>
  obtain ⟨h1,h2⟩:=h
  by_cases e:p.1=k
  ·have e':q.1=k:=h1.symm.trans e
   have b:valueAt (q::qs) k=some q.2:=by simp[valueAt,VM,e']
   rw[cu e,b];exact h2
  ·have e': ¬q.1=k:=fun z=>e (h1.trans z)
   have b:valueAt (q::qs) k=valueAt qs k:=by simp[valueAt,VM,e']
   rw[b7 e,b];exact ih
theorem KV.any {aK:List (κ×V)} {vs:List (κ×Value)} (r:KV aK vs) (k:κ):(aK.any fun kv=>decide (kv.1=k))=vs.any fun kv=>decide (kv.1=k):=by
 unfold KV at r
 induction r with
 | nil=>rfl
 | cons h t ih=>rw[VX,VX,ih,h.1]
theorem KV.G2 {aK:List (κ×V)} {vs:List (κ×Value)} (r:KV aK vs) (k:κ) {y:V} {u:Value} (ry:RelV y u):
  KV (aK.map fun kv=>if kv.1=k then (kv.1,y) else kv) (vs.map fun kv=>if kv.1=k then (kv.1,u) else kv):=by
 unfold KV at r ⊢
 induction r with
 | nil=>exact .nil
 | @cons p q ps qs h t ih=>
  rw[UK,UK]
  refine .cons ?_ ih
  obtain ⟨h1,h2⟩:=h
  by_cases e:p.1=k
  ·rw[if_pos e,if_pos (h1.symm.trans e)];exact ⟨h1,ry⟩
  ·rw[if_neg e,if_neg (fun z=>e (h1.trans z))];exact ⟨h1,h2⟩
theorem KV.put {aK:List (κ×V)} {vs:List (κ×Value)} (r:KV aK vs) (k:κ) {y:V} {u:Value} (ry:RelV y u):KV (putK aK k y) (stored vs k u):=by
 unfold putK stored
 rw[r.any k]
 by_cases e:(vs.any fun kv=>decide (kv.1=k))=true
 ·rw[if_pos e,if_pos e];exact r.G2 k ry
 ·rw[if_neg e,if_neg e];exact Paired.snoc r ⟨rfl,ry⟩
theorem KV.length {aK:List (κ×V)} {vs:List (κ×Value)} (r:KV aK vs):aK.length=vs.length:=Paired.length r
end
theorem AL {P:Program} {w:World} {k:Key} {u:Value} (r:RelV (kV k) u):(b9 P w).is k u=true:=by
 cases k with
 | inl i=>obtain ⟨t,e⟩:=(show ∃t,u=Value.int i t from r);subst e;exact sU P w i t
 | inr x=>obtain ⟨t,e⟩:=(show ∃t,u=Value.str x t from r);subst e;exact sV P w x t
theorem p_ {P:Program} {w:World}: ∀{ks:List Key} {us:List Value},Vals (ks.map kV) us->ItemsAre (b9 P w) ks us
 | [],_,r=>by rw[List.map_nil]at r;cases r;exact .nil
 | k::ks,_,r=>by
  rw[UK]at r
  cases r with
  | cons h t=>exact .cons (AL h) (p_ t)
abbrev KT (H:Hp):List (List Key×V)->List (List Key×Addr×Value)->Prop:=Paired fun p q=>p.1=q.1/\H q.2.1=some (.tup (p.1.map kV))/\RelV p.2 q.2.2
theorem KT.val {H:Hp} {aK:List (List Key×V)} {xs:List (List Key×Addr×Value)} (r:KT H aK xs) (k:List Key):kB (cV aK k) ((atKey xs k).map (·.2)):=by
 induction r with
 | nil=>exact True.intro
 | @cons p q ps qs h t ih=>
  obtain ⟨h1,_,h2⟩:=h
  by_cases e:p.1=k
  ·have e':q.1=k:=h1.symm.trans e
   have b:atKey (q::qs) k=some q.2:=by simp[atKey,VM,e']
   rw[cu e,b];exact h2
  ·have e': ¬q.1=k:=fun z=>e (h1.trans z)
   have b:atKey (q::qs) k=atKey qs k:=by simp[atKey,VM,e']
   rw[b7 e,b];exact ih
theorem KT.G2 {H:Hp} {aK:List (List Key×V)} {xs:List (List Key×Addr×Value)} (r:KT H aK xs) (k:List Key) {y:V} {u:Value} (ry:RelV y u):
  KT H (aK.map fun kv=>if kv.1=k then (kv.1,y) else kv) (xs.map (putAt k u)):=by
 induction r with
 | nil=>exact .nil
 | @cons p q ps qs h t ih=>
  rw[UK,UK]
  refine .cons ?_ ih
  obtain ⟨h1,h2,h3⟩:=h
  unfold putAt
  by_cases e:p.1=k
  ·rw[if_pos e,if_pos (h1.symm.trans e)];exact ⟨h1,h2,ry⟩
  ·rw[if_neg e,if_neg (fun z=>e (h1.trans z))];exact ⟨h1,h2,h3⟩
theorem KT.put {H:Hp} {aK:List (List Key×V)} {xs:List (List Key×Addr×Value)} (r:KT H aK xs) (k:List Key) {b:Addr} {y:V} {u:Value} (hb:H b=some (.tup (k.map kV))) (ry:RelV y u):
  KT H (putK aK k y) (storedH xs k b u):=by
 have e:(aK.any fun kv=>decide (kv.1=k))=(atKey xs k).isSome:=by
  rw[ig,(r.val k).yY,Option.isSome_map]
 unfold putK storedH
 rw[e]
 by_cases q:(atKey xs k).isSome=true
 ·rw[if_pos q,if_pos q];exact r.G2 k ry
 ·rw[if_neg q,if_neg q];exact Paired.snoc r ⟨rfl,hb,ry⟩
theorem KT.keeps {H H':Hp} {aK:List (List Key×V)} {xs:List (List Key×Addr×Value)} (r:KT H aK xs) (ht: ∀b ys,H b=some (.tup ys)->H' b=some (.tup ys)):KT H' aK xs:=
 Paired.FV r fun _ _ z=>⟨z.1,ht _ _ z.2.1,z.2.2⟩
section
variable {P:Program} {w:World} {H:Hp} {h:Heap} {a:Addr}
theorem Fl {u:HO} (ok:jl P w H h) (e:Rd H a u):cD P w H h a u:=e.ok ok
theorem AM {aK:List (Key×V)} (ok:jl P w H h) (e:Rd H a (.dK aK)):aK.length<=sizeLine/\(a==sysModules)=false/\ ∃vs,KV aK vs/\h.DictOf (b9 P w) a vs:=
 show cD P w H h a (.dK aK) from Fl ok e
theorem Lk {aK:List (Key×V)} (ok:jl P w H h) (e:H a=some (.dK aK)):aK.length<=sizeLine/\(a==sysModules)=false/\ ∃vs,KV aK vs/\h.DictOf (b9 P w) a vs:=AM ok (.inl e)
theorem vQ {ks:List Key} (ok:jl P w H h) (e:H a=some (.tup (ks.map kV))):(tupleKind (b9 P w)).is h ks a:=by
 obtain ⟨_,aI,r,o,h1,h2,n,h3⟩:=(show cD P w H h a (.tup (ks.map kV)) from ok a _ e)
 exact ⟨o,aI.toArray,n,h1,h2,h3,by simpa using p_ r⟩
theorem AN {aK:List (List Key×V)} (ok:jl P w H h) (e:Rd H a (.dT aK)):aK.length<=sizeLine/\(a==sysModules)=false/\
  ∃xs,KT H aK xs/\h.DictOfH (tupleKind (b9 P w)) a xs:=by
 obtain ⟨z,y,xs,r,o,es,ep,h1,h2,h3,h4,h5⟩:=(show cD P w H h a (.dT aK) from Fl ok e)
 refine ⟨z,y,xs,r,o,es,ep,h1,h2,h3,h4,fun x hx=>?_,h5⟩
 have all: ∀{l:List (List Key×V)} {m:List (List Key×Addr×Value)},KT H l m-> ∀x∈m,(tupleKind (b9 P w)).is h x.1 x.2.1:=by
  intro l m q
  induction q with
  | nil=>intro x hx;exact nomatch hx
  | @cons p q ps qs hq t ih=>
   intro x hx
   rcases T3.mp hx with e | hx
   ·subst e
    exact vQ ok (by rw[<-hq.1];exact hq.2.1)
   ·exact ih x hx
 exact all r x hx
theorem Ll {aK:List (List Key×V)} (ok:jl P w H h) (e:H a=some (.dT aK)):aK.length<=sizeLine/\(a==sysModules)=false/\
  ∃xs,KT H aK xs/\h.DictOfH (tupleKind (b9 P w)) a xs:=AN ok (.inl e)
end
def nF (H:Hp) (a:Addr) (y:V) (r:Option V):Prop:=
 (∃aK k,Rd H a (.dK aK)/\y=kV k/\r=cV aK k)\/ ∃aK k b,Rd H a (.dT aK)/\y= .ref b/\H b=some (.tup (k.map kV))/\r=cV aK k
def rk (H:Hp) (a:Addr) (y v:V) (H':Hp):Prop:=
 (∃aK k,H a=some (.dK aK)/\y=kV k/\aK.length<sizeLine/\H'=upd H a (.dK (putK aK k v)))\/
 ∃aK k b,H a=some (.dT aK)/\y= .ref b/\H b=some (.tup (k.map kV))/\aK.length<sizeLine/\H'=upd H a (.dT (putK aK k v))
theorem nF.k {H:Hp} {a:Addr} {aK:List (Key×V)} {k:Key} (e:H a=some (.dK aK)):nF H a (kV k) (cV aK k):= .inl ⟨aK,k, .inl e,rfl,rfl⟩
theorem nF.t {H:Hp} {a b:Addr} {aK:List (List Key×V)} {k:List Key} (e:H a=some (.dT aK)) (eb:H b=some (.tup (k.map kV))):nF H a (.ref b) (cV aK k):= .inr ⟨aK,k,b, .inl e,rfl,eb,rfl⟩
theorem rk.k {H:Hp} {a:Addr} {aK:List (Key×V)} {k:Key} {v:V} (e:H a=some (.dK aK)) (hl:aK.length<sizeLine):rk H a (kV k) v (upd H a (.dK (putK aK k v))):= .inl ⟨aK,k,e,rfl,hl,rfl⟩
theorem rk.t {H:Hp} {a b:Addr} {aK:List (List Key×V)} {k:List Key} {v:V} (e:H a=some (.dT aK)) (eb:H b=some (.tup (k.map kV))) (hl:aK.length<sizeLine):
  rk H a (.ref b) v (upd H a (.dT (putK aK k v))):= .inr ⟨aK,k,b,e,rfl,eb,hl,rfl⟩
section
variable {X:Cx} {pins:List (Addr×Obj)} {σ:St} {H:Hp} {s:Shared} {a:Addr} {y v:V} {u r:Value} {o:Option V} {A:Around} {E:Value->Shared->Prop}
theorem Inv.big (I:Inv X pins σ H s):sysModules<s.heap.objs.size:=by
 have h:mainGlobals<s.heap.objs.size:=(I.mod.glob.keeps I.bk).lt
 exact V6 (by decide) h
theorem yZ {Q:Value->Shared->Prop} (hu:A.units+1<cLine) (I:Inv X pins σ H s) (g:nF H a y (some v)) (ry:RelV y u) (h: ∀w' s',Inv X pins σ H s'->RelV v w'->Q w' s'):
  wpAny (model X.prog X.w) A (getItem (.ref a) u) Q E s:=by
 rcases g with ⟨aK,k,e,ey,l⟩ | ⟨aK,k,b,e,ey,eb,l⟩
 ·subst ey
  obtain ⟨z,hd,vs,rel,dd⟩:=AM I.bR e
  obtain ⟨w',hw,qR⟩:=kB.some_of (v:=v) (o:=valueAt vs k) (by rw[l];exact rel.val k)
  exact wpAny_getItem_of (AL ry) dd.mapOf hw (h w' _ (I.tok _) qR)
 ·subst ey
  cases (show u=Value.ref b from ry)
  obtain ⟨z,hd,xs,rel,dd⟩:=AN I.bR e
  obtain ⟨w',hw,qR⟩:=kB.some_of (v:=v) (o:=(atKey xs k).map (·.2)) (by rw[l];exact rel.val k)
  obtain ⟨p,hp,xn⟩:=Option.map_eq_some_iff.mp hw
  refine wpAny_getItem_heap (tupleKind_room_in1 hu) (vQ I.bR eb) dd hp ?_
  rw[xn]
  exact h w' _ (I.tok _) qR
theorem xo {h':Heap} {t':Nat} {ob:HO} (I:Inv X pins σ H s) (mu:J3 (H a)) (hs:Heap.SameBut a s.heap h') (he: ∃q,h'.get? a=some q) (new:cD X.prog X.w (upd H a ob) h' a ob):
  Inv X pins σ (upd H a ob) { s with heap:=h',toks:=t' }:=
 I.write (x:=a) (e:=a) mu (.inl rfl) (fun b q hb z=>(hs.2 b hb).trans z) he new
theorem G3 {P:Program} {w:World} {H':Hp} {h':Heap} {aK:List (Key×V)} {vs:List (Key×Value)} (z:aK.length<=sizeLine) (hd:(a==sysModules)=false) (rel:KV aK vs) (dd:h'.DictOf (b9 P w) a vs):
  cD P w H' h' a (.dK aK):=⟨z,hd,vs,rel,dd⟩
theorem y0 {H':Hp} {Q:Unit->Shared->Prop} (hu:A.units+1<cLine) (I:Inv X pins σ H s) (g:rk H a y v H') (ry:RelV y u) (rv:RelV v r) (h: ∀s',Inv X pins σ H' s'->Q () s'):
  wpAny (model X.prog X.w) A (setItem (.ref a) u r) Q E s:=by
 rcases g with ⟨aK,k,e,ey,l,eH⟩ | ⟨aK,k,b,e,ey,eb,l,eH⟩
 ·subst ey eH
  obtain ⟨z,hd,vs,rel,dd⟩:=Lk I.bR e
  have hz:vs.length<=sizeLine:=by rw[<-rel.length];exact z
  have hl:(putK aK k v).length<=sizeLine:=by have:=fK aK k v;omega
  refine wpAny_setItem_pairs (hsz:=hz) (AL ry) dd fun h' Mr hs=>h _ ?_
  have he: ∃q,h'.get? a=some q:=let ⟨q,_,_,hq,_⟩:=Mr;⟨q,hq⟩
  exact xo I (by rw[e];exact True.intro) hs he (G3 hl hd (rel.put k rv) Mr)
 ·subst ey eH
  cases (show u=Value.ref b from ry)
  obtain ⟨z,hd,xs,rel,dd⟩:=Ll I.bR e
  have hz:xs.length<=sizeLine:=by rw[<-Paired.length rel];exact z
  have hl:(putK aK k v).length<=sizeLine:=by have:=fK aK k v;omega
  refine wpAny_setItem_heap (hsz:=hz) (tupleKind_room_in1 hu) (vQ I.bR eb) dd fun h' Mr hs=>h _ ?_
  obtain ⟨q,es,ep,hq,h2,h3,h4,_,h5⟩:=Mr
  refine xo I (by rw[e];exact True.intro) hs ⟨q,hq⟩ ⟨hl,hd,_,(rel.put k eb rv).keeps fun c ys ec=>?_,q,es,ep,hq,h2,h3,h4,h5⟩
  rw[au (J2 ec e (fun z=>nomatch z))]
  exact ec
end
section
variable {X:Cx} {pins:List (Addr×Obj)} {σ:St} {H:Hp} {s:Shared} {a:Addr} {aK:List (Key×V)} {k:Key} {u:Value} {A:Around} {E:Value->Shared->Prop}
end
def Lm (i:Expr):Prop:= ∀ov iv,subscripted i false ov iv=operate [ov,iv] (getItem ov iv)
theorem DJ {prog:Program} {w:World} {A:Around} {E:Value->Shared->Prop} {s:Shared} {env:Env} {value slice:Expr} {pos:Pos} {T id:String} {Q:Value->Shared->Prop}
  (hl:typeLookup (.type T) "__getitem__"=pure (some (.builtin id))) (hs:Lm slice)
  (h:wpAny (model prog w) A (eval value env) (fun o s₁=>wpAny (model prog w) A (eval slice env) (fun i s₂=>s₂.TypeIs o T/\wpAny (model prog w) A (getItem o i) Q E s₂) E s₁) E s):
  wpAny (model prog w) A (eval (.Subscript value slice pos) env) Q E s:=by
 refine Subscript_ (wpAny_mono h (fun o s₁ h₁=>wpAny_mono h₁ (fun i s₂ h₂=>?_) fun _ _ x=>x) fun _ _ x=>x)
 obtain ⟨hT,h₂⟩:=h₂
 unfold subscriptTail
 refine wpAny_bind ?_
 rw[getitemInPython_of_ne hT.not_modules]
 refine wpAny_bind (wpAny_specialOf hT hl ?_)
 have fin:wpAny (model prog w) A (subscripted slice false o i) (fun r s₃=>wpAny (model prog w) A (letTemporaryGo value o r >>= fun _=>pure r) Q E s₃) E s₂:=by
  rw[hs o i]
  exact wpAny_operating (wpAny_mono h₂ (fun r s₃ h₃=>wpAny_bind (wpAny_letTemporaryGo (wpAny_pure h₃))) fun _ _ x=>x)
 first
  | exact wpAny_pure (wpAny_bind fin)
  | exact wpAny_bind (wpAny_pure (wpAny_bind fin))
  | exact wpAny_bind fin
theorem tU {X:Cx} {pins:List (Addr×Obj)} {σ:St} {H:Hp} {s:Shared} {a:Addr} {y:V} {o:Option V} (I:Inv X pins σ H s) (g:nF H a y o):s.TypeIs (.ref a) "dict":=by
 rcases g with ⟨aK,k,e,_,_⟩ | ⟨aK,k,b,e,_,_,_⟩
 ·obtain ⟨_,_,vs,_,dd⟩:=AM I.bR e
  exact dd.typeIs
 ·obtain ⟨_,_,xs,_,dd⟩:=AN I.bR e
  exact dd.typeIs
def Ln (td ty:TE):TE:=fun σ H Q=>td σ H fun x H1=>ty σ H1 fun y H2=> ∃a v,x= .ref a/\nF H2 a y (some v)/\Q v H2
def Lo (td ty tv:TE):TS:=fun D σ H=>tv σ H fun v H1=>td σ H1 fun x H2=>ty σ H2 fun y H3=> ∃a H4,x= .ref a/\rk H3 a y v H4/\D.nx σ H4
section
variable {X:Cx} {o i e value:Expr} {pos pos' Kv:Pos} {td ty tv:TE}
theorem mJ (hu:X.A.units+1<cLine) (ho:PE X o td) (hi:PE X i ty) (hs:Lm i):PE X (.Subscript o i pos) (Ln td ty):=by
 intro pins s σ H Q I h
 refine DJ PySem.F.slot_dict_getitem.lookup hs (bZ (ho pins s σ H _ I h) fun u s1 ⟨x,H1,I1,rx,q1⟩=>bZ (hi pins s1 σ H1 _ I1 q1) fun iv s2 ⟨y,H2,I2,ry,a,v,ex,g,q2⟩=>?_)
 subst ex
 obtain rfl:u=Value.ref a:=rx
 exact ⟨tU I2 g,yZ hu I2 g ry fun w' s3 I3 qR=>⟨v,H2,I3,qR,q2⟩⟩
theorem rm (hu:X.A.units+1<cLine) (ho:PE X o td) (hi:PE X i ty) (hv:PE X value tv) (hs:swapsWith value (some (.Subscript o i pos')) pos.line X.env=pure false):
  PS X (.Assign [.Subscript o i pos'] value pos) (Lo td ty tv):=by
 intro pins s σ H D I h
 refine wpAny_Assign_Subscript (bZ (hv pins s σ H _ I h) fun r s1 ⟨v,H1,I1,rv,q1⟩=>bZ (ho pins s1 σ H1 _ I1 q1) fun u s2 ⟨x,H2,I2,rx,q2⟩=>bZ (hi pins s2 σ H2 _ I2 q2) fun iv s3 ⟨y,H3,I3,ry,a,H4,ex,g,q3⟩=>?_) hs
 subst ex
 obtain rfl:u=Value.ref a:=rx
 exact y0 hu I3 g ry rv fun s4 I4=>⟨σ,H4,I4,q3⟩
end
theorem AO {P:Program} {w:World} {H:Hp} (h:Heap) (hb:sysModules<h.objs.size):cD P w H (h.push { cls:= .type "dict",data:= .dict #[] }) h.objs.size (.dK []):=
 ⟨T6 _,beq_eq_false_iff_ne.mpr (Ne.symm (UJ hb)),[], .nil,Heap.DictOf.new h⟩
theorem AQ {P:Program} {w:World} {H:Hp} (h:Heap) (hb:sysModules<h.objs.size):cD P w H (h.push { cls:= .type "dict",data:= .dict #[] }) h.objs.size (.dT []):=
 ⟨T6 _,beq_eq_false_iff_ne.mpr (Ne.symm (UJ hb)),[], .nil,_, #[],0,UG _ rfl,⟨rfl,rfl,rfl⟩,rfl,rfl,W7⟩
def G4:TE:=fun _ H Q=> ∀p,H p=none->Q (.ref p) (upd H p (.dK []))
def G5:TE:=fun _ H Q=> ∀p,H p=none->Q (.ref p) (upd H p (.dT []))
section
variable {X:Cx} {pos:Pos}
theorem AR:PE X (.Dict [] [] pos) G4:=fun pins s σ H Q I h=>
 wpAny_Dict_empty ⟨.ref s.heap.objs.size,_,I.laid (a:=s.heap.objs.size) (o:= .dK []) (t':=s.toks) (fun _ _ q=>Pz _ q) (Mq _) (AO s.heap I.big),rfl,h _ (I.bR.fresh (Mq _))⟩
theorem AS:PE X (.Dict [] [] pos) G5:=fun pins s σ H Q I h=>
 wpAny_Dict_empty ⟨.ref s.heap.objs.size,_,I.laid (a:=s.heap.objs.size) (o:= .dT []) (t':=s.toks) (fun _ _ q=>Pz _ q) (Mq _) (AQ s.heap I.big),rfl,h _ (I.bR.fresh (Mq _))⟩
end
section
variable {X:Cx} {pins:List (Addr×Obj)} {σ:St} {H:Hp} {s:Shared} {a:Addr} {y d:V} {u r:Value} {o:Option V} {A:Around} {E:Value->Shared->Prop}
end
section
variable {X:Cx} {o e f:Expr} {apos gZ:Pos} {td ty tx:TE}
end
section
variable {X:Cx} {pins:List (Addr×Obj)} {σ:St} {H:Hp} {s:Shared} {a:Addr} {aK:List (Key×V)} {A:Around} {E:Value->Shared->Prop}
end
section
variable {X:Cx} {pins:List (Addr×Obj)} {σ:St} {H:Hp} {s:Shared} {a:Addr} {y:V} {u:Value} {A:Around} {E:Value->Shared->Prop}
end
section
variable {prog:Program} {w:World} {A:Around} {E:Value->Shared->Prop} {s:Shared}
end
section
variable {X:Cx}
end
end L2
set_option maxHeartbeats 1000000
namespace L2
open PySem PySem.Spec PyProof.Rows
section
variable {prog:Program} {w:World} {KK:Type} [DecidableEq KK] {knd:KeyKind prog w KK}
end
section
variable {X:Cx}
end
end L2
set_option maxHeartbeats 1000000
namespace L2.F2
open PySem PySem.Spec PyProof.Rows
end L2.F2
namespace L2
open PySem PySem.Spec PyProof.Rows
section
variable {prog:Program} {w:World} {A:Around} {E:Value->Shared->Prop} {s:Shared}
end
section
variable {X:Cx}
end
end L2
set_option maxHeartbeats 1000000
namespace L2
open PySem PySem.Spec PyProof.Rows
section
variable {prog:Program} {w:World} {A:Around} {E:Value->Shared->Prop} {s:Shared}
end
section
variable {X:Cx}
end
end L2
set_option maxHeartbeats 2000000
namespace L2
open PySem PySem.Spec PyProof.Rows
noncomputable def CY (a b c d:Int):Bool:=if a=c then decide (b<d) else decide (a<c)
section
variable {prog:Program} {w:World} {A:Around} {E:Value->Shared->Prop} {s:Shared}
theorem DK {p q:Addr} {ox oy:Obj} {mx my:Nat} {a b c d:Int} {t1 t2 t3 t4:Tok} {P:PySem.Fin->Shared->Prop} (Ms:s.heap.get? p=some ox) (Of:ox.data= .seq #[.int a t1, .int b t2] mx)
  (Lp:s.heap.get? q=some oy) (DL:oy.cls= .type "tuple") (Og:oy.data= .seq #[.int c t3, .int d t4] my) (h:P (.done (.ret (.bool (CY a b c d)))) s):
  wpAny (model prog w) A (Builtin.«tuple.__lt__» ⟨[.ref p, .ref q],[]⟩) P E s:=by
 have hT:s.TypeIs (.ref q) "tuple":=⟨oy,Lp,DL⟩
 show wpAny _ _ (isInstance (.ref q) (.type "tuple") >>= fun b=>_) _ _ s
 refine wpAny_bind (wpAny_isInstance (b:=true) hT isSubtype_tuple_tuple ?_)
 simp only[Xh,VV,if_false]
 refine wpAny_bind (wpAny_tupleItemsOf Ms Of ?_)
 refine wpAny_bind (wpAny_tupleItemsOf Lp Og ?_)
 refine wpAny_bind ?_
 show wpAny _ _ (forIn [(Value.int a t1,Value.int c t3),(Value.int b t2,Value.int d t4)] _ _) _ _ _
 rw[Wu]
 refine wpAny_bind (wpAny_bind (wpAny_eqBool_int ?_))
 unfold CY at h
 by_cases e:a=c
 ·rw[if_pos e]at h
  rw[show (a==c)=true by simp[e]]
  simp only[Xh,VV,if_false]
  refine wpAny_pure ?_
  dsimp only
  rw[Wu]
  refine wpAny_bind (wpAny_bind (wpAny_eqBool_int ?_))
  by_cases e2:b=d
  ·rw[show (b==d)=true by simp[e2]]
   simp only[Xh,VV,if_false]
   refine wpAny_pure ?_
   dsimp only
   rw[List.forIn_nil]
   refine wpAny_pure ?_
   dsimp only
   refine wpAny_pure ?_
   rw[decide_eq_false (by omega)]at h
   exact h
  ·rw[show (b==d)=false by simp[e2]]
   simp only[XC,if_true]
   refine wpAny_bind (wpAny_rule ?_)
   refine wpAny_bind (lt_int ?_)
   refine wpAny_bind (wpAny_pure ?_)
   refine wpAny_pure ?_
   dsimp only
   refine wpAny_pure ?_
   dsimp only
   exact wpAny_pure h
 ·rw[if_neg e]at h
  rw[show (a==c)=false by simp[e]]
  simp only[XC,if_true]
  refine wpAny_bind (wpAny_rule ?_)
  refine wpAny_bind (lt_int ?_)
  refine wpAny_bind (wpAny_pure ?_)
  refine wpAny_pure ?_
  dsimp only
  refine wpAny_pure ?_
  dsimp only
  exact wpAny_pure h
end
section
variable {X:Cx}
def Oh (K:PySem.W.Frag):R2:=fun x y H Q=> ∃p q a b c d,x= .ref p/\y= .ref q/\cS K H p [.int a, .int b]/\cS K H q [.int c, .int d]/\Q (.bl (CY a b c d)) H
theorem tV {a b:Int} {us:List Value} (r:Vals [.int a, .int b] us): ∃t u,us=[.int a t, .int b u]:=by
 cases r with
 | cons r1 r=>
  cases r with
  | cons r2 r=>
   cases r
   obtain ⟨t,rfl⟩:=r1
   obtain ⟨u,rfl⟩:=r2
   exact ⟨t,u,rfl⟩
theorem G6 {k:Nat} (K:PySem.W.Frag) (h:X.K=K) (hr:eI k X.A):i6 X (compareOp .Lt) (Oh K):=by
 subst h
 intro pins s σ H x y v u Q I rx ry h
 obtain ⟨p,q,a,b,c,d,rfl,rfl,hp,hq,r⟩:=h
 cases rx
 cases ry
 obtain ⟨xs,Rx,px,_⟩:=I.tuple hp
 obtain ⟨ys,Ry,py,_⟩:=I.tuple hq
 obtain ⟨ox,Ms,Oa,mx,Of⟩:=px
 obtain ⟨oy,Lp,DL,my,Og⟩:=py
 obtain ⟨t1,t2,rfl⟩:=tV Rx
 obtain ⟨t3,t4,rfl⟩:=tV Ry
 have hu:=hr.units
 show wpAny _ _ (richCompare .Lt (.ref p) (.ref q)) _ _ s
 have hT:s.TypeIs (.ref p) "tuple":=⟨ox,Ms,Oa⟩
 refine wpAny_richCompare_same_room hT ⟨oy,Lp,DL⟩ PySem.F.slot_tuple_lt (wpAny_call_entry PySem.F.slot_tuple_lt hT PySem.F.entry_tuple_lt (DK Ms Of Lp DL Og ⟨_,rfl,(fun z=>nomatch z),?_⟩) (PySem.F.args_tuple_lt_2 _ _)) (by omega)
 exact ⟨.bl _,H,I,rfl,r⟩
end
section
variable {prog:Program} {w:World} {A:Around} {E:Value->Shared->Prop} {s:Shared}
end
section
variable {prog:Program} {w:World} {A:Around} {E:Value->Shared->Prop} {s:Shared}
end
section
variable {X:Cx}
end
section
variable {prog:Program} {w:World} {A:Around} {E:Value->Shared->Prop} {s:Shared}
end
section
variable {X:Cx}
end
section
variable {X:Cx}
end
section
variable {X:Cx} {st:Stmt} {rest:List Stmt} {t u:TS}
def Lq (t u:TS):TS:=fun D σ H=> ∃P:St->Hp->Prop,t { D with nx:=P } σ H/\ ∀σ' H',P σ' H'->u D σ' H'
theorem gD (h1:PS X st t) (h2:u_ X rest u):u_ X (st::rest) (Lq t u):=by
 intro pins s σ H D I h
 obtain ⟨P,h,g⟩:=h
 refine wpAny_execs_cons (bZ (h1 pins s σ H _ I h) fun f s1 q=>?_)
 cases f with
 | ret v=>exact q
 | brk=>exact q
 | cont=>exact q
 | next=>
  obtain ⟨τ,G,J,p⟩:=q
  exact h2 pins s1 τ G D J (g τ G p)
end
section
variable {X:Cx}
end
section
variable {X:Cx}
end
section
variable {prog:Program} {w:World} {A:Around} {E:Value->Shared->Prop} {s:Shared}
section
variable {z TI TO i1 i2:Addr} {f1 f2:List Addr} {n1 n2 i:Nat} {P1 P2:Nat->Value->Prop} {S1 S2:Nat->Heap->Prop} {a b:Value}
end
end
section
variable {X:Cx} {elts:List Expr} {k:Nat} {pos':Pos} {a b:Expr} {ta:TA} {p pos:Pos}
end
section
variable {X:Cx}
end
end L2
namespace L2
open PySem PySem.Spec PyProof.Rows PySem.MeetsSeq PySem.SeqAt
section
variable {X:Cx}
end
end L2
set_option maxHeartbeats 4000000
namespace XL
open PySem PySem.Spec PySem.Calls PyProof.Rows PySem.W Builtin Builtin.ObjectAttr
section
variable {prog:Program} {w:World} {A:Around} {E:Value->Shared->Prop} {h:Heap} {g:Array GenState} {d:Drawn} {t:Nat} {os:OsState} {K:Frag} {C:Addr}
variable {x:Addr} {mA:Str->Option Value} {name:Str} {v:Value}
end
end XL
set_option maxHeartbeats 4000000
namespace XL
open PySem PySem.Spec PySem.Calls PyProof.Rows PySem.W Builtin Builtin.ObjectAttr
section
variable {prog:Program} {w:World} {A:Around} {E:Value->Shared->Prop} {h:Heap} {g:Array GenState} {d:Drawn} {t:Nat} {os:OsState} {K:Frag} {C x:Addr}
end
end XL
set_option maxHeartbeats 4000000
namespace XL
open PySem PySem.Spec PySem.Calls PyProof.Rows PySem.W
section
variable {M:Model} {A:Around} {E:Value->Shared->Prop} {s:Shared} {base:Heap} {env:Env} {outer:List Env} {L e C:Addr} {dO:Option Addr}
end
end XL
set_option maxHeartbeats 4000000
namespace L2
open PySem PySem.Spec PyProof.Rows XL
section
variable {P:Program} {w:World} {H H' H1 H2:Hp} {h h' h0 h1 h2:Heap} {a e:Addr} {o:HO} {fs ex S:List Addr}
end
section
variable {P:Program} {w:World} {K:PySem.W.Frag} {mg:Str->Option Value} {base:Heap} {N:List Str} {qual:Str} {scope:Scope} {f:Addr} {cd:Value} {A:Around} {outer:List Env} {s:Shared} {H:Hp} {E:XK}
end
end L2
set_option maxHeartbeats 4000000
namespace L2
open PySem PySem.Spec PyProof.Rows XL
section
variable {X:Cx} {pins:List (Addr×Obj)} {σ:St} {H:Hp} {s:Shared} {a:Addr} {o:HO}
end
section
variable {X:Cx} {CX:yK} {k:Nat} {f C:Addr} {fd:FuncData} {ps:List Str} {sp:Sp} {dvs:List V} {ds:List Value} {E:St->XK} {x:Str} {p pos:Pos} {e:Expr} {es:List Expr} {ta te:TE} {t:TA}
end
section
variable {P:Program} {w:World} {K:PySem.W.Frag} {mg:Str->Option Value} {base:Heap}
end
end L2
set_option maxHeartbeats 4000000
namespace L2
open PySem PySem.Spec PyProof.Rows XL
section
variable {X:Cx} {k:Nat} {f C M:Addr} {fd:FuncData} {ps:List Str} {sp:Sp} {x:Str} {p pos apos:Pos} {e:Expr} {es:List Expr} {ta te tv:TE} {t:TA} {pins:List (Addr×Obj)} {σ:St} {H:Hp} {s:Shared}
end
end L2
set_option maxHeartbeats 4000000
namespace L2
open PySem PySem.Spec PyProof.Rows XL
section
variable {X:Cx} {pins pn:List (Addr×Obj)} {σ:St} {H:Hp} {s:Shared} {W:Value->Shared->Prop} {ev:Value}
end
section
variable {X:Cx} {M:Addr} {n:Nat} {mx nm:Str} {body PN:List Stmt} {b₀:Stmt} {tb:(St->XK)->TS} {th:TS} {pos nG mp:Pos} {pins:List (Addr×Obj)} {σ:St} {H:Hp} {s:Shared} {D:Ends}
end
end L2
set_option maxHeartbeats 4000000
namespace L2
open PySem PySem.Spec PyProof.Rows XL
noncomputable def PQ (s:Stmt) (j:Nat):Stmt:=match s with
 | .ClassDef _ _ _ b _ _ _ _ _ _ _=>b.getD j (.Pass ⟨0,0,0,0⟩)
 | _=> .Pass ⟨0,0,0,0⟩
end L2
set_option maxHeartbeats 4000000
namespace L2
open PySem PySem.Spec PyProof.Rows XL
def Lr (_ j:Int):Prop:=0<j/\j<18446744073709551616
theorem bV {X:Cx}:i6 X (binaryOp .FloorDiv) (rI Lr fun i j=> .int (i / j)):=Mm fun i j _ _ _ _ _ hc q=>by
 have h1:(0:Int)<j:=hc.1
 have h2:j<18446744073709551616:=hc.2
 have h3:j.natAbs<2 ^ 64:=by omega
 exact floordiv_int (by omega) (by rw[Int.fdiv_eq_ediv_of_nonneg i (by omega)];exact q) (.inl (PyProof.noPylong_of_log2 (V6 ((Nat.log2_lt (by omega)).mpr h3) (by decide))))
end L2
namespace PySem
end PySem
namespace L2
open PySem PySem.Spec PyProof.Rows
section
variable {P:Program} {w:World} {K:PySem.W.Frag} {mg:Str->Option Value} {base:Heap}
end
section
variable {X:Cx}
end
section
variable {X:Cx}
end
end L2
set_option maxHeartbeats 1000000
namespace L2.F3
open PySem PySem.Spec PyProof.Rows
end L2.F3
namespace L2
open PySem PySem.Spec PyProof.Rows
section
variable {prog:Program} {w:World} {A:Around} {E:Value->Shared->Prop} {s:Shared}
end
section
variable {X:Cx}
end
section
variable {P:Program} {w:World} {K:PySem.W.Frag} {mg:Str->Option Value} {base:Heap}
end
section
variable {X:Cx}
noncomputable def dg (n:Nat):List Nat:=((toString (n:Int):String):Str).cps.toList
theorem Oi (n:Nat):((toString (n:Int):String):Str)=S (dg n):=K6 _
theorem y6 {n:Nat} (h:n<2 ^ 60):((n:Int)).natAbs.log2<1920:=by
 rw[Int.natAbs_natCast]
 by_cases z:n=0
 ·subst z;decide
 ·exact (Nat.log2_lt z).mpr (UN h (Nat.pow_le_pow_right (by decide) (by decide)))
theorem y7:dH X (.type "str") (fun xs H Q=> ∃n:Nat,xs=[.int n]/\n<2 ^ 60/\Q (.str (S (dg n))) H):=by
 intro pins s σ H xs us Q I r h
 obtain ⟨n,rfl,hz,q⟩:=h
 refine qT pins s σ H _ us Q I r ⟨n,rfl,y6 hz,?_⟩
 rw[Oi]
 exact q
end
section
variable {X:Cx} {elts:List Expr} {k:Nat} {pos':Pos} {a b:Expr} {ta:TA} {p pos:Pos}
end
end L2
set_option maxHeartbeats 1000000
namespace L2
open PySem PySem.Spec PyProof.Rows
theorem tW:typeLookup (.type "dict") "__len__"=pure (some (.builtin "dict.__len__")):=PySem.F.slot_dict_len.lookup
section
variable {prog:Program} {w:World} {A:Around} {E:Value->Shared->Prop} {s:Shared} {KK:Type} [DecidableEq KK] {knd:PySem.KeyKind prog w KK}
theorem rq {Q:List Value->Shared->Prop} (hh:A.handled=none) (d:Addr) (aK:List (KK×Value)) (ep:Nat) (hd:(d==sysModules)=false) (hm:s.heap.DictAt knd d aK ep) (hn:aK.length<=sizeLine)
  (hQ: ∀s' acc,(∀b o,s.heap.get? b=some o->s'.heap.get? b=some o)->s'.gens=s.gens->s'.drawn=s.drawn->s'.os=s.os->ItemsOf (fun i v=> ∃k x,aK[i]? =some (k,x)/\knd.is k v=true) acc aK.length->Q acc.toList s'):
  wpAny (model prog w) A (collect (.ref d)) Q E s:=by
 have hT:s.TypeIs (.ref d) "dict":=hm.dictOf.typeIs
 obtain ⟨od,Ls,Rz⟩:=id hT
 have Lu:=UD Ls
 unfold collect
 refine wpAny_bind (wpAny_runValue (codeAny_builtin PySem.F.entry_proto_collect ?_))
 rw[Around.under_plainId PySem.F.plain_proto_collect _]
 show wpAny _ A.in1 (newList [] >>= fun l=>again (.builtin "list.__iadd__" ⟨[l, .ref d],[]⟩)) _ _ s
 refine wpAny_bind (wpAny_newObj_type ?_)
 refine wpAny_pure ⟨plainId_quiet PySem.F.plain_list_iadd _,codeAny_builtin PySem.F.entry_list_iadd ?_⟩
 rw[Around.under_plainId PySem.F.plain_list_iadd _]
 show wpAny _ A.in1 (Builtin.List.listExtendWith (.ref s.heap.objs.size) (.ref d) (.ref s.heap.objs.size)) _ _ _
 generalize hH:s.heap.push { cls:= .type "list",data:= .seq ([]:List Value).toArray }=H
 have Oj:H.objs.size=s.heap.objs.size+1:=by rw[<-hH,Ws]
 have Lv:H.DictAt knd d aK ep:=hm.at' fun o e=>by rw[<-hH];exact Pz _ e
 have RA:Shared.TypeIs { s with heap:=H } (.ref d) "dict":=Lv.dictOf.typeIs
 have Ol:s.heap.objs.size≠d:=We Lu
 unfold Builtin.List.listExtendWith
 refine wpAny_bind (wpAny_typeOf RA ?_)
 have h1:Builtin.List.listSameRef (.ref s.heap.objs.size) (.ref d)=false:=by simp[Builtin.List.listSameRef,Ol]
 rw[if_neg (by rw[h1];decide)]
 refine wpAny_bind (wpAny_pyIter_dict (s:={ s with heap:=H }) hd Lv ?_)
 show wpAny _ A.in1 _ _ _ { s with heap:=H.push { cls:= .type "dict_keyiterator",data:= .fields #[.ref d, .int 0 0, .int aK.length 0, .int ep 0] } }
 generalize Fd:H.push { cls:= .type "dict_keyiterator",data:= .fields #[.ref d, .int 0 0, .int aK.length 0, .int ep 0] }=H2
 have DM:H2.DictAt knd d aK ep:=Lv.at' fun o e=>by rw[<-Fd];exact Pz _ e
 have Om:Shared.TypeIs { s with heap:=H2 } (.ref d) "dict":=DM.dictOf.typeIs
 refine wpAny_bind (wpAny_holding ?_)
 unfold Builtin.List.listLengthHint
 refine wpAny_bind (wpAny_specialOf Om tW ?_)
 wp_delta
 refine wpAny_bind (wpAny_isInstance (T:="dict") (b:=true) Om (by rw[isSubtype_type];kernel_rfl) ?_)
 show wpAny _ A.in1 (typeOf (Value.ref d) >>= _) _ _ _
 refine wpAny_bind (wpAny_typeOf Om ?_)
 refine wpAny_pure ?_
 rw[if_pos (by decide+kernel)]
 refine wpAny_bind (wpAny_rule ?_)
 refine wpAny_bind ?_
 unfold Builtin.List.listTouch
 have hS:H2.get? s.heap.objs.size=some { cls:= .type "list",data:= .seq ([]:List Value).toArray }:=by
  rw[<-Fd];exact Pz _ (by rw[<-hH];exact UG _ rfl)
 refine wpAny_bind (wpAny_updateSeq hS rfl ?_ (T6 _) (VF (T6 _)))
 have PR:=Vu (Obj.mapSeq (fun l:Array Value=>l.push .none)) hS rfl
 refine wpAny_updateSeq PR rfl ?_ (by show 1<=sizeLine;decide) (T6 _)
 have RB:=Vu (Obj.mapSeq (fun l:Array Value=>l.pop)) PR rfl
 have Oo: ∀b o,b≠s.heap.objs.size->H2.get? b=some o->((H2.update s.heap.objs.size (Obj.mapSeq (fun l:Array Value=>l.push .none))).update s.heap.objs.size (Obj.mapSeq (fun l:Array Value=>l.pop))).get? b=some o:=fun b o hb e=>
  (U9 _ _ (Ne.symm hb)).trans ((U9 _ _ (Ne.symm hb)).trans e)
 have hit:H2.get? H.objs.size=some { cls:= .type "dict_keyiterator",data:= .fields #[.ref d, .int 0 0, .int aK.length 0, .int ep 0] }:=by rw[<-Fd];exact UG _ rfl
 have PU:H.objs.size≠s.heap.objs.size:=by rw[Oj];exact WL _
 have RC:d≠H.objs.size:=by rw[Oj];exact UJ (V0 Lu)
 have RD:s.heap.objs.size∉[H.objs.size,d]:=fun RE=>by
  rcases T3.mp RE with z | z
  ·exact PU z.symm
  ·exact Ol (PC.mp z)
 refine wpAny_pure ⟨plainId_quiet PySem.F.plain_extend_loop _,codeAny_extend_loopS (Walks.dictKeys (knd:=knd) (A:=A.in1) hh H.objs.size d RC aK ep).toS hn _ RD _ aK.length 0 _ _ _ rfl (T6 _)
  ⟨⟨_,Oo _ _ PU hit,rfl,rfl⟩,DM.at' fun o e=>Oo d o (Ne.symm Ol) e⟩ RB (ItemsOf.nil _) fun s' dQ c' Mt RF vC=>?_⟩
 show wpAny _ A (load s.heap.objs.size >>= _) _ _ s'
 refine wpAny_bind (wpAny_load RF ?_)
 refine wpAny_pure (hQ s' dQ (fun b ob e=>Mt.heap b ob (fun hb=>?_) (Oo b ob (UJ (UD e)) (by rw[<-Fd];exact Pz _ (by rw[<-hH];exact Pz _ e)))) Mt.gens Mt.drawn Mt.os vC)
 have dk:=UD e
 rcases T3.mp hb with h | h
 ·exact absurd dk (h▸U_ _)
 ·rw[PC.mp h,Oj]at dk;exact absurd dk (Nat.not_lt.mpr (VR _))
end
section
variable {X:Cx}
theorem xp {aK:List (Key×V)} {vs:List (Key×Value)} (h:KV aK vs):vs.map (·.1)=aK.map (·.1):=by
 induction h with
 | nil=>rfl
 | cons r _ ih=>rw[UK,UK,ih,r.1]
end
section
variable {X:Cx}
end
end L2
set_option maxHeartbeats 4000000
namespace XL
open PySem PySem.Spec PySem.Calls PyProof.Rows PySem.W
section
variable {M:Model} {A:Around} {E:Value->Shared->Prop} {s:Shared} {base:Heap} {env RG:Env} {outer:List Env} {L e C:Addr} {dO:Option Addr}
end
end XL
set_option maxHeartbeats 4000000
namespace L2
open PySem PySem.Spec PyProof.Rows XL
section
variable {P:Program} {w:World} {K:PySem.W.Frag} {mg:Str->Option Value} {base:Heap} {N:List Str} {qual:Str} {scope:Scope} {f:Addr} {cd:Value} {A:Around} {outer:List Env} {s:Shared} {H:Hp} {E:XK}
end
section
variable {X:Cx} {scope:Scope} {C:Addr} {Nc:List Str} {s0:Shared} {H0:Hp} {fp:List Addr} {pn pins:List (Addr×Obj)} {xe:Value->Shared->Prop} {σ:St} {H:Hp} {s:Shared}
end
end L2
set_option maxHeartbeats 1000000
namespace L2
open PySem PySem.Spec PyProof.Rows
section
variable {X:Cx}
end
section
variable {X:Cx}
end
end L2
namespace PySem
open Sem (wp)
section
variable {prog:Program} {w:World} {K:Type} [DecidableEq K] (knd:KeyKind prog w K)
variable {knd}
variable {A:Around} {E:Value->Shared->Prop} {s:Shared}
end
end PySem
namespace PySem
open Sem (wp)
namespace F
end F
section
variable {prog:Program} {w:World} {A:Around} {E:Value->Shared->Prop} {s:Shared}
end
section
variable {prog:Program} {w:World} {K:Type} [DecidableEq K] {knd:HeapKind prog w K} {A:Around} {E:Value->Shared->Prop} {s:Shared}
end
end PySem
namespace L2
open PySem PySem.Spec PyProof.Rows
section
variable {X:Cx} {o i:Expr} {pos:Pos} {td ty:TE}
end
end L2
namespace L2.F2
open PySem PySem.Spec PyProof.Rows
end L2.F2
namespace L2
open PySem PySem.Spec PyProof.Rows
section
variable {prog:Program} {w:World} {A:Around} {E:Value->Shared->Prop} {s:Shared}
end
section
variable {X:Cx} {tg:Expr}
end
end L2
set_option maxHeartbeats 1000000
namespace L2
open PySem PySem.Spec PyProof.Rows
section
variable {X:Cx}
theorem AU {i:Nat} (h:(i:Int)<2 ^ 63):Builtin.List.listFitsIndex (i:Int)=true:=by
 unfold Builtin.List.listFitsIndex
 rw[Ve]
 exact ⟨decide_eq_true (by omega),decide_eq_true (by omega)⟩
def DN:V->List V->Hp->VK->Prop:=fun x vs H Q=> ∃(l:Addr) (xs:List V) (i:Nat) (y:V),x= .ref l/\vs=[.int i,y]/\H l=some (.lst xs)/\i<=xs.length/\xs.length<sizeLine/\Q .fq (upd H l (.lst (xs.take i++y::xs.drop i)))
theorem y8:KQ X "list.insert" DN:=by
 intro pins s σ H x vs v us Q I rx rv h
 obtain ⟨l,xs,i,y,rfl,rfl,hH,hi,hz,q⟩:=h
 cases rx
 obtain ⟨a,b,rfl,⟨t,rfl⟩,rb⟩:=vals2 rv
 obtain ⟨z,aI,n,r,hl,e⟩:=I.vx hH
 have hn:=ft
 have hf: ¬(!Builtin.List.listFitsIndex (i:Int))=true:=by rw[AU (by omega)];decide
 have hsz:aI.toArray.size<=sizeLine:=by rw[Rl];omega
 generalize hI:(i:Int)=I' at hf
 have hm:=PySem.AutoSeq1.list_insert_list_int_val_1 l aI.toArray n I' t b hf hsz
 refine call_meets F.slot_list_insert ⟨_,e,rfl⟩ F.entry_list_insert (F.args_list_insert_3 _ _ _) hm ⟨e,?_⟩
 clear hm
 refine ⟨.fq,_,I.Ao (its':=aI.take i++b::aI.drop i) hH e ?_ ?_ ?_,rfl,q⟩
 ·have e1:(if I'<0 then (I'+(aI.toArray.size:Int)).toNat else min I'.toNat aI.toArray.size)=i:=by rw[<-hI,if_neg (by omega),PB,Rl];omega
  show ((aI.toArray.extract 0 (if I'<0 then (I'+(aI.toArray.size:Int)).toNat else min I'.toNat aI.toArray.size)).push b++aI.toArray.extract (if I'<0 then (I'+(aI.toArray.size:Int)).toNat else min I'.toNat aI.toArray.size))=_
  rw[e1]
  apply WQ.mp
  simp
  exact UR (by rw[US];exact Mq _)
 ·have h1:Vals (xs.take i) (aI.take i):=r.take i
  exact h1.append (.cons rb (r.drop i))
 ·rw[Rk,U1,UB,US];omega
end
end L2
namespace L2
open PySem PySem.Spec PyProof.Rows PySem.W
section
section
variable {lt:Nat->Nat->Bool} {n:Nat}
end
end
section
variable {prog:Program} {w:World} {A:Around} {E:Value->Shared->Prop} {s:Shared}
end
section
variable {X:Cx}
end
section
variable {X:Cx} {tg:Expr}
end
section
variable {X:Cx} {tg:Expr}
end
end L2
namespace L2
open PySem PySem.Spec PyProof.Rows PySem.MeetsSeq PySem.SeqAt
section
variable {X:Cx}
end
section
variable {prog:Program} {w:World} {A:Around} {E:Value->Shared->Prop} {s:Shared}
variable {z TI TO i1 i2:Addr} {f1 f2:List Addr} {n1 n2 i:Nat} {P1 P2:Nat->Value->Prop} {S1 S2:Nat->Heap->Prop} {a b:Value}
end
section
variable {X:Cx} {nx:Str} {pos':Pos} {a b:Expr} {ta:TA} {p pos:Pos}
end
end L2
namespace L2
open PySem PySem.Spec PyProof.Rows HT
section
variable {prog:Program} {w:World} {A:Around} {E:Value->Shared->Prop} {s:Shared}
end
section
variable {X:Cx}
end
section
variable {X:Cx} {o i e value tg:Expr} {pos pos' Kv:Pos} {td ty tv:TE} (K:PySem.W.Frag) (P:Program) (w:World)
end
section
variable {X:Cx}
end
section
variable {X:Cx}
end
section
variable {X:Cx} {tg:Expr}
end
end L2
set_option maxHeartbeats 1000000
namespace L2
open PySem PySem.Spec PyProof.Rows
section
variable {prog:Program} {w:World} {A:Around} {E:Value->Shared->Prop} {s:Shared}
end
section
variable {X:Cx} {a b:Expr} {ta:TA} {p p2 pos RH:Pos}
end
end L2
set_option maxHeartbeats 1000000
namespace L2
open PySem PySem.Spec PyProof.Rows
section
variable {prog:Program} {w:World} {A:Around} {E:Value->Shared->Prop} {s:Shared} {κ:KeyKind} {a₀:Array Keyed}
end
section
variable {prog:Program} {w:World} {A:Around} {E:Value->Shared->Prop} {s:Shared} {κ:KeyKind} {a₀:Array Keyed}
end
end L2
set_option maxHeartbeats 1000000
namespace L2
open PySem PySem.Spec PyProof.Rows
section
variable {prog:Program} {w:World} {A:Around} {E:Value->Shared->Prop} {s:Shared} {κ:KeyKind} {a₀:Array Keyed}
end
section
variable {prog:Program} {w:World} {A:Around} {E:Value->Shared->Prop} {s:Shared} {κ:KeyKind} {a₀:Array Keyed}
end
end L2
set_option maxHeartbeats 1000000
namespace L2
open PySem PySem.Spec PyProof.Rows
section
variable {prog:Program} {w:World} {A:Around} {E:Value->Shared->Prop} {s:Shared}
end
section
variable {X:Cx}
end
end L2
set_option maxHeartbeats 1000000
namespace L2
open PySem PySem.Spec PyProof.Rows
section
variable {X:Cx}
end
end L2
set_option maxHeartbeats 1000000
namespace L2
open PySem PySem.Spec PyProof.Rows
section
variable {prog:Program} {w:World} {A:Around} {E:Value->Shared->Prop} {s:Shared} {kd:SortKind} {lt:Keyed->Keyed->Bool} {a₀:Array Keyed}
end
end L2
set_option maxHeartbeats 1000000
namespace L2
open PySem PySem.Spec PyProof.Rows
section
variable {lt:Keyed->Keyed->Bool}
variable {a b out:Array Keyed} {ia ib k:Nat} {p q:Keyed}
end
section
variable {prog:Program} {w:World} {A:Around} {E:Value->Shared->Prop} {s:Shared} {kd:SortKind} {lt:Keyed->Keyed->Bool} {a₀:Array Keyed}
end
end L2
set_option maxHeartbeats 1000000
namespace L2
open PySem PySem.Spec PyProof.Rows
section
variable {lt:Keyed->Keyed->Bool}
variable {a b out:Array Keyed} {na nb k:Nat} {p q:Keyed}
end
section
variable {prog:Program} {w:World} {A:Around} {E:Value->Shared->Prop} {s:Shared} {kd:SortKind} {lt:Keyed->Keyed->Bool} {a₀:Array Keyed}
end
end L2
set_option maxHeartbeats 1000000
namespace L2
open PySem PySem.Spec PyProof.Rows
section
variable {lt:Keyed->Keyed->Bool}
end
section
variable {prog:Program} {w:World} {A:Around} {E:Value->Shared->Prop} {s:Shared} {kd:SortKind} {lt:Keyed->Keyed->Bool} {a₀:Array Keyed}
end
section
variable {prog:Program} {w:World} {A:Around} {E:Value->Shared->Prop} {s:Shared} {kd:SortKind} {lt:Keyed->Keyed->Bool} {a₀:Array Keyed}
end
end L2
set_option maxHeartbeats 1000000
namespace L2
open PySem PySem.Spec PyProof.Rows
section
variable {prog:Program} {w:World} {A:Around} {E:Value->Shared->Prop} {s:Shared} {kd:SortKind} {lt:Keyed->Keyed->Bool} {a₀:Array Keyed}
end
end L2
set_option maxHeartbeats 1000000
namespace L2
open PySem PySem.Spec PyProof.Rows
theorem rA: ∀a b c:List Int,bp b a=false->bp c b=false->bp c a=false
 | [],[],[],_,_=>rfl
 | [],[],_::_,_,h=>h
 | [],_::_,[],_,_=>rfl
 | [],_::_,_::_,_,_=>rfl
 | _::_,[],_,h,_=>by cases h
 | _::_,_::_,[],_,h=>by cases h
 | x::a,y::b,z::c,h,g=>by
  have h':(if y=x then bp b a else decide (y<x))=false:=h
  have g':(if z=y then bp c b else decide (z<y))=false:=g
  show (if z=x then bp c a else decide (z<x))=false
  by_cases e1:y=x
  ·rw[if_pos e1]at h'
   by_cases e2:z=y
   ·rw[if_pos e2]at g'
    rw[if_pos (e2.trans e1)]
    exact rA a b c h' g'
   ·rw[if_neg e2]at g'
    rw[if_neg fun w=>e2 (w.trans e1.symm), <-e1]
    exact g'
  ·rw[if_neg e1]at h'
   have q1:=of_decide_eq_false h'
   by_cases e2:z=y
   ·rw[if_neg fun w=>e1 (e2.symm.trans w),e2];exact h'
   ·rw[if_neg e2]at g'
    have q2:=of_decide_eq_false g'
    rw[if_neg (by omega)]
    exact decide_eq_false (by omega)
section
variable {prog:Program} {w:World} {A:Around} {E:Value->Shared->Prop} {s:Shared}
end
section
variable {X:Cx}
end
section
variable {X:Cx} {e st:Expr} {te:TE} {ts:TO} {pos p2:Pos}
theorem y9 (l:List Nat) (t tk:Tok):sliceMade (S l) t none none (some (-1,tk))= .str (S l.reverse):=by
 unfold sliceMade
 rw[if_neg (by simp)]
 have e:slicePicked (S l) none none (some (-1,tk))=(List.range (S l).cps.size).reverse:=by
  rw[<-PySem.W.krv_range, <-PySem.W.krv_sliceRange]
  rfl
 rw[e,List.filterMap_reverse,PySem.W.krv_all,dP]
 rfl
def Lw (te:TE) (ts:TO):TE:=fun σ H Q=>te σ H fun x H1=>ts σ H1 fun o H2=>o=some (-1)/\ ∃l,x= .str (S l)/\l.length<=sizeLine/\Q (.str (S l.reverse)) H2
theorem DO (he:PE X e te) (hs:PO X (some st) ts):PE X (.Subscript e (.Slice none none (some st) p2) pos) (Lw te ts):=by
 intro pins s σ H Q I h
 refine Subscript_ (bZ (he pins s σ H _ I h) fun v s1 ⟨x,H1,I1,r1,q1⟩=>?_)
 refine wpAny_Slice ?_
 rw[evalPart_none]
 refine wpAny_pure (wpAny_pure (bZ (hs pins s1 σ H1 _ I1 q1) fun vk s3 ⟨o,H3,I3,pk,eo,l,ex,hz,q3⟩=>?_))
 subst eo ex
 obtain ⟨t,rfl⟩:=r1
 cases pk with
 | int i tk=>
 have I4:Inv X pins σ H3 { s3 with heap:=s3.heap.push { cls:= .type "slice",data:= .fields #[.none, .none, .int (-1) tk] } }:=I3.kept (t':=s3.toks) fun b ob q=>Pz _ q
 show wpAny (model X.prog X.w) X.A (subscriptTail e (.Slice none none (some st) p2) (.str (S l) t) (.ref s3.heap.objs.size)) (EP X pins σ Q) X.xe { s3 with heap:=s3.heap.push { cls:= .type "slice",data:= .fields #[.none, .none, .int (-1) tk] } }
 refine tail_any (ops:=[.str (S l) t, .ref s3.heap.objs.size]) (typeIs_str _ _ _) F.slot_str_getitem.lookup (wpAny_getItem_str_slice (l:=none) (u:=none) (st:=some (-1,tk)) ⟨_,UG _ rfl,rfl,rfl⟩ rfl ?_) (by with_unfolding_all rfl)
 rw[y9]
 refine ⟨by rw[cP,UY];exact hz,?_⟩
 exact ⟨.str (S l.reverse),H3,I4.tok _,⟨_,rfl⟩,q3⟩
end
end L2
namespace PySem
open PySem.Spec PyProof.Rows
section
variable {M:Model} {A:Around} {E:Value->Shared->Prop} {s₀ s:Shared} {m cm:Str->Option Value} {env:Env}
end
end PySem
namespace L2
open PySem PySem.Spec PyProof.Rows
section
variable {P:Program} {w:World} {K:PySem.W.Frag} {mg:Str->Option Value} {base:Heap}
end
section
variable {X:Cx} {n:Nat} {p:Value->Shared->Prop}
end
section
variable {X:Cx}
end
section
variable {X:Cx}
end
section
variable {X:Cx}
end
section
variable {X:Cx}
end
section
variable {X:Cx}
end
end L2
set_option maxHeartbeats 1000000
namespace L2
open PySem PySem.Spec PyProof.Rows
section
variable {prog:Program} {w:World} {A:Around} {E:Value->Shared->Prop} {s:Shared}
end
section
variable {X:Cx}
end
section
variable {X:Cx}
end
section
variable {X:Cx}
end
section
variable {X:Cx}
end
end L2
set_option maxHeartbeats 4000000
namespace L2
open PySem PySem.Spec PyProof.Rows
section
variable {X:Cx} {K:PySem.W.Frag} {CX:yK} {k1 k2:Nat} {f1 f2:Addr} {PV PX:FuncData} {PY PZ:List Str} {Mu Mv:Sp} {E:XK} {x f:Str} {p pos pos':Pos} {e o value:Expr} {es:List Expr} {ta tv:TE} {t:TA}
theorem bC (K:PySem.W.Frag) (hK:X.K=K) (he:PE X e ta) (hb:attributeBase e f X.env (eval e X.env)=eval e X.env):PE X (.Attribute e f pos) (Ku K ta f):=by subst hK;exact Gq he hb
def AV (f1 f2:Addr) (Mu Mv:Sp) (E:XK) (ta:TE) (t:TA):TE:=fun σ H Q=>ta σ H fun v H1=>(v= .ref f1/\t σ H1 fun vs H2=>Mu vs H2 Q E)\/(v= .ref f2/\t σ H1 fun vs H2=>Mv vs H2 Q E)
theorem jR (hf:PE X (.Name x p) ta) (F1:bA X.prog X.w X.K X.mg X.base CX k1 f1 PV PY Mu) (Fm:eI k1 X.A) (IE:PySem.W.keepIn X.K (.ref f1)=true) (y_:Binds X.K PV PY []) (F2:bA X.prog X.w X.K X.mg X.base CX k2 f2 PX PZ Mv) (Ly:eI k2 X.A) (vL:PySem.W.keepIn X.K (.ref f2)=true) (mI:Binds X.K PX PZ []) (hx:Passes CX X E)
  (ha:PA X (e::es) t) (he:starEach (e::es) X.env=(false,eval e X.env)::starEach es X.env:=by rfl) (iP:(backTo pos (starEach es X.env)).any (·.1)=false:=by rfl):
  PE X (.Call (.Name x p) (e::es) [] pos) (AV f1 f2 Mu Mv E ta t):=by
 intro pins s σ H Q I h
 refine wpAny_Call_Name_kw (bZ (hf pins s σ H _ I h) fun u s1 ⟨v,H1,I1,r,q⟩=>?_)
 rcases q with ⟨rfl,q⟩ | ⟨rfl,q⟩
 ·obtain rfl:u=Value.ref f1:=r
  refine WA (h₀:=X.base) I1.ok.mod.Iz IE (bZ (ha pos pins s1 σ H1 _ I1 q) fun us s2 ⟨vs,H2,I2,r2,q2⟩=>⟨I2.yz,?_⟩) he iP
  exact vp (dvs:=[]) (ds:=[]) F1 Fm y_ .nil hx I2 r2 (by rw[Vh];exact q2)
 ·obtain rfl:u=Value.ref f2:=r
  refine WA (h₀:=X.base) I1.ok.mod.Iz vL (bZ (ha pos pins s1 σ H1 _ I1 q) fun us s2 ⟨vs,H2,I2,r2,q2⟩=>⟨I2.yz,?_⟩) he iP
  exact vp (dvs:=[]) (ds:=[]) F2 Ly mI .nil hx I2 r2 (by rw[Vh];exact q2)
end
end L2
set_option maxHeartbeats 4000000
namespace L2
open PySem PySem.Spec PyProof.Rows
section
variable {prog:Program} {w:World} {A:Around} {E:Value->Shared->Prop} {R:Result->Shared->Prop} {I S:Addr} {fp wr:List Addr} {n:Nat} {P:Nat->Value->Prop} {St:Nat->Heap->Prop} {kw:List (Str×Value)} {bt:Nat->Nat->Bool}
theorem xq:(toString "max"++toString ".loop":String)="max.loop":=by decide
theorem Lz (W:Walks prog w A.in1 I fp wr n P St) (cm:CmpOf prog w A.in1 .Gt P bt) (sf:S∉fp): ∀(m j:Nat) (s:Shared) (b:Value) (c:Nat),n=j+1+m->St (j+1) s.heap->P (argBest bt j) b->s.heap.get? S=some { cls:= .type "list",dict:=none,data:= .seq #[b,b] c,slots:= #[] }->
  (∀v h' tk,P (argBest bt (n - 1)) v->(∀a o,a∉wr->a≠S->s.heap.get? a=some o->h'.get? a=some o)->R (.ok (.ret v)) { s with heap:=h',toks:=tk })->
  codeAny (model prog w) A (.builtin "max.loop" ⟨[.ref I, .none, .ref S],kw⟩) R s:=by
 have sw:S∉wr:=fun z=>sf (W.sub _ z)
 intro m
 induction m with
 | zero=>
  intro j s b c en lG hb hS hR
  have e1:n=j+1:=en
  subst e1
  refine codeAny_builtin WV ?_
  rw[Around.under_plainId Vv _]
  refine wpAny_bind (m:=seqItems? (.ref S)) (wpAny_seqItems hS rfl ?_)
  refine wpAny_bind (m:=tryCatch (pyNext (.ref I)) _) (wpAny_tryCatch (W.done s _ _ lG fun h1 tk k1=>?_))
  refine wpAny_bind (m:=updateSeq S fun _=> #[]) (wpAny_updateSeq (k1 S _ sw hS) rfl (wpAny_bind (wpAny_letGo (wpAny_pure ?_))))
  exact hR b _ tk hb fun a o aw aS ea=>(U9 _ _ (Ne.symm aS)).trans (k1 a o aw ea)
 | succ m ih=>
  intro j s b c en lG hb hS hR
  refine codeAny_builtin WV ?_
  rw[Around.under_plainId Vv _]
  refine wpAny_bind (m:=seqItems? (.ref S)) (wpAny_seqItems hS rfl ?_)
  refine wpAny_bind (m:=tryCatch (pyNext (.ref I)) _) (wpAny_tryCatch (W.item (j+1) s _ _ (by omega) lG fun v h1 tk pv uV k1=>?_))
  have IF:=k1 S _ sw hS
  refine wpAny_bind (m:=tryCatch (holding [v,v] (richCompare .Gt v b >>= _)) _) (wpAny_tryCatch (wpAny_holding (wpAny_bind (cm (j+1) (argBest bt j) v b _ _ _ pv hb (wpAny_bind (wpAny_holding (wpAny_truthy_bool (wpAny_bind (wpAny_letGo (wpAny_pure ?_))))))))))
  cases q:bt (j+1) (argBest bt j)
  ·rw[if_neg (by decide)]
   refine wpAny_bind (wpAny_letGo ?_)
   rw[xq]
   refine wpAny_pure ⟨plainId_quiet Vv _,ih (j+1) _ b c (by omega) uV (by rw[argBest,q];exact hb) IF fun v' h2 LA p2 k2=>?_⟩
   exact hR v' h2 LA p2 fun a o aw aS ea=>k2 a o aw aS (k1 a o aw ea)
  ·rw[if_pos rfl]
   refine wpAny_bind (wpAny_updateSeq IF rfl (wpAny_bind (wpAny_letGo ?_)))
   rw[xq]
   refine wpAny_pure ⟨plainId_quiet Vv _,ih (j+1) _ v _ (by omega) (W.frame _ _ _ uV fun a af o ea=>?_) (by rw[argBest,q];exact pv) (Vu _ IF rfl) fun v' h2 LA p2 k2=>?_⟩
   ·exact (U9 _ _ (fun z:S=a=>sf (z▸af))).trans ea
   ·exact hR v' h2 LA p2 fun a o aw aS ea=>k2 a o aw aS ((U9 _ _ (Ne.symm aS)).trans (k1 a o aw ea))
theorem LB (a d:Value):argsOk "max" ⟨[a],[(Str.ofString "default",d)]⟩:=by unfold argsOk;kernel_rfl
theorem DP {s:Shared} {x d:Value} {Q:Value->Shared->Prop}
  (h:wpAny (model prog w) A.in1 (pyIter x) (fun it s₂=> ∃I fp wr n P St bt,it= .ref I/\Walks prog w A.in1 I fp wr n P St/\St 0 s₂.heap/\(∀b∈fp,b<s₂.heap.objs.size)/\CmpOf prog w A.in1 .Gt P bt/\
   ∀v h' tk,(n=0->v=d)->(0<n->P (argBest bt (n - 1)) v)->(∀b o,b∉wr->s₂.heap.get? b=some o->h'.get? b=some o)->Q v { s₂ with heap:=h',toks:=tk }) E s):
  wpAny (model prog w) A (call (.builtin "max") [x] [(Str.ofString "default",d)]) Q E s:=by
 refine kmk_tree PySem.F.kind_max PySem.F.plain_max PySem.F.entry_max (LB x d) ?_
 refine wpAny_bind (m:=Builtin.Builtins.bindParams "max" ["key","default"] 0 ⟨[],[(Str.ofString "default",d)]⟩) (wpAny_of_eq (a:=[none,some d]) rfl ?_)
 refine wpAny_bind (wpAny_pure (wpAny_bind (wpAny_mono h (fun it s2 h2=>?_) fun _ _ e=>e)))
 obtain ⟨I,fp,wr,n,P,St,bt,rfl,W,lG,RI,cm,hQ⟩:=h2
 refine wpAny_bind (wpAny_newObj_type ?_)
 have sf:s2.heap.objs.size∉fp:=fun z=>U_ _ (RI _ z)
 have sw:s2.heap.objs.size∉wr:=fun z=>sf (W.sub _ z)
 have hS:(s2.heap.push { cls:= .type "list",data:= .seq #[] }).get? s2.heap.objs.size=some { cls:= .type "list",dict:=none,data:= .seq #[] 0,slots:= #[] }:=UG _ rfl
 have LC:=W.frame _ _ (s2.heap.push { cls:= .type "list",data:= .seq #[] }) lG fun b _ o e=>Pz _ e
 have lo: ∀{b o},s2.heap.get? b=some o->b≠s2.heap.objs.size:=fun e=>UJ (UD e)
 rw[xq]
 refine wpAny_pure ⟨plainId_quiet Vv _,codeAny_builtin WV ?_⟩
 rw[Around.under_plainId Vv _]
 refine wpAny_bind (m:=seqItems? (.ref s2.heap.objs.size)) (wpAny_seqItems hS rfl ?_)
 cases n with
 | zero=>
  refine wpAny_bind (m:=tryCatch (pyNext (.ref I)) _) (wpAny_tryCatch (W.done _ _ _ LC fun h1 tk k1=>?_))
  refine wpAny_bind (wpAny_rule ?_)
  refine wpAny_pure (hQ d h1 tk (fun _=>rfl) (fun z=>absurd z (U_ _)) fun b o bw e=>k1 b o bw (Pz _ e))
 | succ m=>
  refine wpAny_bind (m:=tryCatch (pyNext (.ref I)) _) (wpAny_tryCatch (W.item 0 _ _ _ (Nat.succ_pos _) LC fun v h1 tk pv uV k1=>?_))
  have IF:=k1 _ _ sw hS
  refine wpAny_bind (m:=updateSeq s2.heap.objs.size fun _=> #[v,v]) (wpAny_updateSeq IF rfl ?_)
  rw[xq]
  refine wpAny_pure ⟨plainId_quiet Vv _,Lz W cm sf m 0 _ v _ (by omega) (W.frame _ _ _ uV fun a af o ea=>?_) pv (Vu _ IF rfl) fun v' h2 LA p2 k2=>?_⟩
  ·exact (U9 _ _ (fun z:s2.heap.objs.size=a=>sf (z▸af))).trans ea
  ·exact hQ v' h2 LA (fun z=>by omega) (fun _=>p2) fun b o bw e=>k2 b o bw (lo e) ((U9 _ _ (Ne.symm (lo e))).trans (k1 b o bw (Pz _ e)))
end
noncomputable def G7 (d:Int):List Int->Int
 | []=>d
 | a::r=>r.foldl (fun x y=>if y>x then y else x) a
noncomputable def eK (l:List Int) (i j:Nat):Bool:=decide (l.getD i 0>l.getD j 0)
theorem jS (l:List Int): ∀n:Nat,n<l.length->l.getD (argBest (eK l) n) 0=((l.drop 1).take n).foldl (fun x y=>if y>x then y else x) (l.getD 0 0)
 | 0,_=>by simp[argBest]
 | n+1,h=>by
  have ih:=jS l n (by omega)
  have e:(l.drop 1).take (n+1)=(l.drop 1).take n++[l.getD (n+1) 0]:=by
   rw[Xm,VJ,show 1+n=n+1 by omega,Ro,GJ h]
   rfl
  rw[e,List.foldl_append, <-ih]
  show l.getD (if eK l (n+1) (argBest (eK l) n)=true then n+1 else argBest (eK l) n) 0=if l.getD (n+1) 0>l.getD (argBest (eK l) n) 0 then l.getD (n+1) 0 else l.getD (argBest (eK l) n) 0
  by_cases z:l.getD (n+1) 0>l.getD (argBest (eK l) n) 0
  ·rw[if_pos (show eK l (n+1) (argBest (eK l) n)=true from decide_eq_true z),if_pos z]
  ·rw[if_neg (show ¬eK l (n+1) (argBest (eK l) n)=true from fun w=>z (of_decide_eq_true w)),if_neg z]
section
variable {X:Cx}
theorem AW {prog:Program} {w:World} {A:Around} {l:List Int} {aI:List Value} (r:Vals (l.map V.int) aI):CmpOf prog w A .Gt (fun i v=>aI.toArray[i]? =some v) (eK l):=by
 intro i j vi vj s Q E hi hj hQ
 have get: ∀{i:Nat} {v:Value},aI.toArray[i]? =some v-> ∃t,v= .int (l.getD i 0) t:=by
  intro i v h
  have h':aI[i]? =some v:=by simpa using h
  have hl:i<l.length:=by have:=(GK.mp h').1;rw[<-r.length,Py]at this;exact this
  obtain ⟨u,hu,ru⟩:=r.get (i:=i) (x:=V.int (l.getD i 0)) (by rw[UI,Ro,GJ hl];rfl)
  rw[h']at hu;cases hu
  exact ru
 obtain ⟨t,rfl⟩:=get hi
 obtain ⟨u,rfl⟩:=get hj
 exact gt_int hQ
def LD (K:PySem.W.Frag) (d:Int) (t:TA):TE:=fun σ H Q=>t σ H fun vs H1=> ∃(p:Addr) (l:List Int),vs=[.ref p]/\bJ K H1 p (l.map V.int)/\Q (.int (G7 d l)) H1
theorem DQ {e:Expr} {t:TA} {d:Int} {j:Nat} {kp cp p pos:Pos} (K:PySem.W.Frag) (hK:X.K=K) (hc:X.calm=true) (hg:Gl X "max") (hm:X.mg "max"=none) (ha:PA X [e] t)
  (he:backTo pos (starEach [e] X.env)=[(false,eval e X.env)]:=by rfl):PE X (.Call (.Name "max" p) [e] [⟨some "default", .Constant (.int d) j cp,kp⟩] pos) (LD K d t):=by
 subst hK
 intro pins s σ H Q I h
 refine wpAny_Call_Name_kw (gy I hg hm boot_max ?_)
 refine callWith_kw (bZ (ha pos pins s σ H _ I h) fun us s1 ⟨vs,H1,I1,r1,q1⟩=>?_) he (by rw[he];rfl)
 obtain ⟨a,l,rfl,hq,q⟩:=q1
 obtain ⟨u,rfl,ru⟩:=vals1 r1
 cases ru
 refine kws_cons (wpAny_Constant_int (kws_nil ?_))
 obtain ⟨aI,rv,pl,hz⟩:=I1.list hq
 have hlen:aI.length=l.length:=by rw[<-rv.length,Py]
 have hp:a<s1.heap.objs.size:=by
  obtain ⟨o,n,e,_⟩:=pl
  exact UD e
 refine DP (wpAny_pyIter_list pl.isList ?_)
 refine ⟨_,_,_,_,_,_,eK l,rfl,Walks.list (A:=X.A.in1) (I1.ok.hd hc) s1.heap.objs.size a (UJ hp) aI.toArray,⟨⟨_,UG _ rfl,rfl,rfl⟩,?_⟩,fun b hb=>?_,AW rv,fun v h' tk h0 h1 hk=>?_⟩
 ·obtain ⟨o,ho,hr⟩:=pl.isList
  exact ⟨o,Pz _ ho,hr⟩
 ·show b<(s1.heap.push _).objs.size
  rw[Ws]
  exact (T3.mp hb).elim (fun z=>z▸VH _) fun z=>(PC.mp z)▸V0 hp
 ·have ru:RelV (.int (G7 d l)) v:=by
   cases l with
   | nil=>
    have:=h0 (by rw[Rl,hlen];rfl)
    subst this
    exact ⟨_,rfl⟩
   | cons b l=>
    have hn:aI.toArray.size - 1=l.length:=by rw[Rl,hlen];rfl
    have hP:=h1 (by rw[Rl,hlen];exact Nat.succ_pos _)
    rw[hn]at hP
    have RJ:aI[argBest (eK (b::l)) l.length]? =some v:=by simpa using hP
    have hl:argBest (eK (b::l)) l.length<(b::l).length:=Nat.lt_succ_of_le (argBest_lt _ _)
    have e:=jS (b::l) l.length (VH _)
    rw[show ((b::l).drop 1).take l.length=l from UR (Mq _),Ro,GJ hl]at e
    have e':(b::l)[argBest (eK (b::l)) l.length]=G7 d (b::l):=e
    obtain ⟨u,hu,ru⟩:=rv.get (i:=argBest (eK (b::l)) l.length) (x:=V.int (G7 d (b::l))) (by rw[UI,GJ hl,e'];rfl)
    rw[RJ]at hu;cases hu
    exact ru
  refine ⟨.int (G7 d l),H1,?_,ru,q⟩
  have I2:Inv X pins σ H1 { s1 with heap:=s1.heap.push { cls:= .type "list_iterator",data:= .fields #[.ref a, .int 0 0] },toks:=s1.toks+1 }:=I1.kept (t':=s1.toks+1) fun b o e=>Pz _ e
  have f:=I1.oV (H':=H1) (b:=s1.heap.objs.size) (Mq _) I1.fresh
  exact I2.turned (h':=h') (t':=tk) (it:=s1.heap.objs.size) (fun b o hb e=>hk b o (by simpa using hb) e) f.1 f.2.1 f.2.2.2.1 f.2.2.2.2.1 f.2.2.2.2.2
end
end L2
set_option maxHeartbeats 1000000
namespace L2
open PySem PySem.Spec PyProof.Rows
section
variable {X:Cx}
theorem G8:Kh X .Mult (fun x y H Q=> ∃i j,x= .int i/\y= .int j/\Ad i j/\Q (.int (i*j)) H):=by
 intro pins s σ H x y v u Q I r1 r2 h
 obtain ⟨i,j,rfl,rfl,c,q⟩:=h
 obtain ⟨t,rfl⟩:=r1
 obtain ⟨t',rfl⟩:=r2
 exact imul_int ⟨.int _,H,I.tok _,⟨_,rfl⟩,q⟩ c.ok
theorem DR:Kh X .FloorDiv (fun x y H Q=> ∃i j,x= .int i/\y= .int j/\NI i j/\Q (.int (i / j)) H):=by
 intro pins s σ H x y v u Q I r1 r2 h
 obtain ⟨i,j,rfl,rfl,hc,q⟩:=h
 obtain ⟨t,rfl⟩:=r1
 obtain ⟨t',rfl⟩:=r2
 have h1:(0:Int)<j:=hc.1
 have h2:j<1073741824:=hc.2
 exact ifloordiv_int (by omega) (by rw[Int.fdiv_eq_ediv_of_nonneg i (by omega)];exact ⟨.int _,H,I.tok _,⟨_,rfl⟩,q⟩) (.inl (PyProof.noPylong_small (by omega)))
end
theorem tX: ∀{ls:List Int} {aI:List Value},Vals (ls.map V.int) aI->IntsAre aI ls
 | [],_, .nil=> .nil
 | _::_,_, .cons ⟨t,e⟩ h=>e▸ .cons _ t (tX h)
theorem tY: ∀{ls:List Int} {aI:List Value},IntsAre aI ls->Vals (ls.map V.int) aI
 | _,_, .nil=> .nil
 | _,_, .cons n t h=> .cons ⟨t,rfl⟩ (tY h)
section
variable {prog:Program} {w:World} {A:Around} {E:Value->Shared->Prop} {s:Shared}
theorem rB {Q:Value->Shared->Prop} (hh:A.handled=none) (d:Addr) (aK:List (Key×Value)) (ep:Nat) (ls:List Int) (hk:aK.map (·.1)=ls.map fun l=>Sum.inl l) (hd:(d==sysModules)=false) (hm:s.heap.DictAt (b9 prog w) d aK ep) (Rv:aK.length<64)
  (h: ∀(h1 h':Heap) (tk:Nat) (a:Addr) (out:Array Value) (zX:List Int) (e:Nat),(∀b o,s.heap.get? b=some o->h1.get? b=some o)->(∀b o,h1.get? b=some o->h'.get? b=some o)->a=h1.objs.size->h'.get? a=some (seqObj "list" out e)->IntsAre out.toList zX->zX.Perm ls->(zX.Pairwise fun a b=> ¬b<a)->Q (.ref a) { s with heap:=h',toks:=tk }):
  wpAny (model prog w) A (call (.builtin "sorted") [.ref d]) Q E s:=by
 refine Calls.call_function_entry kind_sorted plain_sorted entry_sorted (args_sorted1 _) ?_
 unfold Builtin.«sorted»
 refine wpAny_bind (m:=checkCount "sorted" 1 1 _) (wpAny_pure ?_)
 have lJ:(10000:Nat)<sizeLine:=by decide
 refine wpAny_bind (rq (A:=A.in1) (show A.in1.handled=none from hh) d aK ep hd hm (by omega) (fun s' acc RK hg IG ho vC=>?_))
 obtain ⟨h1,h2⟩:=vC
 have hlen:aK.length=ls.length:=by have:=congrArg List.length hk;simpa using this
 have rv:Vals (ls.map V.int) acc.toList:=by
  have key: ∀(ls:List Int) (vs:List Value),vs.length=ls.length->(∀(j:Nat) (v:Value),vs[j]? =some v-> ∃l t,ls[j]? =some l/\v=Value.int l t)->Vals (ls.map V.int) vs:=by
   intro ls
   induction ls with
   | nil=>intro vs hl _;have:vs=[]:=Wq hl;subst this;exact .nil
   | cons l ls ih=>
    intro vs hl hv
    cases vs with
    | nil=>simp at hl
    | cons v vs=>
     obtain ⟨l',t,e1,e2⟩:=hv 0 v rfl
     have Ay:l=l':=by simpa using e1
     subst Ay
     refine .cons ⟨t,e2⟩ (ih vs (by simpa using hl) fun j v' e=>?_)
     obtain ⟨l',t',g1,g2⟩:=hv (j+1) v' (by simpa using e)
     exact ⟨l',t',by simpa using g1,g2⟩
  refine key ls acc.toList (by simpa [<-hlen]using h1) fun j v e=>?_
  obtain ⟨k,x,e1,e2⟩:=h2 j v (by simpa using e)
  have e3:(aK.map (·.1))[j]? =some k:=by rw[UI,e1];rfl
  rw[hk,UI]at e3
  cases e4:ls[j]? with
  | none=>rw[e4]at e3;cases e3
  | some l=>
   rw[e4]at e3
   have e5:k=Sum.inl l:=(UE e3).symm
   subst e5
   obtain ⟨t,e6⟩:=Value.isInt_shape (k:=l) (v:=v) e2
   exact ⟨l,t,rfl,e6⟩
 have hS:=tX rv
 have hn:acc.toList.length=ls.length:=by rw[<-rv.length,Py]
 refine wpAny_bind (wpAny_newList ?_)
 have Ka:(s'.heap.push (seqObj "list" acc.toList.toArray 0)).get? s'.heap.objs.size=some (seqObj "list" acc.toList.toArray 0):=UG _ rfl
 show wpAny _ _ _ _ _ { s' with heap:=s'.heap.push (seqObj "list" acc.toList.toArray 0) }
 refine wpAny_bind (wpAny_holding (wpAny_call_entry slot_list_sort ⟨_,Ka,rfl⟩ entry_list_sort (list_sort_tree Ka hS (by omega) fun out zX k1 k2 k3=>⟨_,rfl,?_⟩) (args_list_sort _)))
 obtain ⟨e,he⟩:=sortedHeap_at (out:=out) Ka
 refine wpAny_pure ⟨_,rfl,?_⟩
 have es: ∀hh:Heap,({ s' with heap:=hh }:Shared)={ s with heap:=hh,toks:=s'.toks }:=fun hh=>by
  cases s;cases s'
  simp only at hg IG ho
  subst hg IG ho
  rfl
 show Q (.ref s'.heap.objs.size) { s' with heap:=sortedHeap (s'.heap.push (seqObj "list" acc.toList.toArray 0)) s'.heap.objs.size acc.toList (out) }
 rw[es]
 refine h s'.heap _ _ _ _ zX e RK (fun b o hb=>?_) rfl he k1 k2 (k3.imp fun h=>Int.not_lt.mpr h)
 have dk:=UD hb
 rw[sortedHeap_old (UJ dk) (by rw[size_push'];exact V0 dk)]
 exact Pz _ hb
end
section
variable {X:Cx}
def DS:List V->Hp->VK->Prop:=fun xs H Q=> ∃(d:Addr) (aK:List (Key×V)) (ls:List Int),xs=[.ref d]/\H d=some (.dK aK)/\aK.map (·.1)=(ls.map fun l=>Sum.inl l)/\ls.length<64/\ ∀(q:Addr) (ms:List Int),H q=none->ms.Perm ls->(ms.Pairwise fun a b=> ¬b<a)->Q (.ref q) (upd H q (.lst (ms.map V.int)))
theorem o4 (hc:X.calm=true):dH X (.builtin "sorted") DS:=by
 intro pins s σ H xs us Q I r h
 obtain ⟨d,aK,ls,rfl,hd,hk,hn,q⟩:=h
 obtain ⟨u,rfl,ru⟩:=vals1 r
 cases ru
 obtain ⟨hz,Oq,vs,kv,o,es,ep,e1,e2,e3,e4,e5,e6⟩:=I.bR d _ hd
 have hlen:vs.length=ls.length:=by
  have a1:=congrArg List.length (xp kv)
  have a2:=congrArg List.length hk
  simp only[Py]at a1 a2
  omega
 refine rB (s:=s) (I.ok.hd hc) d vs ep ls ((xp kv).trans hk) Oq ⟨o,es,e1,e2,e3,e4,e5,e6⟩ (by omega) fun h1 h' tk a out zX e k1 k2 ea he g1 g2 g3=>?_
 have tM:=g2
 have hv:=tY g1
 have pw:=g3
 have I1:Inv X pins σ H { s with heap:=h1,toks:=tk }:=I.kept k1
 have hsz:(10000:Nat)<sizeLine:=by decide
 have I2:Inv X pins σ (upd H a (.lst (zX.map V.int))) { s with heap:=h',toks:=tk }:=
  I1.laid (t':=tk) (a:=a) (o:= .lst (zX.map V.int)) k2 (by rw[ea];exact Mq _) ⟨by rw[Py,tM.length_eq];omega,out.toList,e,hv,by simpa [seqObj]using he⟩
 exact ⟨.ref a,_,I2,rfl,q _ _ (I1.bR.fresh (by rw[ea];exact Mq _)) tM pw⟩
end
end L2
set_option maxHeartbeats 4000000
namespace My
open PySem PySem.Spec PyProof.Rows L2 XL
noncomputable def aX:List Nat:=[97,98,99,100,101,102,103,104,105,106,107,108,109,110,111,112,113,114,115,116,117,118,119,120,121,122]
noncomputable def jq:List Nat:=[65,66,67,68,69,70,71,72,73,74,75,76,77,78,79,80,81,82,83,84,85,86,87,88,89,90]
def Lt (c:Nat):Prop:=c∈aX\/c∈jq
noncomputable instance (c:Nat):Decidable (Lt c):=by unfold Lt;infer_instance
noncomputable def aD (c:Nat):Nat:=if az c=true then PyProof.Rows.up1 c else PyProof.Rows.lo1 c
theorem rC: ∀c∈aX++jq,c<128/\aD c∈aX++jq/\aD (aD c)=c/\aD c≠c:=by decide+kernel
theorem Lt.mem {c:Nat} (h:Lt c):c∈aX++jq:=UO.mpr h
theorem Lt.lt {c:Nat} (h:Lt c):c<128:=(rC c h.mem).1
theorem Lt.aD {c:Nat} (h:Lt c):Lt (aD c):=UO.mp (rC c h.mem).2.1
theorem aN {c:Nat} (h:Lt c):aD (aD c)=c:=(rC c h.mem).2.2.1
theorem kI {c:Nat} (h:Lt c):aD c≠c:=(rC c h.mem).2.2.2
theorem ff {a b:Nat} (ha:Lt a) (hb:Lt b) (e:My.aD a=My.aD b):a=b:=by rw[<-aN ha,e,aN hb]
theorem tZ: ∀c∈aX,pR jq ((aX.idxOf c:Nat):Int)=some (aD c):=by decide+kernel
theorem za: ∀c∈jq,pR aX ((jq.idxOf c:Nat):Int)=some (aD c):=by decide+kernel
noncomputable def cT (l:List Nat):List Nat:=(l.map aD).reverse
def aR (b:Addr) (H H':Hp):Prop:= ∀c o,H c=some o->c≠b->H' c=some o
theorem aR.refl (b:Addr) (H:Hp):aR b H H:=fun _ _ h _=>h
theorem aR.trans {b:Addr} {H H1 H2:Hp} (x:aR b H H1) (y:aR b H1 H2):aR b H H2:=fun c o h n=>y c o (x c o h n) n
theorem aR.of {b:Addr} {H H':Hp} (x:ay H H'):aR b H H':=fun c o h _=>x c o h
theorem aR.upd (b:Addr) (H:Hp) (o:HO):aR b H (upd H b o):=fun c o h n=>by rw[au n];exact h
theorem ay.upd {H:Hp} {p:Addr} {o:HO} (h:H p=none):ay H (L2.upd H p o):=fun c u e=>by rw[au (aq e h)];exact e
def cE (H:Hp) (b:Addr):Prop:= ∃x y:Int,H b=some (.lst [.int x, .int y])
theorem cE.same {H H':Hp} {b:Addr} (h:cE H b) (s:ay H H'):cE H' b:=let ⟨x,y,e⟩:=h;⟨x,y,s _ _ e⟩
structure Yd (y:List Nat):Prop where
 nd:y.Nodup
 lt: ∀c∈y,Lt c
 cl: ∀c∈y,aD c∈y
def lM (_:PySem.W.Frag):Sp:=fun vs H Q _=> ∃c,vs=[.str (S [c])]/\c<128/\Q (.str (S [aD c])) H
theorem rD {K:PySem.W.Frag} {vs:List V} {H:Hp} {Q:VK} {E:XK} (h:lM K vs H Q E):vs.length=1:=by obtain ⟨c,rfl,_⟩:=h;rfl
def qa (_:PySem.W.Frag):Sp:=fun vs H Q _=> ∃c,vs=[.str (S [c])]/\Lt c/\Q (.str (S [aD c])) H
theorem vR {K:PySem.W.Frag} {vs:List V} {H:Hp} {Q:VK} {E:XK} (h:qa K vs H Q E):vs.length=1:=by obtain ⟨c,rfl,_⟩:=h;rfl
def qb (_:PySem.W.Frag):Sp:=fun vs H Q _=> ∃l:List Nat,vs=[.str (S l)]/\(∀c∈l,c<128)/\l.length<=1000/\ ∀H',ay H H'->Q (.str (S (cT l))) H'
theorem vS {K:PySem.W.Frag} {vs:List V} {H:Hp} {Q:VK} {E:XK} (h:qb K vs H Q E):vs.length=1:=by obtain ⟨c,rfl,_⟩:=h;rfl
def xr (K:PySem.W.Frag):Sp:=fun vs H Q _=> ∃(a:Addr) (ns:List Int) (k:Nat),vs=[.ref a, .int k]/\bJ K H a (ns.map V.int)/\k<=1000/\ ∀b H',H b=none->cE H' b->ay H H'->Q (.ref b) H'
theorem AX {K:PySem.W.Frag} {vs:List V} {H:Hp} {Q:VK} {E:XK} (h:xr K vs H Q E):vs.length=2:=by obtain ⟨a,ns,k,rfl,_⟩:=h;rfl
def t5 (_:PySem.W.Frag):Sp:=fun vs H Q _=> ∃(b:Addr) (m:Int),vs=[.ref b, .int m]/\cE H b/\1<=m/\m<1000000/\ ∀(r:Nat) H',(r:Int)<m->cE H' b->aR b H H'->Q (.int r) H'
theorem zc {K:PySem.W.Frag} {vs:List V} {H:Hp} {Q:VK} {E:XK} (h:t5 K vs H Q E):vs.length=2:=by obtain ⟨b,m,rfl,_⟩:=h;rfl
def t6 (_:PySem.W.Frag):Sp:=fun vs H Q _=> ∃(b:Addr) (xt top:Nat),vs=[.ref b, .int xt, .int top]/\cE H b/\1<=xt/\xt<=top/\top<=8/\ ∀(y:List Nat) H',Yd y->2*xt<=y.length->y.length<=2*top->cE H' b->aR b H H'->Q (.str (S y)) H'
theorem zd {K:PySem.W.Frag} {vs:List V} {H:Hp} {Q:VK} {E:XK} (h:t6 K vs H Q E):vs.length=3:=by obtain ⟨b,m,t,rfl,_⟩:=h;rfl
def kE (K:PySem.W.Frag):Sp:=fun vs H Q _=> ∃(a:Addr) (ns:List Int),vs=[.ref a]/\bJ K H a (ns.map V.int)/\ns.length<=63/\ ∀H',Q (.bl true) H'
theorem DT {K:PySem.W.Frag} {vs:List V} {H:Hp} {Q:VK} {E:XK} (h:kE K vs H Q E):vs.length=1:=by obtain ⟨b,m,rfl,_⟩:=h;rfl
theorem qc: ∀l:List Nat,(l.map fun c=>[c]).flatten=l
 | []=>rfl
 | c::l=>by rw[UK,V1,qc l];rfl
theorem ze: ∀l:List Nat,((l.map fun c=>[c]).map List.length).sum=l.length
 | []=>rfl
 | c::l=>by
  rw[UK,UK,VP,ze l]
  show 1+l.length=l.length+1
  omega
theorem gi (l:List Nat):dj l=(l.map fun c=>[c]).map fun l=>V.str (S l):=by unfold dj;rw[Vj];rfl
theorem xu (l:List Nat):(dj l).reverse=dj l.reverse:=by unfold dj;rw[V7]
theorem eL (l:List Nat) (c:Nat):dj l++[V.str (S [c])]=dj (l++[c]):=by unfold dj;rw[Rn];rfl
theorem take_snoc {α:Type} {l:List α} {i:Nat} {x:α} (h:l[i]? =some x):l.take i++[x]=l.take (i+1):=by rw[Xm,h];rfl
theorem xv {ns:List Int} {i:Nat} (h:i<ns.length): ∃z,(ns.map V.int)[i]? =some (V.int z):=⟨ns[i],by rw[UI,GJ h];rfl⟩
theorem fL {σ:L2.St} {H:Hp} {A B:Hp->Prop} (h:A H):KZ σ H fun b H3=>if b=true then A H3 else B H3:=by
 show (if true=true then A H else B H)
 rw[if_pos rfl]
 exact h
theorem vT (b:Bool) (z:Int): ∃y,pR [V.int 0,V.int z] (if b=true then 1 else 0)=some (V.int y):=by
 cases b
 ·exact ⟨0,rfl⟩
 ·exact ⟨z,rfl⟩
theorem jr {α:Type}: ∀{l:List α} {i:Nat} {x:α},l[i]? =some x->(x::l.eraseIdx i).Perm l
 | [],i,x,h=>by simp at h
 | a::l,0,x,h=>by
  have:a=x:=by simpa using h
  subst this
  exact List.Perm.refl _
 | a::l,i+1,x,h=>by
  have ih:=jr (l:=l) (i:=i) (x:=x) (by simpa using h)
  rw[Wc]
  exact (List.Perm.swap a x _).trans (List.Perm.cons a ih)
theorem qd (l:List Nat) (i:Nat):(dj l).eraseIdx i=dj (l.eraseIdx i):=by
 unfold dj
 induction l generalizing i with
 | nil=>rfl
 | cons a l ih=>
  cases i with
  | zero=>rfl
  | succ i=>rw[UK,Wc,ih,Wc,UK]
theorem AY {l:List Nat} {i:Nat} (h:i<l.length):(dj l)[i]? =some (V.str (S [l[i]])):=by unfold dj;rw[UI,GJ h];rfl
theorem DU (a b:List Nat):dj a++dj b=dj (a++b):=by unfold dj;rw[Rn]
theorem zf: ∀c∈aX,aD c∉aX:=by decide+kernel
theorem zg:aX.Nodup:=by decide+kernel
theorem Yd.perm {a b:List Nat} (h:Yd a) (p:a.Perm b):Yd b:=
 ⟨p.nodup_iff.mp h.nd,fun c hc=>h.lt c (p.mem_iff.mpr hc),fun c hc=>p.mem_iff.mp (h.cl c (p.mem_iff.mpr hc))⟩
structure G9 (i:Nat) (L E:List Nat):Prop where
 yd:Yd E
 nd:L.Nodup
 sm: ∀c∈L,c∈aX
 ap: ∀c∈L,c∉E
 ll:L.length=26 - i
 el:E.length=2*i
theorem G9.start:G9 0 aX []:=⟨⟨W7,fun _ h=>absurd h UP,fun _ h=>absurd h UP⟩,zg,fun _ h=>h,fun _ _ h=>absurd h UP,rfl,rfl⟩
theorem G9.turn {i r:Nat} {L E:List Nat} (w:G9 i L E) (hi:i<26) (hr:r<L.length):G9 (i+1) (L.eraseIdx r) (E++[L[r],aD L[r]]):=by
 have hp:=jr (l:=L) (GJ hr)
 have hm:L[r]∈L:=Vb hr
 have hs:=w.sm _ hm
 have hl:Lt L[r]:= .inl hs
 have Mw:=hp.nodup_iff.mpr w.nd
 have sub: ∀c∈L.eraseIdx r,c∈L:=fun c hc=>hp.mem_iff.mp (T5 _ hc)
 have P0:=w.ap _ hm
 have RL:aD L[r]∉E:=fun z=>P0 (by have:=w.yd.cl _ z;rwa [aN hl]at this)
 refine ⟨⟨?_,fun c hc=>?_,fun c hc=>?_⟩,(U4.mp Mw).2,fun c hc=>w.sm c (sub c hc),fun c hc hE=>?_,?_,?_⟩
 ·rw[Vw]
  refine ⟨w.yd.nd,?_,fun a ha b hb z=>?_⟩
  ·rw[U4]
   refine ⟨fun z=>(kI hl) (PC.mp z).symm,U4.mpr ⟨UP,W7⟩⟩
  ·subst z
   rcases T3.mp hb with z | z
   ·exact P0 (z▸ha)
   ·exact RL (PC.mp z▸ha)
 ·rcases UO.mp hc with z | z
  ·exact w.yd.lt c z
  ·rcases T3.mp z with z | z
   ·rw[z];exact hl
   ·rw[PC.mp z];exact hl.aD
 ·rcases UO.mp hc with z | z
  ·exact V3 _ (w.yd.cl c z)
  ·refine UM _ ?_
   rcases T3.mp z with z | z
   ·rw[z];exact T5 _ (PC.mpr rfl)
   ·rw[PC.mp z,aN hl];exact UA
 ·rcases UO.mp hE with z | z
  ·exact w.ap c (sub c hc) z
  ·rcases T3.mp z with z | z
   ·exact (U4.mp Mw).1 (z▸hc)
   ·have e:c=aD L[r]:=PC.mp z
    exact zf _ hs (e▸w.sm c (sub c hc))
 ·have:=hp.length_eq
  rw[U1,w.ll]at this
  omega
 ·rw[Rk,w.el]
  show 2*i+2=_
  omega
theorem aR.js {b p:Addr} {H H':Hp} {o:HO} (h:aR b H H') (n:H p=none):aR b H (L2.upd H' p o):=fun c u e z=>by rw[au (aq e n)];exact h c u e z
theorem cE.js {b p:Addr} {H:Hp} {o:HO} (h:cE H b) (n:p≠b):cE (L2.upd H p o) b:=let ⟨x,y,e⟩:=h;⟨x,y,by rw[au (Ne.symm n)];exact e⟩
theorem aR.none {b p:Addr} {H H':Hp} (h:aR b H H') (n:H' p=none) (z:p≠b):H p=none:=by
 cases q:H p with
 | none=>rfl
 | some o=>rw[h p o q z]at n;cases n
theorem cE.ne {b p:Addr} {H:Hp} (h:cE H b) (n:H p=none):p≠b:=fun z=>by obtain ⟨x,y,e⟩:=h;rw[<-z,n]at e;cases e
theorem zh {c:Bool} {A B:Prop} (h:c=false) (hB:B):if c=true then A else B:=by rw[h];exact yR hB
theorem Ot {c:Bool} {A B:Prop} (h:c=true) (hA:A):if c=true then A else B:=by rw[h];exact KW hA
theorem bN (l:List Nat):(cT l).length=l.length:=by unfold cT;rw[UY,Py]
theorem DV {l:List Nat} (h: ∀c∈l,Lt c):cT (cT l)=l:=by
 unfold cT
 rw[V7,List.reverse_reverse,Vj]
 have: ∀c∈l,(aD ∘ aD) c=c:=fun c hc=>aN (h c hc)
 calc l.map (aD ∘ aD)=l.map id:=Wx this
  _=l:=Xz l
theorem Fn {l:List Nat} (h: ∀c∈l,Lt c): ∀c∈l,c<128:=fun c hc=>(h c hc).lt
theorem t9 (a:List Nat):a.take (dj a).length=a:=by rw[aW];exact UR (Mq _)
theorem aR.same {b:Addr} {H H2 H3:Hp} (n:H b=Option.none) (s:ay H H2) (t:aR b H2 H3):ay H H3:=fun c o e=>t c o (s c o e) (aq e n)
theorem aR.after {p:Addr} {H H1 H2:Hp} (s:aR p H H1) (t:ay H1 H2):aR p H H2:=fun c o e z=>t c o (s c o e z)
noncomputable def iR (ws:List (List Nat)):List V:=ws.map fun l=>V.str (S l)
theorem dy (ws:List (List Nat)):(iR ws).length=ws.length:=by unfold iR;rw[Py]
theorem nH {ws:List (List Nat)} {i:Nat} (h:i<ws.length):(iR ws)[i]? =some (V.str (S ws[i])):=by unfold iR;rw[UI,GJ h];rfl
noncomputable def eV (st:List Nat) (c:Nat):List Nat:=if st.getLast? =some (aD c) then st.dropLast else st++[c]
noncomputable def red (l:List Nat):List Nat:=l.foldl eV []
def vU:List Nat->Prop
 | []=>True
 | [_]=>True
 | a::b::r=>a≠aD b/\vU (b::r)
theorem vU.init: ∀{l:List Nat} {c:Nat},vU (l++[c])->vU l/\l.getLast?≠ some (aD c)
 | [],_,_=>⟨trivial,by simp⟩
 | [a],c,h=>⟨trivial,fun z=>h.1 (by simpa using z)⟩
 | a::b::r,c,h=>by
  have ih:=vU.init (l:=b::r) (c:=c) h.2
  exact ⟨⟨h.1,ih.1⟩,by simpa using ih.2⟩
theorem snoc_cases (l:List Nat):l=[]\/ ∃m a,l=m++[a]:=by
 by_cases h:l=[]
 ·exact .inl h
 ·exact .inr ⟨l.dropLast,l.getLast h,(List.dropLast_concat_getLast h).symm⟩
theorem vU.left: ∀{m l:List Nat},vU (m++l)->vU m
 | [],_,_=>trivial
 | [_],_,_=>trivial
 | a::b::r,l,h=>⟨h.1,vU.left (m:=b::r) (l:=l) h.2⟩
theorem zi {st:List Nat} {c d:Nat} (h:d∈eV st c):d∈st\/d=c:=by
 unfold eV at h
 by_cases e:st.getLast? =some (aD c)
 ·rw[if_pos e]at h
  exact .inl (List.dropLast_subset _ h)
 ·rw[if_neg e]at h
  rcases UO.mp h with z | z
  ·exact .inl z
  ·exact .inr (PC.mp z)
theorem fold_same: ∀(l st:List Nat),vU (st++l)->l.foldl eV st=st++l
 | [],st,_=>by simp
 | c::l,st,h=>by
  have h':vU ((st++[c])++l):=by rw[VO];exact h
  have h2:=(vU.left h').init.2
  rw[Wv]
  have:eV st c=st++[c]:=by unfold eV;rw[if_neg h2]
  rw[this,fold_same l (st++[c]) h',VO]
  rfl
theorem AZ {l:List Nat} (h:vU l):red l=l:=by
 exact fold_same l [] h
theorem fold_lt: ∀(l st:List Nat),(∀c∈l,Lt c)->(∀c∈st,Lt c)-> ∀c∈l.foldl eV st,Lt c
 | [],_,_,h=>h
 | a::l,st,h1,h2=>fold_lt l _ (fun c hc=>h1 c (T5 _ hc)) fun c hc=>(zi hc).elim (h2 c) fun z=>z▸h1 a UA
theorem G_ {l:List Nat} (h: ∀c∈l,Lt c): ∀c∈red l,Lt c:=fold_lt l [] h fun _ h=>absurd h UP
theorem zj (st:List Nat) (c:Nat):(eV st c).length<=st.length+1:=by
 unfold eV
 by_cases e:st.getLast? =some (aD c)
 ·rw[if_pos e,List.length_dropLast];omega
 ·rw[if_neg e,Rk];exact Mq _
theorem t_: ∀(l st:List Nat),(l.foldl eV st).length<=st.length+l.length
 | [],_=>Mq _
 | c::l,st=>by
  have:=t_ l (eV st c)
  have h2:=zj st c
  rw[Wv,U1]
  omega
theorem jT (l:List Nat):(red l).length<=l.length:=by
 have:=t_ l []
 rw[List.length_nil,WW]at this
 exact this
theorem A0 {l:List Nat} {i c:Nat} (h:l[i]? =some c):red (l.take (i+1))=eV (red (l.take i)) c:=by
 unfold red
 rw[<-take_snoc h,List.foldl_append]
 rfl
theorem A1: ∀{l:List Nat},(∀k a b,l[k]? =some a->l[k+1]? =some b->a≠aD b)->vU l
 | [],_=>trivial
 | [_],_=>trivial
 | a::b::r,h=>⟨h 0 a b rfl rfl,A1 (l:=b::r) fun k x y h1 h2=>h (k+1) x y (by simpa using h1) (by simpa using h2)⟩
noncomputable def zY (l:List Nat) (s e:Nat):List Nat:=(l.drop s).take (e - s)
noncomputable def strip:Nat->List Nat->List Nat
 | 0,l=>l
 | n+1,l=>match l with
  | []=>[]
  | [a]=>[a]
  | a::b::r=>if a=aD ((b::r).getLast (by simp)) then strip n (b::r).dropLast else a::b::r
theorem eM: ∀(n:Nat) {l:List Nat},l.length<2->strip n l=l
 | 0,_,_=>rfl
 | _+1,[],_=>rfl
 | _+1,[_],_=>rfl
 | _+1,_::_::_,h=>by simp at h;omega
theorem jU (l:List Nat) (y:Nat):(l++[y]).getLast (by simp)=y:=by simp
theorem strip_go (n:Nat) {a y:Nat} {m:List Nat} (h:a=aD y):strip (n+1) (a::(m++[y]))=strip n m:=by
 cases m with
 | nil=>
  show (if a=aD (([y]:List Nat).getLast (by simp)) then strip n ([y]:List Nat).dropLast else _)=strip n []
  rw[if_pos (by simpa using h)]
  rfl
 | cons b r=>
  show (if a=aD ((b::(r++[y])).getLast (by simp)) then strip n (b::(r++[y])).dropLast else _)=strip n (b::r)
  have e1:(b::(r++[y])).getLast (by simp)=y:=jU (b::r) y
  have e2:(b::(r++[y])).dropLast=b::r:=by
   have:b::(r++[y])=(b::r)++[y]:=rfl
   rw[this,W9]
  rw[if_pos (by rw[e1];exact h),e2]
theorem strip_stop (n:Nat) {a y:Nat} {m:List Nat} (h:a≠aD y):strip n (a::(m++[y]))=a::(m++[y]):=by
 cases n with
 | zero=>rfl
 | succ n=>
  cases m with
  | nil=>
   show (if a=aD (([y]:List Nat).getLast (by simp)) then _ else _)=_
   rw[if_neg (by simpa using h)]
   rfl
  | cons b r=>
   show (if a=aD ((b::(r++[y])).getLast (by simp)) then _ else _)=_
   have e1:(b::(r++[y])).getLast (by simp)=y:=jU (b::r) y
   rw[if_neg (by rw[e1];exact h)]
   rfl
theorem A2 {l:List Nat} (h:2<=l.length): ∃a m y,l=a::(m++[y]):=by
 cases l with
 | nil=>simp at h
 | cons a r=>
  rcases snoc_cases r with rfl | ⟨m,y,rfl⟩
  ·simp at h
  ·exact ⟨a,m,y,rfl⟩
theorem nI: ∀(n:Nat) (l:List Nat) (k:Nat),l.length<=n->strip (n+k) l=strip n l
 | 0,l,k,h=>by rw[eM _ (by omega),eM _ (by omega)]
 | n+1,l,k,h=>by
  by_cases h2:l.length<2
  ·rw[eM _ h2,eM _ h2]
  ·obtain ⟨a,m,y,rfl⟩:=A2 (l:=l) (by omega)
   have hm:m.length<=n:=by simp at h;omega
   by_cases e:a=aD y
   ·have:n+1+k=(n+k)+1:=by omega
    rw[this,strip_go _ e,strip_go _ e,nI n m k hm]
   ·rw[strip_stop _ e,strip_stop _ e]
noncomputable def core (l:List Nat):List Nat:=strip l.length l
theorem xw {a y:Nat} {m:List Nat} (h:a=aD y):core (a::(m++[y]))=core m:=by
 unfold core
 have:(a::(m++[y])).length=(m.length+1)+1:=by simp
 rw[this,strip_go _ h,nI _ _ _ (Mq _)]
theorem kJ {a y:Nat} {m:List Nat} (h:a≠aD y):core (a::(m++[y]))=a::(m++[y]):=strip_stop _ h
theorem gE {l:List Nat} (h:l.length<2):core l=l:=eM _ h
theorem ua {P:List Nat->List Nat->Prop} (h1: ∀l,l.length<2->P l l) (h2: ∀a m y,a≠aD y->P (a::(m++[y])) (a::(m++[y]))) (h3: ∀a m y r,a=aD y->P m r->P (a::(m++[y])) r): ∀(n:Nat) (l:List Nat),l.length<=n->P l (core l)
 | 0,l,h=>by rw[gE (by omega)];exact h1 l (by omega)
 | n+1,l,h=>by
  by_cases hl:l.length<2
  ·rw[gE hl];exact h1 l hl
  ·obtain ⟨a,m,y,rfl⟩:=A2 (l:=l) (by omega)
   by_cases e:a=aD y
   ·rw[xw e]
    exact h3 a m y _ e (ua h1 h2 h3 n m (by simp at h;omega))
   ·rw[kJ e];exact h2 a m y e
theorem ub (l:List Nat):(core l).length<=l.length:=
 ua (P:=fun l r=>r.length<=l.length) (fun _ _=>Mq _) (fun _ _ _ _=>Mq _) (fun a m y r _ k=>by simp;omega) l.length l (Mq _)
theorem Ha {l:List Nat} {s e:Nat} (h1:s+2<=e) (h2:e<=l.length):zY l s e=l[s]::(zY l (s+1) (e - 1)++[l[e - 1]]):=by
 unfold zY
 rw[Vf (by omega)]
 have e1:e - s=(e - 1 - (s+1))+1+1:=by omega
 rw[e1,List.take_succ_cons,Xm,VJ]
 have e2:s+1+(e - 1 - (s+1))=e - 1:=by omega
 rw[e2,GJ (by omega)]
 rfl
theorem DW {l:List Nat} {s e:Nat} (h2:e<=l.length):(zY l s e).length=e - s:=by unfold zY;rw[UB,US];omega
theorem DX (l:List Nat):zY l 0 l.length=l:=by unfold zY;simp
def jV (_:PySem.W.Frag):Sp:=fun vs H Q _=> ∃l:List Nat,vs=[.str (S l)]/\(∀c∈l,Lt c)/\l.length<=1000/\ ∀H',ay H H'->Q (.str (S (red l))) H'
theorem o5 {K:PySem.W.Frag} {vs:List V} {H:Hp} {Q:VK} {E:XK} (h:jV K vs H Q E):vs.length=1:=by obtain ⟨c,rfl,_⟩:=h;rfl
def lN (_:PySem.W.Frag):Sp:=fun vs H Q _=> ∃l:List Nat,vs=[.str (S l)]/\(∀c∈l,Lt c)/\l.length<=1000/\ ∀H',ay H H'->Q (.str (S (core (red l)))) H'
theorem rE {K:PySem.W.Frag} {vs:List V} {H:Hp} {Q:VK} {E:XK} (h:lN K vs H Q E):vs.length=1:=by obtain ⟨c,rfl,_⟩:=h;rfl
theorem cZ {α:Type} (l:List α) (k:Nat):cut l none (some (k:Int))=l.take k:=by
 unfold cut
 rw[HT.m5,HT.fJ,List.drop_zero,Nat.sub_zero]
 by_cases h:k<=l.length
 ·rw[Vd h]
 ·rw[Vn (by omega),UR (Mq _),UR (by omega)]
theorem fz {α:Type} (l:List α) (k:Nat):cut l (some (k:Int)) none=l.drop k:=by
 unfold cut
 rw[HT.m5,HT.fJ]
 by_cases h:k<=l.length
 ·rw[Vd h,UR (by rw[US];exact Mq _)]
 ·rw[Vn (by omega),Vx (Mq _),Vx (by omega)]
  simp
noncomputable def cw (c:List Nat) (k:Nat):List Nat:=c.drop k++c.take k
noncomputable def jW (c:List Nat) (n:Nat):List (List Nat):=(List.range n).map fun k=>cw c (k+1)
noncomputable def eW (c:List Nat):List Nat:=bU c (jW c (c.length - 1))
@[irreducible] noncomputable def de (w:List Nat):List Nat:=eW (core (red w))
theorem qe (c:List Nat) (n:Nat):jW c (n+1)=jW c n++[cw c (n+1)]:=by unfold jW;rw[Vq,Rn];rfl
theorem gF: ∀(r:List (List Nat)) (a b:List Nat),bU a (r++[b])=cC (bU a r) b
 | [],_,_=>rfl
 | _::r,_,_=>gF r _ _
theorem cb (c:List Nat) (k:Nat):(cw c k).length=c.length:=by unfold cw;rw[Rk,US,UB];omega
theorem jt: ∀(r:List (List Nat)) (a:List Nat),bU a r=a\/bU a r∈r
 | [],a=> .inl rfl
 | b::r,a=>by
  rcases jt r (cC a b) with h | h
  ·have hl:cC a b=a\/cC a b=b:=by unfold cC;split<;>simp
   rcases hl with e | e
   ·left;show bU (cC a b) r=a;rw[h,e]
   ·right;show bU (cC a b) r∈b::r;rw[h,e];exact UA
  ·right;exact T5 _ h
theorem qf (c:List Nat): ∃k,eW c=cw c k:=by
 rcases jt (jW c (c.length - 1)) c with h | h
 ·exact ⟨0,by show bU _ _=_;rw[h];unfold cw;simp⟩
 ·unfold jW at h
  obtain ⟨k,_,e⟩:=UQ.mp h
  exact ⟨k+1,e.symm⟩
theorem zk (w:List Nat):(de w).length<=w.length:=by
 obtain ⟨k,e⟩:=qf (core (red w))
 unfold de
 rw[e,cb]
 exact UW (ub _) (jT w)
def xx (_:PySem.W.Frag):Sp:=fun vs H Q _=> ∃l:List Nat,vs=[.str (S l)]/\(∀c∈l,Lt c)/\l.length<=1000/\ ∀H',ay H H'->Q (.str (S (de l))) H'
theorem A3 {K:PySem.W.Frag} {vs:List V} {H:Hp} {Q:VK} {E:XK} (h:xx K vs H Q E):vs.length=1:=by obtain ⟨c,rfl,_⟩:=h;rfl
theorem Hb (n d:Nat):HT.g6 n d (some (-1))=n - 1:=by
 have e:HT.g6 n d (some (-1))=(if (-1:Int)<0 then ((-1:Int)+(n:Int)).toNat else min (-1:Int).toNat n):=rfl
 rw[e,if_pos (by decide)]
 omega
def AllLt (l:List Nat):Prop:= ∀c∈l,Lt c
theorem nJ (a b:List Nat): ¬a<cC a b:=by
 unfold cC
 split
 ·rename_i h;exact fun g=>Wf a (List.lt_trans g h)
 ·exact Wf a
theorem l_ (a b:List Nat): ¬b<cC a b:=by
 unfold cC
 split
 ·exact Wf b
 ·rename_i h;exact h
theorem Fo {a b c:List Nat} (h: ¬b<a) (g: ¬c<b): ¬c<a:=List.le_trans (show a<=b from h) (show b<=c from g)
theorem ju: ∀(r:List (List Nat)) (a:List Nat), ∀x∈a::r, ¬x<bU a r
 | [],a,x,hx=>by rw[PC.mp hx];exact Wf a
 | b::r,a,x,hx=>by
  show ¬x<bU (cC a b) r
  have h0:=ju r (cC a b) (cC a b) UA
  rcases T3.mp hx with e | hx
  ·rw[e];exact Fo h0 (nJ a b)
  ·rcases T3.mp hx with e | hx
   ·rw[e];exact Fo h0 (l_ a b)
   ·exact ju r (cC a b) x (T5 _ hx)
theorem uc (c:List Nat):cw c 0=c:=by unfold cw;simp
theorem jX (u:List Nat): ∀(m i:Nat),i<m*u.length->(cM m u)[i]? =u[i%u.length]?
 | 0,i,h=>by simp at h
 | m+1,i,h=>by
  rw[dR,List.getElem?_append]
  by_cases z:i<u.length
  ·rw[if_pos z,VG z]
  ·rw[if_neg z,jX u m (i - u.length) (by rw[V4]at h;omega), <-Xj (by omega)]
def dA (w:List Nat) (s:Nat):Prop:=cM (w.length / s) (w.take s)=w
def gj (w:List Nat) (k:Nat):Prop:=cw w k=w
noncomputable instance (w:List Nat) (s:Nat):Decidable (dA w s):=by unfold dA;infer_instance
noncomputable instance (w:List Nat) (s:Nat):Decidable (gj w s):=by unfold gj;infer_instance
def bf (w:List Nat) (s:Nat):Prop:=(w=[]/\s=0)\/(1<=s/\s<=w.length/\dA w s/\ ∀j,1<=j->j<s-> ¬dA w j)
def jv (w:List Nat) (s:Nat):Prop:=(w=[]/\s=0)\/(1<=s/\s<=w.length/\gj w s/\ ∀j,1<=j->j<s-> ¬gj w j)
theorem rF {w:List Nat} {s:Nat} (h1:1<=s) (h2:s<=w.length) (h:dA w s):gj w s:=by
 unfold dA at h
 have hm:1<=w.length / s:=Nat.div_pos h2 h1
 obtain ⟨m,e⟩: ∃m,w.length / s=m+1:=⟨w.length / s - 1,by omega⟩
 rw[e]at h
 have hu:(w.take s).length=s:=by rw[UB];omega
 generalize w.take s=u at h hu
 unfold gj cw
 rw[<-h,dR,List.drop_left' hu,List.take_left' hu, <-vJ,dR]
noncomputable def Fw (w:List Nat) (i:Nat):Option Nat:=w[i%w.length]?
theorem mK {w:List Nat} {k i:Nat} (hk:k<=w.length) (hi:i<w.length):(cw w k)[i]? =Fw w (i+k):=by
 unfold cw Fw
 rw[List.getElem?_append,US]
 by_cases z:i<w.length - k
 ·rw[if_pos z,VJ,VG (by omega),Xl]
 ·rw[if_neg z,Wb,if_pos (by omega),Xj (by omega),VG (by omega)]
  congr 1
  omega
def uW (w:List Nat) (k:Nat):Prop:= ∀i,Fw w (i+k)=Fw w i
theorem A4 (w:List Nat) (i k:Nat):Fw w (i%w.length+k)=Fw w (i+k):=by unfold Fw;rw[Nat.mod_add_mod]
theorem fM {w:List Nat} {k:Nat} (hn:w≠[]) (hk:k<=w.length):gj w k↔uW w k:=by
 have hl:0<w.length:=IC.mpr hn
 constructor
 ·intro h i
  have hi:=Wa i hl
  rw[<-A4, <-mK hk hi,h]
  rfl
 ·intro h
  refine Xo fun i=>?_
  by_cases hi:i<w.length
  ·rw[mK hk hi,h i]
   unfold Fw
   rw[VG hi]
  ·have hr:(cw w k).length=w.length:=cb w k
   rw[VL (by omega),VL (by omega)]
theorem uW.mul {w:List Nat} {k:Nat} (h:uW w k): ∀j i,Fw w (i+k*j)=Fw w i
 | 0,i=>rfl
 | j+1,i=>by rw[Nat.mul_succ, <-Nat.add_assoc,h,uW.mul h j]
theorem uW.whole (w:List Nat):uW w w.length:=fun i=>by unfold Fw;rw[Nat.add_mod_right]
theorem uW.rest {w:List Nat} {k:Nat} (h:uW w k):uW w (w.length%k):=fun i=>by
 rw[<-h.mul (w.length / k) (i+w.length%k),Nat.add_assoc,W0]
 exact uW.whole w i
theorem qg {w:List Nat} {k:Nat} (hn:w≠[]) (h1:1<=k) (h2:k<=w.length) (h:gj w k) (hl: ∀j,1<=j->j<k-> ¬gj w j):dA w k:=by
 have hp:=(fM hn h2).mp h
 have hr:w.length%k=0:=by
  by_cases z:w.length%k=0
  ·exact z
  ·have dk:=Wa w.length (show k>0 by omega)
   exact absurd ((fM hn (by omega)).mpr hp.rest) (hl _ (by omega) dk)
 have hm:w.length / k*k=w.length:=by
  have:=W0 w.length k
  rw[hr,WW,VD]at this
  exact this
 have hu:(w.take k).length=k:=by rw[UB];omega
 unfold dA
 refine Xo fun i=>?_
 by_cases hi:i<w.length
 ·rw[jX _ _ _ (by rw[hu,hm];exact hi),hu,Wb]
  have RM:=Wa i (show k>0 by omega)
  rw[if_pos RM]
  have e:=hp.mul (i / k) (i%k)
  rw[W0]at e
  unfold Fw at e
  rw[VG hi,VG (by omega)]at e
  exact e.symm
 ·rw[VL (by rw[nC,hu,hm];omega),VL (by omega)]
theorem iS {w:List Nat} {s k:Nat} (h:bf w s) (g:jv w k):s=k:=by
 rcases h with ⟨e,e2⟩ | ⟨h1,h2,h3,h4⟩
 ·rcases g with ⟨_,g2⟩ | ⟨g1,g2,_,_⟩
  ·rw[e2,g2]
  ·rw[e]at g2;simp at g2;omega
 ·rcases g with ⟨e,_⟩ | ⟨g1,g2,g3,g4⟩
  ·rw[e]at h2;simp at h2;omega
  ·have hn:w≠[]:=fun z=>by rw[z]at h2;simp at h2;omega
   by_cases z:s<k
   ·exact absurd (rF h1 h2 h3) (g4 s h1 z)
   ·by_cases z2:k<s
    ·exact absurd (qg hn g1 g2 g3 g4) (h4 k g1 z2)
    ·omega
theorem qh (w:List Nat) (h:w≠[]):dA w w.length:=by
 have hl:0<w.length:=IC.mpr h
 unfold dA
 rw[Nat.div_self hl,UR (Mq _)]
 show cM (0+1) w=w
 rw[dR]
 simp[cM]
theorem zo (w:List Nat):gj w w.length:=by
 unfold gj cw
 rw[Vx (Mq _),UR (Mq _)]
 rfl
noncomputable def DY (c:List Nat) (n:Nat):List Nat:=((List.range n).map (· +1)).filter fun k=>decide (gj c k)
theorem rG {c:List Nat} {n k:Nat}:k∈DY c n↔(1<=k/\k<=n)/\gj c k:=by
 unfold DY
 rw[U7,UQ]
 constructor
 ·rintro ⟨⟨j,hj,rfl⟩,h⟩
  have:=Vp.mp hj
  exact ⟨by omega,of_decide_eq_true h⟩
 ·rintro ⟨h1,h2⟩
  exact ⟨⟨k - 1,Vp.mpr (by omega),by omega⟩,decide_eq_true h2⟩
theorem vV (c:List Nat) (n:Nat):(DY c n).Pairwise (· < ·):=by
 unfold DY
 refine List.Pairwise.filter _ ?_
 rw[Vo]
 exact (List.pairwise_lt_range (n:=n)).imp fun h=>Nat.succ_lt_succ h
theorem nK {c:List Nat} (h:c≠[]): ∃k r,DY c c.length=k::r/\jv c k:=by
 have hl:0<c.length:=IC.mpr h
 have hm:c.length∈DY c c.length:=rG.mpr ⟨by omega,zo c⟩
 rcases e:DY c c.length with _ | ⟨k,r⟩
 ·rw[e]at hm;exact absurd hm UP
 ·refine ⟨k,r,rfl, .inr ?_⟩
  have hk:k∈DY c c.length:=by rw[e];exact UA
  obtain ⟨⟨h1,h2⟩,h3⟩:=rG.mp hk
  refine ⟨h1,h2,h3,fun j j1 j2 z=>?_⟩
  have hj:j∈DY c c.length:=rG.mpr ⟨by omega,z⟩
  have hs:=vV c c.length
  rw[e]at hj hs
  rcases T3.mp hj with w | w
  ·omega
  ·have:=List.rel_of_pairwise_cons hs w
   omega
noncomputable def Fp (w:List Nat) (s:Nat):List V:=[.str (S (w.take s)), .int ((w.length / s:Nat):Int)]
def xA (_:PySem.W.Frag):Sp:=fun vs H Q _=> ∃l:List Nat,vs=[.str (S l)]/\(∀c∈l,Lt c)/\l.length<=1000/\ ∀p s H',H p=none->H' p=some (.tup (Fp (de l) s))->bf (de l) s->ay H H'->Q (.ref p) H'
theorem A5 {K:PySem.W.Frag} {vs:List V} {H:Hp} {Q:VK} {E:XK} (h:xA K vs H Q E):vs.length=1:=by obtain ⟨c,rfl,_⟩:=h;rfl
theorem aY: ∀c∈aX,az c=true/\PyProof.Rows.lo1 c=c/\aD c∈jq:=by decide+kernel
theorem bI: ∀c∈jq,az c=false/\PyProof.Rows.lo1 c=aD c/\c∉aX/\aD c∈aX:=by decide+kernel
theorem qj: ∀c∈jq,c∉aX:=by decide+kernel
theorem iT {c:Nat} (h:Lt c):az c=decide (c∈aX):=by
 rcases h with h | h
 ·rw[(aY c h).1,decide_eq_true h]
 ·rw[(bI c h).1,decide_eq_false (bI c h).2.2.1]
noncomputable def gr (y:List Nat) (a b c:Nat):Bool:=decide ((((y.idxOf b:Nat):Int) - ((y.idxOf a:Nat):Int))%(y.length:Int)<(((y.idxOf c:Nat):Int) - ((y.idxOf a:Nat):Int))%(y.length:Int))
def i8 (i j k:Nat):Prop:=(i<j/\j<k)\/(j<k/\k<i)\/(k<i/\i<j)
noncomputable instance (i j k:Nat):Decidable (i8 i j k):=by unfold i8;infer_instance
theorem ik {i j n:Nat} (hi:i<n) (hj:j<n):((j:Int) - (i:Int))%(n:Int)=if i<=j then (j:Int) - i else (j:Int) - i+n:=by
 split
 ·exact UU (by omega) (by omega)
 ·rw[<-VU]
  exact UU (by omega) (by omega)
theorem fT {y:List Nat} {a b c:Nat} (hn:y.Nodup) (ha:a∈y) (hb:b∈y) (hc:c∈y) (uX:a≠b) (Fq:a≠c) (Fs:b≠c):gr y a b c=decide (i8 (y.idxOf a) (y.idxOf b) (y.idxOf c)):=by
 have ia:=Rm ha
 have ib:=Rm hb
 have ic:=Rm hc
 have inj: ∀{u v:Nat},u∈y->v∈y->u≠v->y.idxOf u≠y.idxOf v:=fun {u v} hu hv h z=>h (by
  have e1:=Vt (Rm hu)
  have e2:=Vt (Rm hv)
  rw[<-e1, <-e2]
  congr 1)
 have n1:=inj ha hb uX
 have n2:=inj ha hc Fq
 have n3:=inj hb hc Fs
 unfold gr
 rw[ik ia ib,ik ia ic]
 generalize y.idxOf a=i at*
 generalize y.idxOf b=j at*
 generalize y.idxOf c=k at*
 refine decide_eq_decide.mpr ?_
 unfold i8
 split<;>split<;>omega
theorem A6 {i j k:Nat}:i8 j k i↔i8 i j k:=by unfold i8;omega
theorem DZ {i j k:Nat} (h1:i≠j) (h2:i≠k) (h3:j≠k):i8 i k j↔ ¬i8 i j k:=by unfold i8;omega
theorem D0 {y:List Nat} {a b c:Nat} (hn:y.Nodup) (ha:a∈y) (hb:b∈y) (hc:c∈y) (uX:a≠b) (Fq:a≠c) (Fs:b≠c):gr y b c a=gr y a b c:=by
 rw[fT hn ha hb hc uX Fq Fs,fT hn hb hc ha Fs (Ne.symm uX) (Ne.symm Fq)]
 exact decide_eq_decide.mpr A6
theorem bQ {y:List Nat} {u v:Nat} (hu:u∈y) (hv:v∈y) (h:u≠v):y.idxOf u≠y.idxOf v:=fun z=>h (by
 have e1:=Vt (Rm hu)
 have e2:=Vt (Rm hv)
 rw[<-e1, <-e2]
 congr 1)
theorem Hc {y:List Nat} {a b c:Nat} (hn:y.Nodup) (ha:a∈y) (hb:b∈y) (hc:c∈y) (uX:a≠b) (Fq:a≠c) (Fs:b≠c):gr y a c b=!gr y a b c:=by
 rw[fT hn ha hb hc uX Fq Fs,fT hn ha hc hb Fq uX (Ne.symm Fs)]
 rw[<-decide_not]
 exact decide_eq_decide.mpr (DZ (bQ ha hb uX) (bQ ha hc Fq) (bQ hb hc Fs))
theorem Hd (d:Nat) (t:List Nat) (a:Nat):(d::t).idxOf a=if d=a then 0 else t.idxOf a+1:=by
 by_cases h:d=a
 ·subst h;rw[if_pos rfl,List.idxOf_cons_self]
 ·rw[if_neg h,List.idxOf_cons,show (d==a)=false by simp[h]];rfl
theorem zp {a b:List Nat} (h:a.Perm b) (ha:a.Pairwise (· <= ·)) (hb:b.Pairwise (· <= ·)):a=b:=
 List.Perm.eq_of_pairwise (le:=fun x y=>x<=y) (fun _ _ _ _ h1 h2=>W2 h1 h2) ha hb h
def ud (_:PySem.W.Frag):Sp:=fun vs H Q _=> ∃l:List Nat,vs=[.str (S l)]/\(∀c∈l,c<128)/\l.length<64/\ ∀l' H',l'.Perm (l.filter az)->l'.Pairwise (· <= ·)->ay H H'->Q (.str (S l')) H'
theorem zq {K:PySem.W.Frag} {vs:List V} {H:Hp} {Q:VK} {E:XK} (h:ud K vs H Q E):vs.length=1:=by obtain ⟨c,rfl,_⟩:=h;rfl
def il (_:PySem.W.Frag):Sp:=fun vs H Q _=> ∃(y:List Nat) (a b:Nat),vs=[.str (S y), .str (S [a]), .str (S [b])]/\a∈y/\b∈y/\y.length<=1000/\Q (.int ((((y.idxOf b:Nat):Int) - ((y.idxOf a:Nat):Int))%(y.length:Int))) H
theorem md {K:PySem.W.Frag} {vs:List V} {H:Hp} {Q:VK} {E:XK} (h:il K vs H Q E):vs.length=3:=by obtain ⟨c,_,_,rfl,_⟩:=h;rfl
theorem ue {p:Nat->Bool} {l:List Nat} {i c:Nat} (h:l[i]? =some c):(l.take (i+1)).filter p=(l.take i).filter p++if p c=true then [c] else []:=by
 rw[<-take_snoc h,VT]
 congr 1
 by_cases z:p c=true
 ·rw[if_pos z,U3 z];rfl
 ·rw[if_neg z,UT z];rfl
theorem A7 {y:List Nat} (h:Yd y):2*(y.filter az).length=y.length:=by
 have key: ∀p q:Nat->Bool,(∀c∈y,p c=true->q (aD c)=true)->(y.filter p).length<=(y.filter q).length:=fun p q LF=>by
  have hn:((y.filter p).map aD).Nodup:=by
   show ((y.filter p).map aD).Pairwise (· ≠ ·)
   rw[Vo]
   refine (h.nd.filter p).imp_of_mem fun {a b} ha hb z e=>z ?_
   exact ff (h.lt a (U7.mp ha).1) (h.lt b (U7.mp hb).1) e
  have:=hn.length_le_of_subset (l₂:=y.filter q) fun c hc=>by
   obtain ⟨d,hd,rfl⟩:=UQ.mp hc
   obtain ⟨d1,d2⟩:=U7.mp hd
   exact U7.mpr ⟨h.cl d d1,LF d d1 d2⟩
  rwa [Py]at this
 have k1:=key az (fun c=>!az c) fun c hc z=>by
  rw[iT (h.lt c hc)]at z
  have hs:=of_decide_eq_true z
  rw[(bI _ (aY c hs).2.2).1];rfl
 have k2:=key (fun c=>!az c) az fun c hc z=>by
  rcases h.lt c hc with q | q
  ·rw[(aY c q).1]at z;cases z
  ·exact (aY _ (bI c q).2.2.2).1
 have k3:(y.filter az).length+(y.filter fun c=>!az c).length=y.length:=by
  clear k1 k2 key h
  induction y with
  | nil=>rfl
  | cons a r ih=>
   cases hq:az a
   ·rw[UT (by simp[hq]),U3 (by simp[hq]),U1,U1];omega
   ·rw[U3 hq,UT (by simp[hq]),U1,U1];omega
 omega
noncomputable def rd (w:List Nat) (k:Int):Nat:=w.getD (k%(w.length:Int)).toNat 0
theorem LG {w:List Nat} (h:w≠[]) (k:Int):(k%(w.length:Int)).toNat<w.length:=by
 have:0<w.length:=IC.mpr h
 have h1:=Vs k (b:=(w.length:Int)) (by omega)
 have h2:=Vm k (b:=(w.length:Int)) (by omega)
 omega
theorem dS {w:List Nat} (h:w≠[]) (k:Int):w[(k%(w.length:Int)).toNat]? =some (rd w k):=by
 unfold rd
 rw[Ro,GJ (LG h k)]
 rfl
theorem kK {w:List Nat} (h:w≠[]) (k:Int):rd w k∈w:=UC (dS h k)
theorem dU (w:List Nat) (k:Int):rd w (k+w.length)=rd w k:=by unfold rd;rw[VU]
theorem gG (w:List Nat) (k:Int):rd w (k%w.length)=rd w k:=by unfold rd;rw[Wr _ (Int.dvd_refl _)]
theorem kL {w:List Nat} {k:Nat} (h:k<w.length):w[k]? =some (rd w k):=by
 have dh:w≠[]:=fun z=>by rw[z]at h;exact absurd h (WZ _)
 have:=dS dh (k:Int)
 rwa [UU (by omega) (by omega),PB]at this
theorem uf {w:List Nat} {k:Int} {n:Nat} {c:Nat} (hn:n<w.length) (e:k%(w.length:Int)=n) (h:w[n]? =some c):rd w k=c:=by
 have:=kL hn
 rw[h]at this
 rw[<-gG,e]
 exact (UE this).symm
theorem nL {w:List Nat} {k:Int} (h1: -(w.length:Int)<=k) (h2:k<w.length):pR w k=some (rd w k):=by
 have dh:w≠[]:=fun z=>by rw[z]at h1 h2;simp at h1 h2;omega
 unfold pR CQ
 by_cases h0:0<=k
 ·rw[if_pos h0,if_pos h2]
  have:=dS dh k
  rw[UU h0 h2]at this
  exact this
 ·rw[if_neg h0,if_pos h1]
  have:=dS dh (k+w.length)
  rw[dU,UU (by omega) (by omega)]at this
  exact this
theorem gH {f:Int->Nat} {p:Nat} (P: ∀k,f (k+p)=f k) (k:Int): ∀t:Nat,f (k+t*p)=f k
 | 0=>by simp
 | t+1=>by
  have:k+((t+1:Nat):Int)*p=k+t*p+p:=by rw[U8,Int.add_mul];simp;omega
  rw[this,P,gH P k t]
theorem fw {f g:Int->Nat} {p q:Nat} (hp:0<p) (hq:0<q) (Pf: ∀k,f (k+p)=f k) (Pg: ∀k,g (k+q)=g k) (h: ∀n:Nat,n<p+q->f n=g n) (k:Int):f k=g k:=by
 have up: ∀N n:Nat,n<N->f n=g n:=by
  intro N
  induction N with
  | zero=>intro n hn;omega
  | succ N ih=>
   intro n hn
   by_cases z:n<p+q
   ·exact h n z
   ·have e1:f n=f ((n - p:Nat):Int):=by have:=Pf ((n - p:Nat):Int);rwa [show ((n - p:Nat):Int)+p=n by omega]at this
    have e2:g ((n - p:Nat):Int)=g ((n - p - q:Nat):Int):=by have:=Pg ((n - p - q:Nat):Int);rwa [show ((n - p - q:Nat):Int)+q=((n - p:Nat):Int) by omega]at this
    have e3:f ((n - q:Nat):Int)=f ((n - p - q:Nat):Int):=by have:=Pf ((n - p - q:Nat):Int);rwa [show ((n - p - q:Nat):Int)+p=((n - q:Nat):Int) by omega]at this
    have e4:g n=g ((n - q:Nat):Int):=by have:=Pg ((n - q:Nat):Int);rwa [show ((n - q:Nat):Int)+q=n by omega]at this
    rw[e1,ih (n - p) (by omega),e2, <-ih (n - p - q) (by omega), <-e3,ih (n - q) (by omega), <-e4]
 have nG: ∃m:Nat,k+((k.natAbs*q:Nat):Int)*p=m/\k+((k.natAbs*p:Nat):Int)*q=m:=by
  have e1:((k.natAbs*q:Nat):Int)*p=((k.natAbs*(q*p):Nat):Int):=by rw[Nat.mul_assoc k.natAbs q p |>.symm];simp
  have e2:((k.natAbs*p:Nat):Int)*q=((k.natAbs*(q*p):Nat):Int):=by rw[VD q p,Nat.mul_assoc k.natAbs p q |>.symm];simp
  have hle:k.natAbs<=k.natAbs*(q*p):=Nat.le_mul_of_pos_right _ (Xy hq hp)
  generalize k.natAbs*(q*p)=M at e1 e2 hle
  exact ⟨(k+M).toNat,by omega,by omega⟩
 obtain ⟨m,h1,h2⟩:=nG
 rw[<-gH Pf k (k.natAbs*q),h1, <-gH Pg k (k.natAbs*p),h2]
 exact up (m+1) m (VH m)
noncomputable def oQ (f g:Int->Nat):Nat->Nat->Nat
 | 0,i=>i
 | n+1,i=>if f i=g i then oQ f g n (i+1) else i
theorem iq (f g:Int->Nat): ∀n i:Nat,i<=oQ f g n i/\oQ f g n i<=i+n/\(∀j:Nat,i<=j->j<oQ f g n i->f j=g j)/\(oQ f g n i<i+n->f (oQ f g n i)≠g (oQ f g n i))
 | 0,i=>⟨Mq _,Mq _,fun j h1 h2=>absurd (UX h1 h2) (U_ _),fun h=>absurd h (U_ _)⟩
 | n+1,i=>by
  unfold oQ
  by_cases z:f i=g i
  ·rw[if_pos z]
   obtain ⟨h1,h2,h3,h4⟩:=iq f g n (i+1)
   refine ⟨by omega,by omega,fun j g1 g2=>?_,fun g1=>h4 (by omega)⟩
   by_cases e:j=i
   ·rw[e];exact z
   ·exact h3 j (by omega) g2
  ·rw[if_neg z]
   exact ⟨Mq _,by omega,fun j g1 g2=>absurd (UX g1 g2) (U_ _),fun _=>z⟩
noncomputable def al (y:List Nat) (f g:Int->Nat) (n:Nat):Nat:=
 if f 0≠g 0\/f (-1)=g (-1) then 0 else
 if gr y (aD (f (-1))) (aD (g (-1))) (f 0)=gr y (f (oQ f g n 0)) (g (oQ f g n 0)) (aD (f ((oQ f g n 0:Nat) - 1))) then oQ f g n 0 else 0
noncomputable def ac (y:List Nat) (a b p q:Nat):Bool:=if p=a\/p=b\/q=a\/q=b then false else (gr y a p b != gr y a q b)
noncomputable def sq (w:List Nat) (i:Int):Int->Nat:=fun n=>rd w (i+n)
noncomputable def bq (v:List Nat) (j:Int):Int->Nat:=fun n=>aD (rd v (j - n))
theorem cH (w:List Nat) (i k:Int):sq w i (k+w.length)=sq w i k:=by unfold sq;rw[<-WK,dU]
theorem vW (w:List Nat) (k:Int):rd w (k - w.length)=rd w k:=by rw[<-dU w (k - w.length)];congr 1;omega
theorem nM (w:List Nat) (i k:Int):bq w i (k+w.length)=bq w i k:=by unfold bq;rw[show i - (k+(w.length:Int))=i - k - w.length by omega,vW]
theorem gI {v:List Nat} (h:v≠[]) (k:Int):rd (cT v) k=aD (rd v (-1 - k)):=by
 have nG:0<v.length:=IC.mpr h
 have h1:=Vs k (b:=(v.length:Int)) (by omega)
 have h2:=Vm k (b:=(v.length:Int)) (by omega)
 have e:(-1 - k)%(v.length:Int)=v.length - 1 - k%v.length:=by
  have e1:=W6 k v.length
  have: -1 - k=(v.length - 1 - k%v.length)+v.length*(-(k / v.length) - 1):=by rw[Int.mul_sub,Int.mul_neg];omega
  rw[this,WD,UU (by omega) (by omega)]
 generalize hr:k%(v.length:Int)=r at h1 h2 e
 obtain ⟨n,rfl⟩: ∃n:Nat,r=n:=⟨r.toNat,by omega⟩
 have hn:n<v.length:=by omega
 have e2:rd v (-1 - k)=v[v.length - 1 - n]'(by omega):=uf (n:=v.length - 1 - n) (by omega) (by rw[e];omega) (GJ (by omega))
 rw[e2]
 refine uf (n:=n) (by rw[bN];exact hn) (by rw[bN];exact hr) ?_
 unfold cT
 rw[Wm (by rw[Py];exact hn),Py,UI,GJ (by omega)]
 rfl
theorem He {v:List Nat} (h:v≠[]) (j:Nat):sq (cT v) ((v.length:Int) - 1 - j)=bq v j:=by
 funext n
 unfold sq bq
 rw[gI h,show -1 - ((v.length:Int) - 1 - j+n)=j - n - v.length by omega,vW]
structure SW (y w:List Nat):Prop where
 ne:w≠[]
 bL: ∀c∈w,c∈y
 red: ∀k:Int,rd w k≠aD (rd w (k - 1))
theorem SW.rd {y w:List Nat} (h:SW y w) (k:Int):rd w k∈y:=h.bL _ (kK h.ne k)
theorem iU {w v:List Nat} {f g:Int->Nat} (hw:w≠[]) (hv:v≠[]) (pf: ∀k,f (k+w.length)=f k) (pg: ∀k,g (k+v.length)=g k) (h:f (-1)≠g (-1)):oQ f g (w.length+v.length) 0<w.length+v.length/\f (oQ f g (w.length+v.length) 0)≠g (oQ f g (w.length+v.length) 0):=by
 obtain ⟨_,b,c,d⟩:=iq f g (w.length+v.length) 0
 by_cases z:oQ f g (w.length+v.length) 0<w.length+v.length
 ·exact ⟨z,d (by omega)⟩
 ·exact absurd (fw (IC.mpr hw) (IC.mpr hv) pf pg (fun n hn=>c n (T6 _) (by omega)) (-1)) h
noncomputable def ug (ws:List (List Nat)):Nat->List (Nat×Nat)
 | 0=>[]
 | n+1=>ug ws n++(List.range (ws.getD n []).length).map fun i=>(n,i)
noncomputable def places (ws:List (List Nat)):List (Nat×Nat):=ug ws ws.length
theorem mL {ws:List (List Nat)}: ∀{n:Nat} {o:Nat×Nat},o∈ug ws n↔o.1<n/\o.2<(ws.getD o.1 []).length
 | 0,o=>by simp[ug]
 | n+1,o=>by
  unfold ug
  rw[UO,mL (n:=n),UQ]
  constructor
  ·rintro (⟨h1,h2⟩ | ⟨i,hi,rfl⟩)
   ·exact ⟨by omega,h2⟩
   ·exact ⟨by simp,Vp.mp hi⟩
  ·rintro ⟨h1,h2⟩
   by_cases z:o.1<n
   ·exact .inl ⟨z,h2⟩
   ·have e:o.1=n:=by omega
    exact .inr ⟨o.2,Vp.mpr (by rw[<-e];exact h2),by rw[<-e]⟩
theorem xB {ws:List (List Nat)}: ∀n:Nat,(ug ws n).Pairwise fun a b=>CY a.1 a.2 b.1 b.2=true
 | 0=>List.Pairwise.nil
 | n+1=>by
  unfold ug
  rw[VN]
  refine ⟨xB n,?_,fun a ha b hb=>?_⟩
  ·rw[Vo]
   refine List.pairwise_lt_range.imp fun {a b} h=>?_
   unfold CY
   rw[if_pos rfl]
   exact decide_eq_true (by show (a:Int)<b;omega)
  ·obtain ⟨i,hi,rfl⟩:=UQ.mp hb
   have:=(mL.mp ha).1
   unfold CY
   rw[if_neg (by show ¬((a.1:Nat):Int)=(n:Nat);omega)]
   exact decide_eq_true (by show ((a.1:Nat):Int)<(n:Nat);omega)
theorem kM: ∀{a b:List Int},bp a b=true->bp b a=false/\a≠b
 | [],[],h=>by simp[bp]at h
 | [],_::_,h=>⟨rfl,by simp⟩
 | _::_,[],h=>by simp[bp]at h
 | x::r,z::t,h=>by
  simp only[bp]at h ⊢
  split at h
  ·rename_i e
   obtain ⟨h1,h2⟩:=kM h
   rw[if_pos e.symm]
   exact ⟨h1,fun q=>h2 (List.cons.inj q).2⟩
  ·rename_i e
   have h':=of_decide_eq_true h
   rw[if_neg (fun q=>e q.symm)]
   exact ⟨decide_eq_false (by omega),fun q=>e (List.cons.inj q).1⟩
noncomputable def bP (n:Nat) (l:List Nat):List Nat:=(List.replicate n l).flatten
def zZ (w:List Nat):Prop:= ∀(k a b:Nat),w[k]? =some a->w[k+1]? =some b->b≠aD a
theorem zZ.nil:zZ []:=fun k a b h=>by simp at h
theorem zZ.take {w:List Nat} (h:zZ w) (n:Nat):zZ (w.take n):=fun k a b h1 h2=>by
 rw[Wb]at h1 h2
 split at h1
 ·split at h2
  ·exact h k a b h1 h2
  ·cases h2
 ·cases h1
theorem zZ.snoc {w:List Nat} {c:Nat} (h:zZ w) (hc: ∀a,w.getLast? =some a->c≠aD a):zZ (w++[c]):=fun k a b h1 h2=>by
 by_cases z:k+1<w.length
 ·rw[Va (by omega)]at h1
  rw[Va z]at h2
  exact h k a b h1 h2
 ·have vL:k+1<(w++[c]).length:=(GK.mp h2).1
  rw[Rk]at vL
  have e:k+1=w.length:=by simp at vL;omega
  rw[Va (by omega)]at h1
  rw[e,Vl (Mq _),Nat.sub_self]at h2
  have e2:c=b:=by simpa using h2
  rw[<-e2]
  refine hc a ?_
  rw[WE, show w.length - 1=k by omega]
  exact h1
theorem SW.of {y w:List Nat} (ne:w≠[]) (bL: ∀c∈w,c∈y) (Hf:zZ w) (hd: ∀a b,w.head? =some a->w.getLast? =some b->a≠aD b):SW y w:=by
 refine ⟨ne,bL,fun k=>?_⟩
 have nG:0<w.length:=IC.mpr ne
 have h1:=Vs k (b:=(w.length:Int)) (by omega)
 have h2:=Vm k (b:=(w.length:Int)) (by omega)
 have hk:=dS ne k
 have IE:=dS ne (k - 1)
 by_cases z:k%(w.length:Int)=0
 ·have e:(k - 1)%(w.length:Int)=w.length - 1:=by
   rw[<-Int.emod_sub_emod,z]
   have:(0:Int) - 1=(w.length - 1)+w.length*(-1):=by omega
   rw[this,WD,UU (by omega) (by omega)]
  rw[z]at hk
  rw[e]at IE
  refine hd _ _ ?_ ?_
  ·rw[List.head?_eq_getElem?];exact hk
  ·rw[WE, show w.length - 1=((w.length:Int) - 1).toNat by omega];exact IE
 ·have e:(k - 1)%(w.length:Int)=k%w.length - 1:=by
   rw[<-Int.emod_sub_emod,UU (by omega) (by omega)]
  rw[e]at IE
  refine Hf _ _ _ IE ?_
  rw[show (k%(w.length:Int) - 1).toNat+1=(k%(w.length:Int)).toNat by omega]
  exact hk
theorem SW.Hf {y w:List Nat} (h:SW y w):zZ w:=fun k a b h1 h2=>by
 have hk:=(GK.mp h2).1
 have e1:=kL (w:=w) (k:=k) (by omega)
 have e2:=kL (w:=w) (k:=k+1) hk
 rw[h1]at e1
 rw[h2]at e2
 rw[UE e1,UE e2]
 have:=h.red ((k+1:Nat):Int)
 rwa [show (((k+1:Nat):Int) - 1)=(k:Int) by omega]at this
theorem rH {w:List Nat} {n:Nat} (h:w≠[]) (hn:n<=w.length) (k:Int):rd (w.drop n++w.take n) k=rd w (k+n):=by
 have nG:0<w.length:=IC.mpr h
 have hl:(w.drop n++w.take n).length=w.length:=by rw[Rk,US,UB];omega
 have h1:=Vs k (b:=(w.length:Int)) (by omega)
 have h2:=Vm k (b:=(w.length:Int)) (by omega)
 have e:(k+n)%(w.length:Int)=(k%w.length+n)%w.length:=by rw[Xu]
 generalize hr:k%(w.length:Int)=r at h1 h2 e
 obtain ⟨m,rfl⟩: ∃m:Nat,r=m:=⟨r.toNat,by omega⟩
 have hm:m<w.length:=by omega
 by_cases z:m+n<w.length
 ·have hg:w[m+n]? =some (rd w (k+n)):=by
   have:=dS h (k+n)
   rwa [e,UU (by omega) (by omega),show ((m:Int)+n).toNat=m+n by omega]at this
  refine uf (n:=m) (by rw[hl];exact hm) (by rw[hl];exact hr) ?_
  rw[Va (by rw[US];omega),VJ,Xl]
  exact hg
 ·have hg:w[m+n - w.length]? =some (rd w (k+n)):=by
   have:=dS h (k+n)
   have e2:((m:Int)+n)%w.length=((m+n - w.length:Nat):Int):=by
    have:(m:Int)+n=((m+n - w.length:Nat):Int)+w.length:=by omega
    rw[this,VU,UU (by omega) (by omega)]
   rwa [e,e2,PB]at this
  refine uf (n:=m) (by rw[hl];exact hm) (by rw[hl];exact hr) ?_
  rw[Vl (by rw[US];omega),US,Wb,if_pos (by omega),show m - (w.length - n)=m+n - w.length by omega]
  exact hg
theorem SW.cw {y w:List Nat} {n:Nat} (h:SW y w) (hn:n<=w.length):SW y (w.drop n++w.take n):=by
 refine ⟨fun z=>h.ne ?_,fun c hc=>?_,fun k=>?_⟩
 ·have l0:(w.drop n++w.take n).length=0:=by rw[z];rfl
  rw[Rk,US,UB]at l0
  exact Vk.mp (by omega)
 ·exact h.bL c ((UO.mp hc).elim W8 V2)
 ·rw[rH h.ne hn,rH h.ne hn,show k - 1+n=k+n - 1 by omega]
  exact h.red _
theorem SW.cT {y w:List Nat} (hy:Yd y) (h:SW y w):SW y (cT w):=by
 refine ⟨fun z=>h.ne ?_,fun c hc=>?_,fun k=>?_⟩
 ·have:=bN w
  rw[z]at this
  exact Vk.mp this.symm
 ·obtain ⟨d,hd,rfl⟩:=UQ.mp (WM.mp hc)
  exact hy.cl d (h.bL d hd)
 ·rw[gI h.ne,gI h.ne,show -1 - (k - 1)= -1 - k+1 by omega]
  intro q
  have l1:=hy.lt _ (h.rd (-1 - k))
  have l2:=hy.lt _ (h.rd (-1 - k+1))
  rw[aN l2]at q
  have:=h.red (-1 - k+1)
  rw[show -1 - k+1 - 1= -1 - k by omega]at this
  exact this q.symm
theorem jY (n:Nat) (l:List Nat):bP (n+1) l=l++bP n l:=by unfold bP;rw[W_,V1]
theorem jZ (n:Nat) (l:List Nat):(bP n l).length=n*l.length:=by
 induction n with
 | zero=>simp[bP]
 | succ n ih=>rw[jY,Rk,ih,V4,Xl]
theorem xC {l:List Nat}: ∀{n k:Nat},k<n*l.length->(bP n l)[k]? =l[k%l.length]?
 | 0,k,h=>by simp at h
 | n+1,k,h=>by
  rw[jY]
  by_cases z:k<l.length
  ·rw[Va z,VG z]
  ·rw[Vl (by omega),xC (by rw[V4]at h;omega),Xj (by omega:l.length<=k)]
theorem j4 {w:List Nat} {n:Nat} (h:w≠[]) (hn:0<n) (k:Int):rd (bP n w) k=rd w k:=by
 have nG:0<w.length:=IC.mpr h
 have hl:=jZ n w
 have P4:0<n*w.length:=Xy hn nG
 have h1:=Vs k (b:=((n*w.length:Nat):Int)) (by omega)
 have h2:=Vm k (b:=((n*w.length:Nat):Int)) (by omega)
 have e:k%(w.length:Int)=(k%((n*w.length:Nat):Int))%w.length:=(Wr k (by rw[Vr];exact Int.dvd_mul_left _ _)).symm
 generalize hr:k%((n*w.length:Nat):Int)=r at h1 h2 e
 obtain ⟨m,rfl⟩: ∃m:Nat,r=m:=⟨r.toNat,by omega⟩
 have hm:m<n*w.length:=by omega
 refine uf (n:=m) (by rw[hl];exact hm) (by rw[hl];exact hr) ?_
 rw[xC hm]
 have:=dS h k
 rwa [e,show (((m:Int)%w.length).toNat)=m%w.length by rw[<-Wo,PB]]at this
theorem D1 {w:List Nat} {n c:Nat} (h:c∈bP n w):c∈w:=by
 obtain ⟨l,hl,hc⟩:=List.mem_flatten.mp h
 rwa [List.eq_of_mem_replicate hl]at hc
theorem SW.cM {y w:List Nat} {n:Nat} (h:SW y w) (hn:0<n):SW y (bP n w):=by
 refine ⟨fun z=>?_,fun c hc=>h.bL c (D1 hc),fun k=>by rw[j4 h.ne hn,j4 h.ne hn];exact h.red k⟩
 have:=jZ n w
 rw[z]at this
 have h2:0<n*w.length:=Xy hn (IC.mpr h.ne)
 simp at this
 omega
theorem SW.twice {y w:List Nat} (h:SW y w):SW y (w++w):=by
 have:=h.cM (n:=2) (by decide)
 rwa [show bP 2 w=w++w by rw[jY,jY];simp[bP]]at this
theorem rJ {w:List Nat} (h:w≠[]):w.getLast? =some (rd w (-1)):=by
 have nG:0<w.length:=IC.mpr h
 have:=dS h (-1)
 have e:(-1:Int)%(w.length:Int)=w.length - 1:=by
  have e2:(-1:Int)=((w.length:Int) - 1)+w.length*(-1):=by omega
  rw[e2,WD,UU (by omega) (by omega)]
 rw[e]at this
 rw[WE, show w.length - 1=((w.length:Int) - 1).toNat by omega]
 exact this
theorem xD {w:List Nat} (h:w≠[]):w.head? =some (rd w 0):=by
 have:=dS h 0
 rw[List.head?_eq_getElem?]
 simpa using this
theorem zr (w:List Nat): ∃k,jv w k:=by
 by_cases h:w=[]
 ·exact ⟨0, .inl ⟨h,rfl⟩⟩
 ·obtain ⟨k,_,_,t⟩:=nK h
  exact ⟨k,t⟩
theorem bf.turn {w:List Nat} {s:Nat} (h:bf w s):jv w s:=by
 obtain ⟨k,t⟩:=zr w
 rw[iS h t];exact t
theorem D4 {w:List Nat} {s:Nat} (h2:s<=w.length) (h:dA w s):w.length / s*s=w.length:=by
 have:=congrArg List.length h
 rw[nC,UB,Vd h2]at this
 exact this
theorem bf.least {w:List Nat} {s j:Nat} (h:bf w s) (j1:1<=j) (j2:j<s) (hp:uW w j):False:=by
 rcases h.turn with ⟨_,e⟩ | ⟨h1,h2,h3,h4⟩
 ·omega
 ·have hn:w≠[]:=fun z=>by rw[z]at h2;simp at h2;omega
  exact h4 j j1 j2 ((fM hn (by omega)).mpr hp)
theorem SW.RN {y w:List Nat} (hy:Yd y) (h:SW y w):vU w:=A1 fun k a b ha hb e=>by
 have Ft:b∈y:=h.bL b (UC hb)
 have:=h.Hf k a b ha hb
 rw[e,aN (hy.lt b Ft)]at this
 exact this rfl
theorem SW.core {y w:List Nat} (hy:Yd y) (h:SW y w):My.core (My.red w)=w:=by
 rw[AZ (h.RN hy)]
 by_cases z:w.length<2
 ·exact gE z
 ·obtain ⟨a,m,e,hw⟩:=A2 (l:=w) (by omega)
  have h0:=xD h.ne
  have h1:=rJ h.ne
  have hr:=h.red 0
  rw[show (0:Int) - 1= -1 by omega]at hr
  rw[hw]at h0 h1 hr ⊢
  have e0:a=My.rd (a::(m++[e])) 0:=UE h0
  have e1:e=My.rd (a::(m++[e])) (-1):=by
   have:(a::(m++[e])).getLast? =some e:=by rw[<-List.cons_append,List.getLast?_append];rfl
   exact UE (this.symm.trans h1)
  exact kJ (by rw[<-e0, <-e1]at hr;exact hr)
theorem rK {w:List Nat} {k:Nat} (hk:k<=w.length) (i:Nat):Fw (cw w k) i=Fw w (i+k):=by
 by_cases z:w=[]
 ·subst z
  unfold Fw cw
  simp
 ·have hp:0<w.length:=IC.mpr z
  have e:Fw (cw w k) i=(cw w k)[i%w.length]?:= by unfold Fw;rw[cb]
  rw[e,mK hk (Wa _ hp),A4]
theorem xE {w:List Nat} {k s:Nat} (hk:k<=w.length) (hn:w≠[]):uW (cw w k) s↔uW w s:=by
 constructor
 ·intro h i
  have h1:=h (i+(w.length - k))
  rw[rK hk,rK hk]at h1
  have e1:i+(w.length - k)+s+k=i+s+w.length:=by omega
  have e2:i+(w.length - k)+k=i+w.length:=by omega
  rw[e1,e2,uW.whole w,uW.whole w]at h1
  exact h1
 ·intro h i
  rw[rK hk,rK hk,show i+s+k=i+k+s by omega]
  exact h _
theorem qk {w:List Nat} (hn:w≠[]) {s:Nat} (h:bf w s):jv w s:=by
 obtain ⟨k,r,_,g⟩:=nK hn
 rw[iS h g]
 exact g
theorem A8 {w:List Nat} {k s:Nat} (hk:k<=w.length) (hn:w≠[]) (h:jv (cw w k) s):jv w s:=by
 have ve:cw w k≠[]:=fun z=>hn (Vk.mp (by have:=cb w k;rw[z]at this;exact this.symm))
 rcases h with ⟨z,_⟩ | ⟨h1,h2,h3,h4⟩
 ·exact absurd z ve
 ·rw[cb]at h2
  refine .inr ⟨h1,h2,(fM hn h2).mpr ((xE hk hn).mp ((fM ve (by rw[cb];exact h2)).mp h3)),fun j j1 j2 j3=>h4 j j1 j2 ?_⟩
  exact (fM ve (by rw[cb];omega)).mpr ((xE hk hn).mpr ((fM hn (by omega)).mp j3))
theorem zt {y w:List Nat} {s t:Nat} (hy:Yd y) (h:SW y w) (hr:bf (de w) s) (hw:bf w t):s=t/\(de w).length=w.length:=by
 have e:de w=eW w:=by unfold de;rw[h.core hy]
 obtain ⟨k,ek⟩:=qf w
 have vL: ∃k,k<=w.length/\eW w=cw w k:=by
  by_cases z:k<=w.length
  ·exact ⟨k,z,ek⟩
  ·refine ⟨w.length,Mq _,?_⟩
   rw[ek]
   unfold cw
   rw[Vx (by omega),UR (by omega),List.drop_length,VA]
 obtain ⟨k,hk,ek⟩:=vL
 rw[e,ek]at hr ⊢
 have ve:cw w k≠[]:=fun z=>h.ne (Vk.mp (by have:=cb w k;rw[z]at this;exact this.symm))
 refine ⟨?_,cb w k⟩
 exact (iS hw (A8 hk h.ne (qk ve hr))).symm
theorem xF {w:List Nat} (hn:w≠[]): ∃s,bf w s:=by
 obtain ⟨k,r,_,g⟩:=nK hn
 rcases g with ⟨z,_⟩ | ⟨h1,h2,h3,h4⟩
 ·exact absurd z hn
 ·exact ⟨k, .inr ⟨h1,h2,qg hn h1 h2 h3 h4,fun j j1 j2 j3=>h4 j j1 j2 (rF j1 (by omega) j3)⟩⟩
theorem A9 {w:List Nat} {s t:Nat} (hn:w≠[]) (h:bf w s) (g:bf w t):s=t:=iS h (qk hn g)
structure IH (y:List Nat) (ws:List (List Nat)):Prop where
 sw: ∀w∈ws,SW y w/\w.length<=12
 xt:ws.length<=4
 all:(places ws).length<=24
theorem getD_in {ws:List (List Nat)} {c:Nat} (h:c<ws.length):ws.getD c []∈ws:=by
 rw[Ro,GJ h];exact Vb h
def ir (_:PySem.W.Frag):Sp:=fun vs H Q _=> ∃(w:List Nat) (i:Nat),vs=[.str (S w), .int i]/\(∀c∈w,Lt c)/\w.length<=1000/\i<w.length/\ ∀q H',H q=none->H' q=some (.tup [.str (S [aD (rd w ((i:Int) - 1))]), .str (S [rd w i])])->ay H H'->Q (.ref q) H'
theorem me {K:PySem.W.Frag} {vs:List V} {H:Hp} {Q:VK} {E:XK} (h:ir K vs H Q E):vs.length=2:=by obtain ⟨_,_,rfl,_⟩:=h;rfl
def ql (_:PySem.W.Frag):Sp:=fun vs H Q _=> ∃(b:Addr) (y:List Nat) (top:Nat),vs=[.ref b, .str (S y), .int top]/\cE H b/\Yd y/\2<=y.length/\y.length<=8/\1<=top/\top<=100/\ ∀(w:List Nat) H',SW y w->w.length<=top->cE H' b->aR b H H'->Q (.str (S w)) H'
theorem vX {K:PySem.W.Frag} {vs:List V} {H:Hp} {Q:VK} {E:XK} (h:ql K vs H Q E):vs.length=3:=by obtain ⟨_,_,_,rfl,_⟩:=h;rfl
theorem rL {ws:List (List Nat)} {m:Nat} (h: ∀w∈ws,w.length<=m): ∀n:Nat,n<=ws.length->(ug ws n).length<=n*m
 | 0,_=>T6 _
 | n+1,hn=>by
  unfold ug
  have:=rL h n (by omega)
  have h2:=h _ (getD_in (ws:=ws) (c:=n) (by omega))
  rw[Rk,Py,WG,V4]
  omega
theorem A_ {α:Type} (w:List α):cut w none (some (-1))=w.take (w.length - 1):=by
 unfold cut
 rw[HT.m5,Hb]
 simp
structure Wd (y w:List Nat):Prop where
 Hf:zZ w
 bL: ∀c∈w,c∈y
theorem Wd.more {y w:List Nat} {c:Nat} (h:Wd y w) (hc:c∈y) (hn:w≠[]->c≠aD (rd w (-1))):Wd y (w++[c]):=
 ⟨h.Hf.snoc fun a ha=>by
  have dh:w≠[]:=fun z=>by rw[z]at ha;simp at ha
  rw[rJ dh]at ha
  rw[<-UE ha]
  exact hn dh,fun a ha=>by
  rcases UO.mp ha with g | g
  ·exact h.bL a g
  ·rw[PC.mp g];exact hc⟩
theorem Wd.sw {y w:List Nat} (h:Wd y w) (dh:w≠[]) (he:rd w 0≠aD (rd w (-1))):SW y w:=
 SW.of dh h.bL h.Hf fun a b ha hb=>by
  rw[xD dh]at ha
  rw[rJ dh]at hb
  rw[<-UE ha, <-UE hb]
  exact he
theorem Wd.one {y w:List Nat} (hy:Yd y) (h:Wd y w) (h1:w.length=1):SW y w:=by
 have dh:w≠[]:=fun z=>by rw[z]at h1;simp at h1
 refine h.sw dh ?_
 have e:rd w 0=rd w (-1):=by
  have:=dU w (-1)
  rw[h1]at this
  exact this
 rw[<-e]
 exact fun q=>kI (hy.lt _ (h.bL _ (kK dh 0))) q.symm
theorem xG {y w u:List Nat} (hw:SW y w) (hu:SW y u) (lw:w.length<=12) (lu:u.length<=12):IH y [w,u]:=by
 refine ⟨fun x hx=>?_,by show 2<=4;decide,?_⟩
 ·rcases T3.mp hx with g | g
  ·rw[g];exact ⟨hw,lw⟩
  ·rw[PC.mp g];exact ⟨hu,lu⟩
 ·have:=rL (ws:=[w,u]) (m:=12) (fun x hx=>by
   rcases T3.mp hx with g | g
   ·rw[g];exact lw
   ·rw[PC.mp g];exact lu) 2 (Mq _)
  exact this
noncomputable def uh (y:List Nat) (a b:Nat):Int:=((y.idxOf b:Int) - (y.idxOf a:Int))%(y.length:Int)
noncomputable def dW (y:List Nat) (f:Int->Nat) (k:Int):Int:=uh y (aD (f (k - 1))) (f k)
structure gS (y:List Nat) (f:Int->Nat):Prop where
 bL: ∀k,f k∈y
 red: ∀k,f k≠aD (f (k - 1))
structure Run (f g:Int->Nat) (a b:Nat):Prop where
 mM: ∀k:Int, -(b:Int)<=k->k<=a->f k=g k
 hi:f (a+1)≠g (a+1)
 lo:f (-(b:Int) - 1)≠g (-(b:Int) - 1)
noncomputable def i9 (f:Int->Nat):Int->Nat:=fun k=>aD (f (-k))
noncomputable def cR (f:Int->Nat):Int->Nat:=fun k=>f (k - 1)
noncomputable def gk (y:List Nat) (f g:Int->Nat) (a:Nat):Bool:=decide (dW y f (a+1)<dW y g (a+1))
noncomputable def gx (y:List Nat) (f g:Int->Nat) (b:Nat):Bool:=decide (dW y f (-(b:Int))<dW y g (-(b:Int)))
noncomputable def sQ (x a b:Nat):Bool:=decide (b<a\/(a=b/\az x=false))
noncomputable def vY (y:List Nat) (f g:Int->Nat) (a b:Nat):Bool:=if sQ (f 0) a b=true then gx y f g b else gk y f g a
theorem Run.one {f g:Int->Nat} {a b a' b':Nat} (h:Run f g a b) (h':Run f g a' b'):a=a'/\b=b':=by
 constructor
 ·by_cases z:a<a'
  ·exact absurd (h'.mM (a+1) (by omega) (by omega)) h.hi
  ·by_cases z2:a'<a
   ·exact absurd (h.mM (a'+1) (by omega) (by omega)) h'.hi
   ·omega
 ·by_cases z:b<b'
  ·exact absurd (h'.mM (-(b:Int) - 1) (by omega) (by omega)) h.lo
  ·by_cases z2:b'<b
   ·exact absurd (h.mM (-(b':Int) - 1) (by omega) (by omega)) h'.lo
   ·omega
theorem Run.bk {f g:Int->Nat} {a b:Nat} (h:Run f g a (b+1)):Run (cR f) (cR g) (a+1) b:=
 ⟨fun k h1 h2=>h.mM (k - 1) (by omega) (by omega),fun z=>h.hi (by
  unfold cR at z
  rwa [show ((a+1:Nat):Int)+1 - 1=a+1 by omega]at z),fun z=>h.lo (by
  unfold cR at z
  rwa [show -(b:Int) - 1 - 1= -((b+1:Nat):Int) - 1 by omega]at z)⟩
theorem Run.fd {f g:Int->Nat} {a b:Nat} (h:Run (cR f) (cR g) (a+1) b):Run f g a (b+1):=
 ⟨fun k h1 h2=>by
  have:=h.mM (k+1) (by omega) (by omega)
  unfold cR at this
  rwa [show k+1 - 1=k by omega]at this,fun z=>h.hi (by
  unfold cR
  rwa [show ((a+1:Nat):Int)+1 - 1=a+1 by omega]),fun z=>h.lo (by
  unfold cR
  rwa [show -(b:Int) - 1 - 1= -((b+1:Nat):Int) - 1 by omega])⟩
theorem mN (y:List Nat) (f:Int->Nat) (k:Int):dW y (cR f) k=dW y f (k - 1):=rfl
theorem j5 (y:List Nat) (f g:Int->Nat) (a:Nat):gk y (cR f) (cR g) (a+1)=gk y f g a:=by
 unfold gk
 rw[mN,mN,show ((a+1:Nat):Int)+1 - 1=a+1 by omega]
theorem j6 (y:List Nat) (f g:Int->Nat) (b:Nat):gx y (cR f) (cR g) b=gx y f g (b+1):=by
 unfold gx
 rw[mN,mN,show -(b:Int) - 1= -((b+1:Nat):Int) by omega]
theorem Ba {x z a b:Nat} (h:sQ x a (b+1)=true):sQ z (a+1) b=true:=by
 unfold sQ at h ⊢
 have:=of_decide_eq_true h
 exact decide_eq_true (by omega)
theorem dX {y:List Nat} {a b:Nat} (ha:a∈y) (hb:b∈y) (h:a≠b):0<uh y a b/\uh y a b<y.length/\uh y b a=y.length - uh y a b:=by
 have ia:=Rm ha
 have ib:=Rm hb
 have n:=bQ ha hb h
 unfold uh
 rw[ik ia ib,ik ib ia]
 generalize y.idxOf a=i at*
 generalize y.idxOf b=j at*
 split<;>split<;>omega
theorem j7 {y:List Nat} {a b c:Nat} (ha:a∈y) (hb:b∈y) (hc:c∈y) (h:uh y a b=uh y a c):b=c:=by
 have ia:=Rm ha
 have ib:=Rm hb
 have ic:=Rm hc
 refine Classical.byContradiction fun z=>bQ hb hc z ?_
 unfold uh at h
 rw[ik ia ib,ik ia ic]at h
 split at h<;>split at h<;>omega
theorem gS.rv {y:List Nat} {f:Int->Nat} (hy:Yd y) (h:gS y f):gS y (i9 f):=⟨fun k=>hy.cl _ (h.bL _),fun k z=>by
 unfold i9 at z
 have e:=aN (hy.lt _ (h.bL (-(k - 1))))
 rw[e]at z
 have:=h.red (-(k - 1))
 rw[show -(k - 1) - 1= -k by omega]at this
 exact this z.symm⟩
theorem lO {y:List Nat} {f:Int->Nat} (hy:Yd y) (h:gS y f):i9 (i9 f)=f:=by
 funext k
 unfold i9
 rw[aN (hy.lt _ (h.bL _)),Int.neg_neg]
theorem iu {y:List Nat} {f:Int->Nat} (hy:Yd y) (h:gS y f) (k:Int):dW y (i9 f) (k+1)=y.length - dW y f (-k):=by
 unfold dW i9
 rw[show k+1 - 1=k by omega,aN (hy.lt _ (h.bL _)),show -(k+1)= -k - 1 by omega]
 exact (dX (hy.cl _ (h.bL _)) (h.bL _) (Ne.symm (h.red _))).2.2
theorem Run.rv {y:List Nat} {f g:Int->Nat} {a b:Nat} (hy:Yd y) (hf:gS y f) (hg:gS y g) (h:Run f g a b):Run (i9 f) (i9 g) b a:=
 ⟨fun k h1 h2=>by unfold i9;rw[h.mM _ (by omega) (by omega)],fun z=>h.lo (by
  unfold i9 at z
  have:=ff (hy.lt _ (hf.bL _)) (hy.lt _ (hg.bL _)) z
  rwa [show -((b:Int)+1)= -(b:Int) - 1 by omega]at this),fun z=>h.hi (by
  unfold i9 at z
  have:=ff (hy.lt _ (hf.bL _)) (hy.lt _ (hg.bL _)) z
  rwa [show -(-(a:Int) - 1)=a+1 by omega]at this)⟩
theorem fg: ∀c∈aX++jq,az (aD c)=!az c:=by decide+kernel
theorem Hg {y:List Nat} {f g:Int->Nat} {a b:Nat} (hy:Yd y) (hf:gS y f) (hg:gS y g) (h0:f 0=g 0):vY y (i9 g) (i9 f) b a=vY y f g a b:=by
 have e1:gx y (i9 g) (i9 f) a=gk y f g a:=by
  unfold gx gk
  have h1:=iu hy hf (-(a:Int) - 1)
  have h2:=iu hy hg (-(a:Int) - 1)
  rw[show -(a:Int) - 1+1= -a by omega,show -(-(a:Int) - 1)=a+1 by omega]at h1 h2
  rw[h1,h2]
  exact decide_eq_decide.mpr (by omega)
 have e2:gk y (i9 g) (i9 f) b=gx y f g b:=by
  unfold gx gk
  rw[iu hy hf,iu hy hg]
  exact decide_eq_decide.mpr (by omega)
 unfold vY
 rw[e1,e2]
 have e3:sQ (i9 g 0) b a=!sQ (f 0) a b:=by
  unfold sQ i9
  rw[show (-0:Int)=0 from rfl, <-h0,fg _ (hy.lt _ (hf.bL 0)).mem]
  rw[<-decide_not]
  refine decide_eq_decide.mpr ?_
  cases az (f 0)
  ·simp;omega
  ·simp;omega
 rw[e3]
 cases sQ (f 0) a b<;>rfl
def uB (y:List Nat) (f g:Int->Nat):Prop:= ∃a b,Run f g a b/\sQ (f 0) a b=true/\gk y f g a≠gx y f g b
def gJ (y:List Nat) (f g:Int->Nat):Prop:= ∃a,Run f g a 0/\gk y f g a≠gx y f g 0
open Classical in
noncomputable def one (p:Prop):Int:=if p then 1 else 0
theorem eX {p:Prop} (h:p):one p=1:=by unfold one;rw[if_pos h]
theorem aV {p:Prop} (h: ¬p):one p=0:=by unfold one;rw[if_neg h]
theorem ba {p q:Prop} (h:p↔q):one p=one q:=by rw[propext h]
theorem Run.zero {f g:Int->Nat} {a b:Nat} (h:Run f g a b):f 0=g 0:=h.mM 0 (by omega) (by omega)
theorem Bb {y:List Nat} {f g:Int->Nat} {e0 e1:Bool} {m:Prop}
  (r0:f 0=g 0-> ∃a b,Run f g a b) (r1:f (-1)=g (-1)-> ∃a b,Run (cR f) (cR g) a b)
  (h0: ∀a b,Run f g a b->e0=vY y f g a b) (h1: ∀a b,Run (cR f) (cR g) a b->e1=vY y (cR f) (cR g) a b)
  (ma:f 0=g 0->f (-1)≠g (-1)->(m↔e0≠gx y f g 0)) (mb:f (-1)=g (-1)->f 0≠g 0->(m↔e1≠gk y (cR f) (cR g) 0)) (mc:f (-1)=g (-1)->f 0=g 0->(m↔e1≠e0))
  (t:f 0=g 0\/f (-1)=g (-1)):one m=one (gJ y f g)+one (uB y (cR f) (cR g)) - one (uB y f g):=by
 have hb: ∀{a b},Run (cR f) (cR g) a b->f (-1)=g (-1):=fun h=>h.zero
 by_cases z0:f 0=g 0
 ·obtain ⟨a,b,r⟩:=r0 z0
  have e:=h0 a b r
  unfold vY at e
  have hu:uB y f g↔(sQ (f 0) a b=true/\gk y f g a≠gx y f g b):=⟨fun ⟨a',b',r',x⟩=>by obtain ⟨rfl,rfl⟩:=r.one r';exact x,fun x=>⟨a,b,r,x⟩⟩
  by_cases z1:f (-1)=g (-1)
  ·cases b with
   | zero=>exact absurd z1 r.lo
   | succ b=>
    have r2:=r.bk
    have e2:=h1 _ _ r2
    unfold vY at e2
    have LH:uB y (cR f) (cR g)↔(sQ (cR f 0) (a+1) b=true/\gk y f g a≠gx y f g (b+1)):=⟨fun ⟨a',b',r',x⟩=>by
     obtain ⟨rfl,rfl⟩:=r2.one r'
     rw[j5,j6]at x;exact x,fun x=>⟨_,_,r2,by rw[j5,j6];exact x⟩⟩
    rw[j5,j6]at e2
    have LI: ¬gJ y f g:=fun ⟨a',r',_⟩=>absurd (r.one r').2 (Wn b)
    rw[aV LI,ba hu,ba LH,ba (mc z1 z0),e,e2]
    have mono:= @Ba (f 0) (cR f 0) a b
    generalize sQ (f 0) a (b+1)=B0 at*
    generalize sQ (cR f 0) (a+1) b=B1 at*
    generalize gk y f g a=A at*
    generalize gx y f g (b+1)=C at*
    revert mono
    cases B0<;>cases B1<;>cases A<;>cases C<;>simp[one]
  ·have b0:b=0:=by
    cases b with
    | zero=>rfl
    | succ b=>exact absurd (r.mM (-1) (by omega) (by omega)) z1
   subst b0
   have LH: ¬uB y (cR f) (cR g):=fun ⟨_,_,r',_⟩=>z1 (hb r')
   have LI:gJ y f g↔gk y f g a≠gx y f g 0:=⟨fun ⟨a',r',x⟩=>by obtain ⟨rfl,_⟩:=r.one r';exact x,fun x=>⟨a,r,x⟩⟩
   rw[aV LH,ba LI,ba hu,ba (ma z0 z1),e]
   generalize sQ (f 0) a 0=B0 at*
   generalize gk y f g a=A at*
   generalize gx y f g 0=C at*
   cases B0<;>cases A<;>cases C<;>simp[one]
 ·have z1:=t.resolve_left z0
  obtain ⟨a,b,r⟩:=r1 z1
  have a0:a=0:=by
   cases a with
   | zero=>rfl
   | succ a=>exact absurd (r.fd.zero) z0
  subst a0
  have e:=h1 _ _ r
  unfold vY at e
  have RO: ¬uB y f g:=fun ⟨_,_,r',_⟩=>z0 r'.zero
  have LI: ¬gJ y f g:=fun ⟨_,r',_⟩=>z0 r'.zero
  have LH:uB y (cR f) (cR g)↔(sQ (cR f 0) 0 b=true/\gk y (cR f) (cR g) 0≠gx y (cR f) (cR g) b):=⟨fun ⟨a',b',r',x⟩=>by
   obtain ⟨rfl,rfl⟩:=r.one r';exact x,fun x=>⟨_,_,r,x⟩⟩
  rw[aV RO,aV LI,ba LH,ba (mb z1 z0),e]
  generalize sQ (cR f 0) 0 b=B0 at*
  generalize gk y (cR f) (cR g) 0=A at*
  generalize gx y (cR f) (cR g) b=C at*
  cases B0<;>cases A<;>cases C<;>simp[one]
theorem cW {f g:Int->Nat} {p q:Nat} (hp:0<p) (hq:0<q) (Pf: ∀k,f (k+p)=f k) (Pg: ∀k,g (k+q)=g k) (h0:f 0=g 0) (hn: ∃k,f k≠g k): ∃a b,Run f g a b/\a<p+q/\b<p+q:=by
 obtain ⟨k0,P5⟩:=hn
 have up: ∃a:Nat,a<p+q/\(∀j:Nat,j<a->f (j+1)=g (j+1))/\f (a+1)≠g (a+1):=by
  obtain ⟨_,b,c,d⟩:=iq (fun k=>f (k+1)) (fun k=>g (k+1)) (p+q) 0
  by_cases z:oQ (fun k=>f (k+1)) (fun k=>g (k+1)) (p+q) 0<p+q
  ·exact ⟨_,z,fun j hj=>c j (T6 _) hj,d (by omega)⟩
  ·refine absurd ?_ P5
   have:=fw (f:=fun k=>f (k+1)) (g:=fun k=>g (k+1)) hp hq (fun k=>by rw[show k+(p:Int)+1=k+1+p by omega];exact Pf _) (fun k=>by rw[show k+(q:Int)+1=k+1+q by omega];exact Pg _) (fun n hn=>c n (T6 _) (by omega)) (k0 - 1)
   rwa [show k0 - 1+1=k0 by omega]at this
 have RP: ∀k,f (-(k+p))=f (-k):=fun k=>by have:=Pf (-(k+p));rw[<-this];congr 1;omega
 have RQ: ∀k,g (-(k+q))=g (-k):=fun k=>by have:=Pg (-(k+q));rw[<-this];congr 1;omega
 have dn: ∃a:Nat,a<p+q/\(∀j:Nat,j<a->f (-(j:Int) - 1)=g (-(j:Int) - 1))/\f (-(a:Int) - 1)≠g (-(a:Int) - 1):=by
  obtain ⟨_,b,c,d⟩:=iq (fun k=>f (-k - 1)) (fun k=>g (-k - 1)) (p+q) 0
  by_cases z:oQ (fun k=>f (-k - 1)) (fun k=>g (-k - 1)) (p+q) 0<p+q
  ·exact ⟨_,z,fun j hj=>c j (T6 _) hj,d (by omega)⟩
  ·refine absurd ?_ P5
   have:=fw (f:=fun k=>f (-k - 1)) (g:=fun k=>g (-k - 1)) hp hq (fun k=>by have:=RP (k+1);rw[show -(k+(p:Int)) - 1= -(k+1+p) by omega,this];congr 1;omega) (fun k=>by have:=RQ (k+1);rw[show -(k+(q:Int)) - 1= -(k+1+q) by omega,this];congr 1;omega) (fun n hn=>c n (T6 _) (by omega)) (-k0 - 1)
   rwa [show -(-k0 - 1) - 1=k0 by omega]at this
 obtain ⟨a,ha,a1,a2⟩:=up
 obtain ⟨b,hb,b1,b2⟩:=dn
 refine ⟨a,b,⟨fun k h1 h2=>?_,a2,b2⟩,ha,hb⟩
 by_cases z:k=0
 ·rw[z];exact h0
 ·by_cases z2:0<k
  ·obtain ⟨j,rfl⟩: ∃j:Nat,k=j+1:=⟨(k - 1).toNat,by omega⟩
   exact a1 j (by omega)
  ·obtain ⟨j,rfl⟩: ∃j:Nat,k= -(j:Int) - 1:=⟨(-k - 1).toNat,by omega⟩
   exact b1 j (by omega)
theorem Bc {y:List Nat} {p p' x:Nat} (hy:Yd y) (hp:p∈y) (vZ:p'∈y) (hx:x∈y) (h1:p≠p') (h2:p≠x) (h3:p'≠x):decide (uh y p x<uh y p' x)=!gr y p p' x:=by
 have ip:=Rm hp
 have RS:=Rm vZ
 have ix:=Rm hx
 have n1:=bQ hp vZ h1
 have n2:=bQ hp hx h2
 have n3:=bQ vZ hx h3
 rw[fT hy.nd hp vZ hx h1 h2 h3]
 unfold uh
 rw[ik ip ix,ik RS ix, <-decide_not]
 refine decide_eq_decide.mpr ?_
 unfold i8
 split<;>split<;>omega
theorem Bd {y:List Nat} {f g:Int->Nat} (hy:Yd y) (hf:gS y f) (hg:gS y g) (h0:f 0=g 0) (h1:f (-1)≠g (-1)):gx y f g 0=!gr y (aD (f (-1))) (aD (g (-1))) (f 0):=by
 have e:gx y f g 0=decide (uh y (aD (f (-1))) (f 0)<uh y (aD (g (-1))) (g 0)):=rfl
 rw[e, <-h0]
 have r1:=hf.red 0
 have r2:=hg.red 0
 rw[show (0:Int) - 1= -1 by omega]at r1 r2
 exact Bc hy (hy.cl _ (hf.bL _)) (hy.cl _ (hg.bL _)) (hf.bL 0) (fun z=>h1 (ff (hy.lt _ (hf.bL _)) (hy.lt _ (hg.bL _)) z)) (Ne.symm r1) (by rw[h0];exact Ne.symm r2)
theorem Be {y:List Nat} {f g:Int->Nat} {a:Nat} (h:f a=g a):gk y f g a=gr y (aD (f a)) (f (a+1)) (g (a+1)):=by
 unfold gk dW
 rw[show (a:Int)+1 - 1=a by omega, <-h]
 rfl
theorem xH {y:List Nat} {f g:Int->Nat} {n:Nat} (hy:Yd y) (hf:gS y f) (hg:gS y g) (hd:f (-1)≠g (-1)->oQ f g n 0<n/\f (oQ f g n 0)≠g (oQ f g n 0)):gJ y f g↔0<al y f g n:=by
 unfold al
 by_cases z:f 0≠g 0\/f (-1)=g (-1)
 ·rw[if_pos z]
  refine ⟨fun ⟨a,r,_⟩=>?_,fun h=>absurd h (U_ _)⟩
  rcases z with z | z
  ·exact absurd r.zero z
  ·exact absurd z r.lo
 ·rw[if_neg z]
  have z0:f 0=g 0:=Classical.byContradiction fun q=>z (.inl q)
  have z1:f (-1)≠g (-1):=fun q=>z (.inr q)
  obtain ⟨d1,d2⟩:=hd z1
  obtain ⟨_,_,d3,_⟩:=iq f g n 0
  generalize oQ f g n 0=D at*
  cases D with
  | zero=>exact absurd z0 d2
  | succ a=>
   have r:Run f g a 0:=⟨fun k h1 h2=>by
    obtain ⟨j,rfl⟩: ∃j:Nat,k=j:=⟨k.toNat,by omega⟩
    exact d3 j (T6 _) (by omega),d2,z1⟩
   have e1:((a+1:Nat):Int)=(a:Int)+1:=by omega
   rw[e1,show (a:Int)+1 - 1=a by omega]
   have Mx:=d3 a (T6 _) (VH a)
   have rf:=hf.red (a+1)
   have rg:=hg.red (a+1)
   rw[show (a:Int)+1 - 1=a by omega]at rf rg
   have RT:f (a+1)≠g (a+1):=d2
   have eg:=D0 hy.nd (hy.cl _ (hf.bL a)) (hf.bL (a+1)) (hg.bL (a+1)) (Ne.symm rf) (by rw[Mx];exact Ne.symm rg) RT
   rw[eg, <-Be Mx]
   have eb:=Bd hy hf hg z0 z1
   have key:gJ y f g↔gk y f g a≠gx y f g 0:=⟨fun ⟨a',r',x⟩=>by obtain ⟨rfl,_⟩:=r.one r';exact x,fun x=>⟨a,r,x⟩⟩
   rw[key,eb]
   generalize gr y (aD (f (-1))) (aD (g (-1))) (f 0)=G
   generalize gk y f g a=A
   cases G<;>cases A<;>simp
noncomputable def mf (a b a' b':Nat):Bool:=decide (i8 a a' b) != decide (i8 a b' b)
theorem iw (a b a' b':Nat):mf a b a' b'=mf a b b' a':=by unfold mf;generalize decide (i8 a a' b)=p;generalize decide (i8 a b' b)=q;cases p<;>cases q<;>rfl
theorem ui (a b:Nat):mf a b a b=false:=by
 unfold mf
 have h1: ¬i8 a a b:=by unfold i8;omega
 have h2: ¬i8 a b b:=by unfold i8;omega
 rw[decide_eq_false h1,decide_eq_false h2]
 rfl
theorem iV {a b:Nat} (h:a≠b):decide (b<a)=!decide (a<b):=by
 rcases VS h with q | q
 ·rw[decide_eq_true q,decide_eq_false (Wz q)];rfl
 ·rw[decide_eq_true q,decide_eq_false (Wz q)];rfl
theorem Fu {a b c:Nat} (h1:a≠b) (h2:b≠c) (h3:a≠c):decide (i8 a b c)=!(decide (a<b) ^^ (decide (b<c) ^^ decide (c<a))):=by
 have e:decide (i8 a b c)=((decide (a<b)&&decide (b<c))||((decide (b<c)&&decide (c<a))||(decide (c<a)&&decide (a<b)))):=by
  rw[<-XB, <-XB, <-XB, <-Bool.decide_or, <-Bool.decide_or]
  exact decide_eq_decide.mpr Iff.rfl
 rw[e]
 have k1:decide (a<b)=true->decide (b<c)=true->decide (c<a)=true->False:=fun p q r=>Wz (V6 (of_decide_eq_true p) (of_decide_eq_true q)) (of_decide_eq_true r)
 have k2:decide (b<a)=true->decide (c<b)=true->decide (a<c)=true->False:=fun p q r=>Wz (V6 (of_decide_eq_true q) (of_decide_eq_true p)) (of_decide_eq_true r)
 rw[iV h1,iV h2,iV (Ne.symm h3)]at k2
 revert k1 k2
 generalize decide (a<b)=p
 generalize decide (b<c)=q
 generalize decide (c<a)=r
 revert p q r
 decide
theorem Bf {a b a' b':Nat} (h1:a≠b) (h3:a≠a') (h4:a≠b') (h5:b≠a') (h6:b≠b'):mf a b a' b'=((decide (a<a') ^^ decide (a'<b)) ^^ (decide (a<b') ^^ decide (b'<b))):=by
 unfold mf
 rw[Fu h3 (Ne.symm h5) h1,Fu h4 (Ne.symm h6) h1]
 generalize decide (a<a')=p
 generalize decide (a'<b)=q
 generalize decide (a<b')=r
 generalize decide (b'<b)=s
 generalize decide (b<a)=t
 revert p q r s t
 decide
theorem j8 {a b a' b':Nat} (h1:a≠b) (h2:a'≠b') (h3:a≠a') (h4:a≠b') (h5:b≠a') (h6:b≠b'):mf a b a' b'=mf a' b' a b:=by
 rw[Bf h1 h3 h4 h5 h6,Bf h2 (Ne.symm h3) (Ne.symm h5) (Ne.symm h4) (Ne.symm h6),iV h3,iV (Ne.symm h6)]
 generalize decide (a<a')=p
 generalize decide (a'<b)=q
 generalize decide (a<b')=r
 generalize decide (b'<b)=s
 revert p q r s
 decide
theorem uj {a b a' b':Nat} (h1:a≠b) (h2:a'≠b') (h3:a≠a') (h4:a≠b') (h5:b≠a') (h6:b≠b'):mf b a a' b'=mf a b a' b':=by
 rw[j8 (Ne.symm h1) h2 h5 h6 h3 h4,iw,j8 h2 h1 (Ne.symm h3) (Ne.symm h5) (Ne.symm h4) (Ne.symm h6)]
theorem D5 {a b c i j k:Nat} (n1:i≠j) (n2:i≠k) (n3:j≠k) (h1:i<j->a<b) (h2:j<i->b<a) (h3:i<k->a<c) (h4:k<i->c<a) (h5:j<k->b<c) (h6:k<j->c<b):i8 a b c↔i8 i j k:=by
 have e: ∀{i j a b:Nat},i≠j->(i<j->a<b)->(j<i->b<a)->(i<j↔a<b):=fun {i j a b} n f g=>⟨f,fun q=>(VS n).elim id fun r=>absurd (g r) (Wz q)⟩
 unfold i8
 rw[e n1 h1 h2,e n3 h5 h6,e (Ne.symm n2) h4 h3]
def Sep (y:List Nat) (ps:List (Nat×Nat)):Prop:= ∀p∈ps, ∀q∈ps,y.idxOf p.1<y.idxOf q.1->p.2<q.2
theorem Sep.i8 {y:List Nat} {ps:List (Nat×Nat)} (h:Sep y ps) {a b c:Nat×Nat} (ha:a∈ps) (hb:b∈ps) (hc:c∈ps) (n1:y.idxOf a.1≠y.idxOf b.1) (n2:y.idxOf a.1≠y.idxOf c.1) (n3:y.idxOf b.1≠y.idxOf c.1):My.i8 a.2 b.2 c.2↔My.i8 (y.idxOf a.1) (y.idxOf b.1) (y.idxOf c.1):=D5 n1 n2 n3 (h a ha b hb) (h b hb a ha) (h a ha c hc) (h c hc a ha) (h b hb c hc) (h c hc b hb)
theorem Sep.gr {y:List Nat} {ps:List (Nat×Nat)} (h:Sep y ps) (hn:y.Nodup) {a b c:Nat×Nat} (ha:a∈ps) (hb:b∈ps) (hc:c∈ps) (ya:a.1∈y) (yb:b.1∈y) (yc:c.1∈y) (n1:a.1≠b.1) (n2:a.1≠c.1) (n3:b.1≠c.1):decide (My.i8 a.2 b.2 c.2)=My.gr y a.1 b.1 c.1:=by
 rw[fT hn ya yb yc n1 n2 n3]
 exact decide_eq_decide.mpr (h.i8 ha hb hc (bQ ya yb n1) (bQ ya yc n2) (bQ yb yc n3))
theorem Sep.same {y:List Nat} {ps:List (Nat×Nat)} (h:Sep y ps) {a b c:Nat×Nat} (ha:a∈ps) (hb:b∈ps) (hc:c∈ps) (e:b.1=c.1) (n:y.idxOf a.1≠y.idxOf c.1):My.i8 a.2 b.2 c.2↔b.2<c.2:=by
 have h1:=h a ha b hb
 have h2:=h b hb a ha
 have h3:=h a ha c hc
 have h4:=h c hc a ha
 rw[e]at h1 h2
 unfold My.i8
 omega
theorem Sep.Fv {y:List Nat} {ps:List (Nat×Nat)} (h:Sep y ps) {a b c:Nat×Nat} (ha:a∈ps) (hb:b∈ps) (hc:c∈ps) (e:a.1=b.1) (n:y.idxOf a.1≠y.idxOf c.1):My.i8 a.2 b.2 c.2↔a.2<b.2:=by
 have h1:=h b hb c hc
 have h2:=h c hc b hb
 have h3:=h a ha c hc
 have h4:=h c hc a ha
 rw[<-e]at h1 h2
 unfold My.i8
 omega
section
variable {y:List Nat} {f g:Int->Nat} {a b a' b':Nat}
theorem Hh (hy:Yd y) (hf:gS y f) (hg:gS y g) (h:Sep y [(aD (f (-1)),a),(f 0,b),(aD (g (-1)),a'),(g 0,b')]) (hb:b≠b') (z0:f 0=g 0) (z1:f (-1)≠g (-1)):mf a b a' b'=true↔decide (b<b')≠gx y f g 0:=by
 have r1:=hf.red 0
 have r2:=hg.red 0
 rw[show (0:Int) - 1= -1 by omega]at r1 r2
 have ya:=hy.cl _ (hf.bL (-1))
 have Mz:=hy.cl _ (hg.bL (-1))
 have n1:aD (f (-1))≠aD (g (-1)):=fun z=>z1 (ff (hy.lt _ (hf.bL _)) (hy.lt _ (hg.bL _)) z)
 have e1:=h.gr hy.nd (a:=(aD (f (-1)),a)) (b:=(aD (g (-1)),a')) (c:=(f 0,b)) (by simp) (by simp) (by simp) ya Mz (hf.bL 0) n1 (Ne.symm r1) (by rw[z0];exact Ne.symm r2)
 have e2:=h.same (a:=(aD (f (-1)),a)) (b:=(g 0,b')) (c:=(f 0,b)) (by simp) (by simp) (by simp) z0.symm (bQ ya (hf.bL 0) (Ne.symm r1))
 unfold mf
 rw[Bd hy hf hg z0 z1]
 simp only at e1 e2
 rw[e1]
 generalize gr y (aD (f (-1))) (aD (g (-1))) (f 0)=G
 by_cases q:b<b'
 ·rw[decide_eq_true q,decide_eq_false (by rw[e2];omega)]
  cases G<;>simp
 ·rw[decide_eq_false q,decide_eq_true (by rw[e2];omega)]
  cases G<;>simp
theorem Hi (hy:Yd y) (hf:gS y f) (hg:gS y g) (h:Sep y [(aD (f (-1)),a),(f 0,b),(aD (g (-1)),a'),(g 0,b')]) (ha:a≠a') (z1:f (-1)=g (-1)) (z0:f 0≠g 0):mf a b a' b'=true↔decide (a'<a)≠gk y (cR f) (cR g) 0:=by
 have r1:=hf.red 0
 have r2:=hg.red 0
 rw[show (0:Int) - 1= -1 by omega]at r1 r2
 have ya:=hy.cl _ (hf.bL (-1))
 have Mz:=hy.cl _ (hg.bL (-1))
 have e1:=h.Fv (a:=(aD (f (-1)),a)) (b:=(aD (g (-1)),a')) (c:=(f 0,b)) (by simp) (by simp) (by simp) (by show aD _=aD _;rw[z1]) (bQ ya (hf.bL 0) (Ne.symm r1))
 have e2:=h.gr hy.nd (a:=(aD (f (-1)),a)) (b:=(g 0,b')) (c:=(f 0,b)) (by simp) (by simp) (by simp) ya (hg.bL 0) (hf.bL 0) (by show aD _≠_;rw[z1];exact Ne.symm r2) (Ne.symm r1) (Ne.symm z0)
 have e3:gk y (cR f) (cR g) 0=gr y (aD (f (-1))) (f 0) (g 0):=Be (f:=cR f) (g:=cR g) (a:=0) z1
 have e4:=Hc hy.nd ya (hf.bL 0) (hg.bL 0) (Ne.symm r1) (by rw[z1];exact Ne.symm r2) z0
 unfold mf
 simp only at e1 e2
 rw[e3,e2,e4]
 generalize gr y (aD (f (-1))) (f 0) (g 0)=G
 by_cases q:a'<a
 ·rw[decide_eq_true q,decide_eq_false (by rw[e1];omega)]
  cases G<;>simp
 ·rw[decide_eq_false q,decide_eq_true (by rw[e1];omega)]
  cases G<;>simp
theorem rM (hy:Yd y) (hf:gS y f) (hg:gS y g) (h:Sep y [(aD (f (-1)),a),(f 0,b),(aD (g (-1)),a'),(g 0,b')]) (ha:a≠a') (hb:b≠b') (z1:f (-1)=g (-1)) (z0:f 0=g 0):mf a b a' b'=true↔decide (a'<a)≠decide (b<b'):=by
 have r1:=hf.red 0
 rw[show (0:Int) - 1= -1 by omega]at r1
 have ya:=hy.cl _ (hf.bL (-1))
 have e1:=h.Fv (a:=(aD (f (-1)),a)) (b:=(aD (g (-1)),a')) (c:=(f 0,b)) (by simp) (by simp) (by simp) (by show aD _=aD _;rw[z1]) (bQ ya (hf.bL 0) (Ne.symm r1))
 have e2:=h.same (a:=(aD (f (-1)),a)) (b:=(g 0,b')) (c:=(f 0,b)) (by simp) (by simp) (by simp) z0.symm (bQ ya (hf.bL 0) (Ne.symm r1))
 unfold mf
 simp only at e1 e2
 rw[decide_eq_decide.mpr e1,decide_eq_decide.mpr e2]
 by_cases q:a'<a<;>by_cases q2:b<b'
 ·rw[decide_eq_true q,decide_eq_true q2,decide_eq_false (show ¬a<a' by omega),decide_eq_false (show ¬b'<b by omega)];simp
 ·rw[decide_eq_true q,decide_eq_false q2,decide_eq_false (show ¬a<a' by omega),decide_eq_true (show b'<b by omega)];simp
 ·rw[decide_eq_false q,decide_eq_true q2,decide_eq_true (show a<a' by omega),decide_eq_false (show ¬b'<b by omega)];simp
 ·rw[decide_eq_false q,decide_eq_false q2,decide_eq_true (show a<a' by omega),decide_eq_true (show b'<b by omega)];simp
theorem Hj (hy:Yd y) (hf:gS y f) (hg:gS y g) (h:Sep y [(aD (f (-1)),a),(f 0,b),(aD (g (-1)),a'),(g 0,b')]) (z0:f 0≠g 0) (z1:f (-1)≠g (-1)) (z2:aD (f (-1))≠g 0) (z3:aD (g (-1))≠f 0):mf a b a' b'=ac y (aD (f (-1))) (f 0) (aD (g (-1))) (g 0):=by
 have r1:=hf.red 0
 have r2:=hg.red 0
 rw[show (0:Int) - 1= -1 by omega]at r1 r2
 have ya:=hy.cl _ (hf.bL (-1))
 have Mz:=hy.cl _ (hg.bL (-1))
 have n1:aD (f (-1))≠aD (g (-1)):=fun z=>z1 (ff (hy.lt _ (hf.bL _)) (hy.lt _ (hg.bL _)) z)
 have e1:=h.gr hy.nd (a:=(aD (f (-1)),a)) (b:=(aD (g (-1)),a')) (c:=(f 0,b)) (by simp) (by simp) (by simp) ya Mz (hf.bL 0) n1 (Ne.symm r1) z3
 have e2:=h.gr hy.nd (a:=(aD (f (-1)),a)) (b:=(g 0,b')) (c:=(f 0,b)) (by simp) (by simp) (by simp) ya (hg.bL 0) (hf.bL 0) z2 (Ne.symm r1) (Ne.symm z0)
 unfold mf ac
 simp only at e1 e2
 rw[e1,e2,if_neg (fun q=>q.elim (fun q=>n1 q.symm) fun q=>q.elim z3 fun q=>q.elim (fun q=>z2 q.symm) fun q=>z0 q.symm)]
end
noncomputable def sm:Nat->(Int->Int)->Int
 | 0,_=>0
 | n+1,h=>sm n h+h n
theorem aC {h g:Int->Int}: ∀{n:Nat},(∀i:Nat,i<n->h i=g i)->sm n h=sm n g
 | 0,_=>rfl
 | n+1,e=>by
  show sm n h+h n=sm n g+g n
  rw[aC fun i hi=>e i (by omega),e n (by omega)]
theorem nN (h g:Int->Int): ∀n:Nat,sm n (fun i=>h i+g i)=sm n h+sm n g
 | 0=>rfl
 | n+1=>by
  show sm n _+(h n+g n)=(sm n h+h n)+(sm n g+g n)
  rw[nN h g n];omega
theorem v7 (h g:Int->Int): ∀n:Nat,sm n (fun i=>h i - g i)=sm n h - sm n g
 | 0=>rfl
 | n+1=>by
  show sm n _+(h n - g n)=(sm n h+h n) - (sm n g+g n)
  rw[v7 h g n];omega
theorem fh: ∀n:Nat,sm n (fun _=>0)=0
 | 0=>rfl
 | n+1=>by show sm n _+0=0;rw[fh n];rfl
theorem xI (h:Int->Int): ∀n:Nat,sm n (fun i=>h (i - 1))+h ((n:Int) - 1)=sm n h+h (-1)
 | 0=>rfl
 | n+1=>by
  have:=xI h n
  show sm n _+h ((n:Int) - 1)+h (((n+1:Nat):Int) - 1)=(sm n h+h n)+h (-1)
  rw[show ((n+1:Nat):Int) - 1=n by omega]
  omega
theorem nP {h:Int->Int} {n:Nat} (P: ∀k,h (k+n)=h k):sm n (fun i=>h (i - 1))=sm n h:=by
 have h1:=xI h n
 have h2:=P (-1)
 rw[show (-1:Int)+n=(n:Int) - 1 by omega]at h2
 omega
theorem xJ (h:Int->Int): ∀n:Nat,sm n (fun i=>h ((n:Int) - 1 - i))=sm n h
 | 0=>rfl
 | n+1=>by
  have e: ∀(m:Nat) (g:Int->Int),sm (m+1) g=g 0+sm m (fun i=>g (i+1)):=fun m=>by
   induction m with
   | zero=>intro g;show (0:Int)+g 0=g 0+0;omega
   | succ m ih=>intro g;show sm (m+1) g+g ((m+1:Nat):Int)=g 0+(sm m (fun i=>g (i+1))+g ((m:Int)+1));rw[ih];rw[show ((m+1:Nat):Int)=(m:Int)+1 by omega];omega
  rw[e]
  have:=xJ h n
  show h (((n+1:Nat):Int) - 1 - 0)+sm n (fun i=>h (((n+1:Nat):Int) - 1 - (i+1)))=sm n h+h n
  rw[show ((n+1:Nat):Int) - 1 - 0=n by omega, <-this,Xv]
  congr 1
  exact aC fun i _=>by congr 1;omega
theorem mO {h:Int->Int} {n:Nat} (P: ∀k,h (k+n)=h k):sm n (fun i=>h (i+1))=sm n h:=by
 have:=nP (h:=fun i=>h (i+1)) (n:=n) (fun k=>by show h (k+n+1)=h (k+1);rw[<-P (k+1)];congr 1;omega)
 rw[<-this]
 exact aC fun i _=>by show h ((i:Int) - 1+1)=h i;congr 1;omega
theorem nQ {h:Int->Int} {n:Nat} (P: ∀k,h (k+n)=h k):sm n (fun i=>h (-i))=sm n h:=by
 rw[<-xJ (fun i=>h (-i)) n, <-mO P]
 exact aC fun i _=>by
  show h (-((n:Int) - 1 - i))=h (i+1)
  rw[<-P (-((n:Int) - 1 - i))];congr 1;omega
theorem Hk {h:Int->Int} {n:Nat} (P: ∀k,h (k+n)=h k):sm n (fun i=>h (1 - i))=sm n h:=by
 rw[<-mO P, <-nQ (h:=fun i=>h (i+1)) (fun k=>by show h (k+n+1)=h (k+1);rw[<-P (k+1)];congr 1;omega)]
 exact aC fun i _=>by show h (1 - (i:Int))=h (-(i:Int)+1);congr 1;omega
noncomputable def bO (n m:Nat) (h:Int->Int->Int):Int:=sm n fun i=>sm m fun j=>h i j
theorem aZ {n m:Nat} {h g:Int->Int->Int} (e: ∀i j:Nat,i<n->j<m->h i j=g i j):bO n m h=bO n m g:=aC fun i hi=>aC fun j hj=>e i j hi hj
theorem b4 (n m:Nat) (h g:Int->Int->Int):bO n m (fun i j=>h i j+g i j)=bO n m h+bO n m g:=by
 unfold bO
 rw[<-nN]
 exact aC fun i _=>nN _ _ _
theorem D6 (n m:Nat) (h g:Int->Int->Int):bO n m (fun i j=>h i j - g i j)=bO n m h - bO n m g:=by
 unfold bO
 rw[<-v7]
 exact aC fun i _=>v7 _ _ _
theorem qm {n m:Nat} {h:Int->Int->Int} (P: ∀i j,h (i+n) j=h i j) (Q: ∀i j,h i (j+m)=h i j):bO n m (fun i j=>h (i - 1) (j - 1))=bO n m h:=by
 unfold bO
 have e: ∀i:Int,sm m (fun j=>h i (j - 1))=sm m (h i):=fun i=>nP (Q i)
 rw[<-nP (h:=fun i=>sm m fun j=>h i j) (n:=n) (fun k=>aC fun j _=>P k j)]
 exact aC fun i _=>e _
structure II (y:List Nat) (n:Nat) (F:Int->Int->Nat) (o i:Int->Nat):Prop where
 pos:0<n
 v8: ∀k,gS y (F k)
 bk: ∀k,cR (F k)=F (k - 1)
 LJ: ∀k,F (k+n)=F k
 own: ∀k x,F k (x+n)=F k x
 op: ∀k,o (k+n)=o k
 ip: ∀k,i (k+n)=i k
structure Fx (y:List Nat) (F:Int->Int->Nat) (o i:Int->Nat) (G:Int->Int->Nat) (o' i':Int->Nat):Prop where
 sep: ∀s t,Sep y [(aD (F s (-1)),i (s - 1)),(F s 0,o s),(aD (G t (-1)),i' (t - 1)),(G t 0,o' t)]
 on: ∀s t a b,Run (F s) (G t) a b->o s≠o' t/\i s≠i' t/\decide (o s<o' t)=vY y (F s) (G t) a b/\decide (i' t<i s)=vY y (F s) (G t) a b
def Bg (F G:Int->Int->Nat) (s t:Int):Prop:=F s 0=G t 0\/F s (-1)=G t (-1)
def par (F G:Int->Int->Nat) (s t:Int):Prop:= ∀k,F s k=G t k
noncomputable def D7 (o i o' i':Int->Nat) (s t:Int):Bool:=mf (i (s - 1)) (o s) (i' (t - 1)) (o' t)
theorem Bh {y:List Nat} {n m:Nat} {F G:Int->Int->Nat} {o i o' i':Int->Nat} (hF:II y n F o i) (hG:II y m G o' i') {s t:Int}:par F G (s - 1) (t - 1)↔par F G s t:=by
 unfold par
 rw[<-hF.bk, <-hG.bk]
 unfold cR
 exact ⟨fun h k=>by have:=h (k+1);rwa [show k+1 - 1=k by omega]at this,fun h k=>h _⟩
theorem xK {y:List Nat} {n m:Nat} {F G:Int->Int->Nat} {o i o' i':Int->Nat} (hy:Yd y) (hF:II y n F o i) (hG:II y m G o' i') (h:Fx y F o i G o' i'):
  bO n m (fun s t=>one (Bg F G s t/\D7 o i o' i' s t=true/\ ¬par F G s t))=bO n m fun s t=>one (gJ y (F s) (G t)):=by
 have pt: ∀s t:Int,one (Bg F G s t/\D7 o i o' i' s t=true/\ ¬par F G s t)=one (gJ y (F s) (G t))+one (uB y (F (s - 1)) (G (t - 1))) - one (uB y (F s) (G t)):=fun s t=>by
  by_cases hp:par F G s t
  ·have nr: ∀{a b}, ¬Run (F s) (G t) a b:=fun r=>r.hi (hp _)
   have vZ:=(Bh hF hG).mpr hp
   have RU: ∀{a b}, ¬Run (F (s - 1)) (G (t - 1)) a b:=fun r=>r.hi (vZ _)
   rw[aV (fun z=>z.2.2 hp),aV (fun ⟨_,r,_⟩=>nr r),aV (fun ⟨_,_,r,_⟩=>RU r),aV (fun ⟨_,_,r,_⟩=>nr r)]
   rfl
  ·by_cases ht:Bg F G s t
   ·have dh: ∃k,F s k≠G t k:=Classical.byContradiction fun z=>hp fun k=>Classical.byContradiction fun q=>z ⟨k,q⟩
    have Hl: ∃k,F (s - 1) k≠G (t - 1) k:=Classical.byContradiction fun z=>hp ((Bh hF hG).mp fun k=>Classical.byContradiction fun q=>z ⟨k,q⟩)
    have e1: ∀s,F (s - 1) 0=F s (-1):=fun s=>by rw[<-hF.bk];rfl
    have e2: ∀t,G (t - 1) 0=G t (-1):=fun s=>by rw[<-hG.bk];rfl
    have ei:one (Bg F G s t/\D7 o i o' i' s t=true/\ ¬par F G s t)=one (D7 o i o' i' s t=true):=ba ⟨fun z=>z.2.1,fun z=>⟨ht,z,hp⟩⟩
    rw[ei, <-hF.bk, <-hG.bk]
    refine Bb (e0:=decide (o s<o' t)) (e1:=decide (i' (t - 1)<i (s - 1))) (fun z=>?_) (fun z=>?_) (fun a b r=>(h.on s t a b r).2.2.1) (fun a b r=>?_) (fun z0 z1=>?_) (fun z1 z0=>?_) (fun z1 z0=>?_) ht
    ·obtain ⟨a,b,r,_⟩:=cW hF.pos hG.pos (hF.own s) (hG.own t) z dh
     exact ⟨a,b,r⟩
    ·obtain ⟨a,b,r,_⟩:=cW hF.pos hG.pos (hF.own (s - 1)) (hG.own (t - 1)) (by rw[e1,e2];exact z) Hl
     rw[hF.bk,hG.bk]
     exact ⟨a,b,r⟩
    ·rw[hF.bk,hG.bk]at r ⊢
     exact (h.on _ _ a b r).2.2.2
    ·obtain ⟨a,b,r,_⟩:=cW hF.pos hG.pos (hF.own s) (hG.own t) z0 dh
     exact Hh hy (hF.v8 s) (hG.v8 t) (h.sep s t) (h.on s t a b r).1 z0 z1
    ·obtain ⟨a,b,r,_⟩:=cW hF.pos hG.pos (hF.own (s - 1)) (hG.own (t - 1)) (by rw[e1,e2];exact z1) Hl
     exact Hi hy (hF.v8 s) (hG.v8 t) (h.sep s t) (h.on _ _ a b r).2.1 z1 z0
    ·obtain ⟨a,b,r,_⟩:=cW hF.pos hG.pos (hF.own s) (hG.own t) z0 dh
     obtain ⟨a2,b2,r2,_⟩:=cW hF.pos hG.pos (hF.own (s - 1)) (hG.own (t - 1)) (by rw[e1,e2];exact z1) Hl
     exact rM hy (hF.v8 s) (hG.v8 t) (h.sep s t) (h.on _ _ a2 b2 r2).2.1 (h.on s t a b r).1 z1 z0
   ·have t0:F s 0≠G t 0:=fun z=>ht (.inl z)
    have t1:F (s - 1) 0≠G (t - 1) 0:=by
     rw[<-hF.bk, <-hG.bk]
     exact fun z=>ht (.inr z)
    rw[aV (fun z=>ht z.1),aV (fun ⟨_,r,_⟩=>t0 r.zero),aV (fun ⟨_,_,r,_⟩=>t1 r.zero),aV (fun ⟨_,_,r,_⟩=>t0 r.zero)]
    rfl
 have e:bO n m (fun s t=>one (Bg F G s t/\D7 o i o' i' s t=true/\ ¬par F G s t))=bO n m (fun s t=>(one (gJ y (F s) (G t))+one (uB y (F (s - 1)) (G (t - 1)))) - one (uB y (F s) (G t))):=aZ fun s t _ _=>pt s t
 rw[e,D6,b4,qm (h:=fun s t=>one (uB y (F s) (G t))) (fun s t=>by rw[hF.LJ]) (fun s t=>by rw[hG.LJ])]
 omega
theorem bg {y w:List Nat} (h:SW y w) (i:Int):gS y (sq w i):=⟨fun k=>h.rd _,fun k=>by
 unfold sq
 have:=h.red (i+k)
 rwa [show i+k - 1=i+(k - 1) by omega]at this⟩
theorem dB (w:List Nat) (i:Int):i9 (sq w i)=bq w i:=by
 funext k
 unfold i9 sq bq
 rw[show i+ -k=i - k by omega]
theorem fU {y w:List Nat} (hy:Yd y) (h:SW y w) (i:Int):gS y (bq w i):=by rw[<-dB];exact (bg h i).rv hy
theorem jw (w:List Nat) (i:Int):sq w (i+w.length)=sq w i:=by
 funext k
 unfold sq
 rw[show i+(w.length:Int)+k=i+k+w.length by omega,dU]
theorem iy (w:List Nat) (i:Int):bq w (i+w.length)=bq w i:=by rw[<-dB, <-dB,jw]
theorem Hm (w:List Nat) (i:Int):bq w (i - w.length)=bq w i:=by rw[<-iy w (i - w.length)];congr 1;omega
theorem Bi {y w:List Nat} {po pi:Int->Nat} (h:SW y w) (P: ∀k,po (k+w.length)=po k) (Q: ∀k,pi (k+w.length)=pi k):II y w.length (sq w) po pi:=
 ⟨IC.mpr h.ne,bg h,fun k=>by funext x;unfold cR sq;congr 1;omega,jw w,fun k x=>cH w k x,P,Q⟩
theorem xM {n:Nat} {h:Int->Nat} (P: ∀k,h (k+n)=h k) (k:Int):h (-(k+n))=h (-k):=by rw[<-P (-(k+n))];congr 1;omega
theorem Hn {y w:List Nat} {po pi:Int->Nat} (hy:Yd y) (h:SW y w) (P: ∀k,po (k+w.length)=po k) (Q: ∀k,pi (k+w.length)=pi k):II y w.length (fun k=>bq w (-k)) (fun k=>pi (-k)) (fun k=>po (-k)):=
 ⟨IC.mpr h.ne,fun k=>fU hy h _,fun k=>by funext x;unfold cR bq;congr 2;omega,fun k=>by
  show bq w (-(k+w.length))=bq w (-k)
  rw[<-iy w (-(k+w.length))];congr 1;omega,fun k x=>nM w _ x,xM Q,xM P⟩
section
variable {y w v:List Nat} {po pi qo qi:Int->Nat}
noncomputable def g7 (po pi qo qi:Int->Nat) (i j:Int):Bool:=mf (pi (i - 1)) (po i) (qi (j - 1)) (qo j)
def bE (w v:List Nat) (i j:Int):Prop:= ∀k,sq w i k=sq v j k
def jx (w v:List Nat) (i j:Int):Prop:= ∀k,sq w i k=bq v (j - 1) k
def IJ (w v:List Nat) (i j:Int):Prop:=rd w i=rd v j\/rd w (i - 1)=rd v (j - 1)
def xN (w v:List Nat) (i j:Int):Prop:=rd w i=aD (rd v (j - 1))\/rd w (i - 1)=aD (rd v j)
theorem D8 (w v:List Nat) (i j:Int):Bg (sq w) (sq v) i j↔IJ w v i j:=by
 unfold Bg IJ sq
 rw[show i+0=i by omega,show j+0=j by omega]
 rfl
theorem D9 (w v:List Nat) (i k:Int):Bg (sq w) (fun k=>bq v (-k)) i k↔xN w v i (1 - k):=by
 unfold Bg xN sq bq
 show rd w (i+0)=aD (rd v (-k - 0))\/rd w (i+ -1)=aD (rd v (-k - -1))↔_
 rw[show i+0=i by omega,show -k - 0=1 - k - 1 by omega,show -k - -1=1 - k by omega]
 rfl
theorem Ou (hy:Yd y) (hw:SW y w) (hv:SW y v) {i j:Int} (h:IJ w v i j) (g:xN w v i j):False:=by
 have qR:=hw.red i
 have P6:=hv.red j
 have l1:=hy.lt _ (hw.rd (i - 1))
 have l2:=hy.lt _ (hv.rd (j - 1))
 have l3:=hy.lt _ (hv.rd j)
 rcases h with h | h<;>rcases g with g | g
 ·exact P6 (h.symm.trans g)
 ·rw[<-h]at g;exact qR (by rw[g,aN (hy.lt _ (hw.rd i))])
 ·rw[<-h]at g;exact qR g
 ·rw[h]at g;exact P6 (by rw[g,aN l3])
theorem uk (hy:Yd y) (hw:SW y w) (hv:SW y v) (P1: ∀k,po (k+w.length)=po k) (P2: ∀k,pi (k+w.length)=pi k) (Q1: ∀k,qo (k+v.length)=qo k) (Q2: ∀k,qi (k+v.length)=qi k)
  (hS:Fx y (sq w) po pi (sq v) qo qi) (hO:Fx y (sq w) po pi (fun k=>bq v (-k)) (fun k=>qi (-k)) (fun k=>qo (-k))):
  bO w.length v.length (fun i j=>one (g7 po pi qo qi i j=true))=
   bO w.length v.length (fun i j=>one (ac y (aD (rd w (i - 1))) (rd w i) (aD (rd v (j - 1))) (rd v j)=true))+bO w.length v.length (fun i j=>one (0<al y (sq w i) (sq v j) (w.length+v.length)))+bO w.length v.length (fun i j=>one (0<al y (sq w i) (bq v j) (w.length+v.length)))
   +bO w.length v.length (fun i j=>one (bE w v i j/\g7 po pi qo qi i j=true))+bO w.length v.length (fun i j=>one (jx w v i j/\g7 po pi qo qi i j=true)):=by
 have fw:=Bi hw P1 P2
 have fv:=Bi hv Q1 Q2
 have fo:=Hn hy hv Q1 Q2
 have s1:=xK hy fw fv hS
 have s2:=xK hy fw fo hO
 have e1:bO w.length v.length (fun s t=>one (gJ y (sq w s) (sq v t)))=bO w.length v.length (fun i j=>one (0<al y (sq w i) (sq v j) (w.length+v.length))):=aZ fun i j _ _=>ba (xH hy (bg hw _) (bg hv _) fun z=>iU hw.ne hv.ne (fun k=>cH w i k) (fun k=>cH v j k) z)
 have e2:bO w.length v.length (fun s t=>one (gJ y (sq w s) (bq v (-t))))=bO w.length v.length (fun i j=>one (0<al y (sq w i) (bq v j) (w.length+v.length))):=by
  have:bO w.length v.length (fun s t=>one (gJ y (sq w s) (bq v (-t))))=bO w.length v.length (fun s t=>one (gJ y (sq w s) (bq v t))):=aC fun i _=>nQ (h:=fun t=>one (gJ y (sq w i) (bq v t))) fun k=>by rw[iy]
  rw[this]
  exact aZ fun i j _ _=>ba (xH hy (bg hw _) (fU hy hv _) fun z=>iU hw.ne hv.ne (fun k=>cH w i k) (fun k=>nM v j k) z)
 have e3:bO w.length v.length (fun s t=>one (Bg (sq w) (fun k=>bq v (-k)) s t/\D7 po pi (fun k=>qi (-k)) (fun k=>qo (-k)) s t=true/\ ¬par (sq w) (fun k=>bq v (-k)) s t))=bO w.length v.length (fun i j=>one (xN w v i j/\g7 po pi qo qi i j=true/\ ¬jx w v i j)):=by
  have P: ∀i:Int, ∀k:Int,(fun j=>one (xN w v i j/\g7 po pi qo qi i j=true/\ ¬jx w v i j)) (k+v.length)=(fun j=>one (xN w v i j/\g7 po pi qo qi i j=true/\ ¬jx w v i j)) k:=fun i k=>by
   show one (xN w v i (k+v.length)/\g7 po pi qo qi i (k+v.length)=true/\ ¬jx w v i (k+v.length))=_
   unfold xN g7 jx
   rw[show k+(v.length:Int) - 1=k - 1+v.length by omega,dU,dU,Q1,Q2,iy]
  refine aC fun i _=>(aC fun k _=>?_).trans (Hk (P i))
  refine ba ?_
  rw[D9]
  have ec:D7 po pi (fun k=>qi (-k)) (fun k=>qo (-k)) i k=g7 po pi qo qi i (1 - k):=by
   unfold D7 g7
   rw[iw]
   show mf (pi ((i:Int) - 1)) (po i) (qi (-(k:Int))) (qo (-((k:Int) - 1)))=_
   rw[show -((k:Int) - 1)=1 - k by omega,show (1:Int) - k - 1= -k by omega]
  have ep:par (sq w) (fun k=>bq v (-k)) i k↔jx w v i (1 - k):=by
   unfold par jx
   rw[show (1:Int) - k - 1= -k by omega]
  rw[ec,ep]
 rw[e1]at s1
 rw[e2,e3]at s2
 rw[<-s1, <-s2, <-b4, <-b4, <-b4, <-b4]
 refine aZ fun i j _ _=>?_
 have hc:D7 po pi qo qi i j=g7 po pi qo qi i j:=rfl
 have et:=D8 w v i j
 have pS:bE w v i j->IJ w v i j:=fun z=> .inl (by have:=z 0;unfold sq at this;rwa [show (i:Int)+0=i by omega,show (j:Int)+0=j by omega]at this)
 have pO:jx w v i j->xN w v i j:=fun z=> .inl (by have:=z 0;unfold sq bq at this;rwa [show (i:Int)+0=i by omega,show (j:Int) - 1 - 0=j - 1 by omega]at this)
 have RV:IJ w v i j-> ¬ac y (aD (rd w (i - 1))) (rd w i) (aD (rd v (j - 1))) (rd v j)=true:=fun z=>by
  unfold ac
  rw[if_pos (z.elim (fun z=> .inr (.inr (.inr z.symm))) fun z=> .inl (by rw[z]))]
  decide
 have RW:xN w v i j-> ¬ac y (aD (rd w (i - 1))) (rd w i) (aD (rd v (j - 1))) (rd v j)=true:=fun z=>by
  unfold ac
  rw[if_pos (z.elim (fun z=> .inr (.inl z.symm)) fun z=> .inr (.inr (.inl (by rw[z,aN (hy.lt _ (hv.rd _))]))))]
  decide
 have ep:par (sq w) (sq v) i j↔bE w v i j:=Iff.rfl
 by_cases tS:IJ w v i j
 ·have nO: ¬xN w v i j:=fun z=>Ou hy hw hv tS z
  rw[aV (RV tS),aV (p:=xN w v i j/\_) (fun z=>nO z.1),aV (p:=jx w v i j/\_) (fun z=>nO (pO z.1))]
  by_cases c:g7 po pi qo qi i j=true
  ·by_cases q:bE w v i j
   ·rw[eX c,aV (fun z=>z.2.2 q),eX ⟨q,c⟩];rfl
   ·rw[eX c,eX ⟨et.mpr tS,c,q⟩,aV (fun z=>q z.1)];rfl
  ·rw[aV c,aV (fun z=>c z.2.1),aV (fun z=>c z.2)];rfl
 ·rw[aV (p:=Bg _ _ _ _/\_) (fun z=>tS (et.mp z.1)),aV (p:=bE w v i j/\_) (fun z=>tS (pS z.1))]
  by_cases tO:xN w v i j
  ·rw[aV (RW tO)]
   by_cases c:g7 po pi qo qi i j=true
   ·by_cases q:jx w v i j
    ·rw[eX c,aV (fun z=>z.2.2 q),eX ⟨q,c⟩];rfl
    ·rw[eX c,eX ⟨tO,c,q⟩,aV (fun z=>q z.1)];rfl
   ·rw[aV c,aV (fun z=>c z.2.1),aV (fun z=>c z.2)];rfl
  ·rw[aV (p:=xN w v i j/\_) (fun z=>tO z.1),aV (p:=jx w v i j/\_) (fun z=>tO (pO z.1))]
   have l2:=hy.lt _ (hv.rd (j - 1))
   have l3:=hy.lt _ (hv.rd j)
   have l1:=hy.lt _ (hw.rd (i - 1))
   have f0: ∀(u:List Nat) (i:Int),sq u i 0=rd u i:=fun u i=>by unfold sq;rw[show i+0=i by omega]
   have f1: ∀(u:List Nat) (i:Int),sq u i (-1)=rd u (i - 1):=fun u i=>rfl
   have e:=Hj hy (bg hw i) (bg hv j) (hS.sep i j) (fun z=>tS (.inl (by rw[f0,f0]at z;exact z))) (fun z=>tS (.inr z)) (fun z=>tO (.inr (by rw[f0,f1]at z;rw[<-z,aN l1]))) (fun z=>tO (.inl (by rw[f0,f1]at z;exact z.symm)))
   rw[f0,f0,f1,f1]at e
   have e':g7 po pi qo qi i j=ac y (aD (rd w (i - 1))) (rd w i) (aD (rd v (j - 1))) (rd v j):=e
   rw[e']
   omega
end
section
variable {y w v:List Nat} {po pi qo qi:Int->Nat}
theorem D_ (hy:Yd y) (hw:SW y w) (hv:SW y v) (hS:Fx y (sq w) po pi (sq v) qo qi) (D:Bool)
  (h: ∀i j,bE w v i j->po i≠qo j/\pi i≠qi j/\decide (po i<qo j)=D/\decide (qi j<pi i)=D):bO w.length v.length (fun i j=>one (bE w v i j/\g7 po pi qo qi i j=true))=0:=by
 have: ∀i j:Int, ¬(bE w v i j/\g7 po pi qo qi i j=true):=fun i j ⟨p,c⟩=>by
  have p1:bE w v (i - 1) (j - 1):=fun k=>by
   have:=p (k - 1)
   unfold sq at this ⊢
   rw[show i - 1+k=i+(k - 1) by omega,show j - 1+k=j+(k - 1) by omega]
   exact this
  have h0:=h i j p
  have h1:=h _ _ p1
  have:=(rM hy (bg hw i) (bg hv j) (hS.sep i j) h1.2.1 h0.1 (p (-1)) (p 0)).mp c
  exact this (h1.2.2.2.trans h0.2.2.1.symm)
 rw[show (0:Int)=bO w.length v.length (fun _ _=>0) by unfold bO;rw[show (fun _:Int=>sm v.length fun _=>0)=fun _=>0 from funext fun _=>fh _,fh]]
 exact aZ fun i j _ _=>aV (this i j)
theorem Ea (hy:Yd y) (hw:SW y w) (hv:SW y v) (hO:Fx y (sq w) po pi (fun k=>bq v (-k)) (fun k=>qi (-k)) (fun k=>qo (-k))) (D:Bool)
  (h: ∀i j,(∀k,sq w i k=bq v j k)->po i≠qi j/\pi i≠qo j/\decide (po i<qi j)=D/\decide (qo j<pi i)=D):bO w.length v.length (fun i j=>one (jx w v i j/\g7 po pi qo qi i j=true))=0:=by
 have: ∀i j:Int, ¬(jx w v i j/\g7 po pi qo qi i j=true):=fun i j ⟨p,c⟩=>by
  have p1: ∀k,sq w (i - 1) k=bq v j k:=fun k=>by
   have:=p (k - 1)
   unfold sq bq at this ⊢
   rw[show i - 1+k=i+(k - 1) by omega,this]
   congr 2;omega
  have h0:=h i (j - 1) p
  have h1:=h _ _ p1
  have s:=hO.sep i (1 - j)
  simp only[show -(1 - j)=j - 1 by omega,show -(1 - j - 1)=j by omega]at s
  unfold g7 at c
  rw[iw]at c
  have:=(rM hy (bg hw i) (fU hy hv (j - 1)) s h1.2.1 h0.1 (p (-1)) (p 0)).mp c
  exact this (h1.2.2.2.trans h0.2.2.1.symm)
 rw[show (0:Int)=bO w.length v.length (fun _ _=>0) by unfold bO;rw[show (fun _:Int=>sm v.length fun _=>0)=fun _=>0 from funext fun _=>fh _,fh]]
 exact aZ fun i j _ _=>aV (this i j)
theorem rN (hy:Yd y) (hw:SW y w) (i j:Int): ¬ ∀k,sq w i k=bq w j k:=fun h=>by
 unfold sq bq at h
 rcases (show (j - i)%2=0\/(j - i)%2=1 by omega) with z | z
 ·have:=h ((j - i) / 2)
  rw[show i+(j - i) / 2=j - (j - i) / 2 by omega]at this
  exact kI (hy.lt _ (hw.rd _)) this.symm
 ·have:=h ((j - i) / 2+1)
  rw[show j - ((j - i) / 2+1)=i+((j - i) / 2+1) - 1 by omega]at this
  exact hw.red _ this
theorem nR (h:Int->Int) (n:Nat): ∀m:Nat,sm (n+m) h=sm n h+sm m (fun i=>h (n+i))
 | 0=>by show sm n h=sm n h+0;omega
 | m+1=>by
  show sm (n+m) h+h ((n+m:Nat):Int)=sm n h+(sm m (fun i=>h (n+i))+h (n+m))
  rw[nR h n m,show ((n+m:Nat):Int)=(n:Int)+m by omega]
  omega
theorem iA {h:Int->Int}: ∀{s:Nat},0<s->(∀i:Nat,0<i->i<s->h i=0)->sm s h=h 0
 | 0,h0,_=>absurd h0 (U_ _)
 | 1,_,_=>by show (0:Int)+h 0=h 0;omega
 | s+2,_,g=>by
  show sm (s+1) h+h ((s+1:Nat):Int)=h 0
  rw[iA (s:=s+1) (by omega) (fun i h1 h2=>g i h1 (by omega)),g (s+1) (by omega) (by omega)]
  omega
theorem xO {h:Int->Int} {s:Nat} (hs:0<s) (g: ∀i:Nat,h i=if i%s=0 then 1 else 0): ∀k:Nat,sm (k*s) h=k
 | 0=>by rw[Xk];rfl
 | k+1=>by
  rw[V4,nR,xO hs g k,iA hs]
  ·have:=g (k*s)
   rw[if_pos (Nat.mul_mod_left k s)]at this
   show (k:Int)+h (((k*s:Nat):Int)+0)=((k+1:Nat):Int)
   rw[WX,this]
   omega
  ·intro i h1 h2
   have:=g (k*s+i)
   rw[if_neg (by rw[VD,Nat.mul_add_mod,VG h2];omega)]at this
   rw[<-this]
   congr 1
theorem Bj (hy:Yd y) (hw:SW y w) (hS:Fx y (sq w) po pi (sq w) po pi) {s k:Nat} (hs:0<s) (hn:w.length=k*s) (hk:0<k) (hr: ∀j:Nat,j<w.length->(bE w w 0 j↔j%s=0))
  (h: ∀i j:Int,bE w w i j->i%w.length≠j%w.length->po i≠po j/\pi i≠pi j/\decide (po i<po j)=decide (i%w.length<j%w.length)/\decide (pi j<pi i)=decide (i%w.length<j%w.length)):
  bO w.length w.length (fun i j=>one (bE w w i j/\g7 po pi po pi i j=true))=2*((k:Int) - 1):=by
 have pt: ∀i j:Nat,i<w.length->j<w.length->one (bE w w i j/\g7 po pi po pi i j=true)=(if i=0 then one (j≠0/\bE w w 0 j) else 0)+(if j=0 then one (i≠0/\bE w w 0 i) else 0):=fun i j hi hj=>by
  have sym:bE w w 0 i↔bE w w i 0:=⟨fun q k=>(q k).symm,fun q k=>(q k).symm⟩
  by_cases e:i=j
  ·subst e
   rw[aV (fun q=>by have:=q.2;unfold g7 at this;rw[ui]at this;cases this)]
   by_cases z:i=0
   ·rw[if_pos z,aV (fun q=>q.1 z)];rfl
   ·rw[if_neg z];rfl
  ·have key:bE w w i j->(g7 po pi po pi i j=true↔(i=0\/j=0)):=fun p=>by
    have p1:bE w w ((i:Int) - 1) ((j:Int) - 1):=fun k=>by
     have:=p (k - 1)
     unfold sq at this ⊢
     rw[show (i:Int) - 1+k=i+(k - 1) by omega,show (j:Int) - 1+k=j+(k - 1) by omega]
     exact this
    have m0: ∀i:Nat,i<w.length->(i:Int)%w.length=i:=fun i hi=>UU (by omega) (by omega)
    have m1: ∀i:Nat,i<w.length->((i:Int) - 1)%w.length=if i=0 then (w.length:Int) - 1 else i - 1:=fun i hi=>by
     split
     ·rename_i z
      rw[<-VU,UU (by omega) (by omega)];omega
     ·exact UU (by omega) (by omega)
    have h0:=h i j p (by rw[m0 i hi,m0 j hj];omega)
    have h1:=h _ _ p1 (by rw[m1 i hi,m1 j hj];split<;>split<;>omega)
    have c:=rM hy (bg hw i) (bg hw j) (hS.sep i j) h1.2.1 h0.1 (p (-1)) (p 0)
    rw[h0.2.2.1,h1.2.2.2,m0 i hi,m0 j hj,m1 i hi,m1 j hj]at c
    have c':g7 po pi po pi i j=true↔_:=c
    rw[c',Ne,decide_eq_decide]
    split<;>split<;>omega
   by_cases z:i=0
   ·have j0:j≠0:=fun q=>e (z.trans q.symm)
    rw[if_pos z,if_neg j0]
    rw[z]at key ⊢
    have:one (bE w w ((0:Nat):Int) j/\g7 po pi po pi ((0:Nat):Int) j=true)=one (j≠0/\bE w w 0 j):=ba ⟨fun q=>⟨j0,q.1⟩,fun q=>⟨q.2,(key q.2).mpr (.inl rfl)⟩⟩
    rw[this];omega
   ·rw[if_neg z]
    by_cases j0:j=0
    ·rw[if_pos j0]
     rw[j0]at key ⊢
     have:one (bE w w i ((0:Nat):Int)/\g7 po pi po pi i ((0:Nat):Int)=true)=one (i≠0/\bE w w 0 i):=ba ⟨fun q=>⟨z,sym.mpr q.1⟩,fun q=>⟨sym.mp q.2,(key (sym.mp q.2)).mpr (.inr rfl)⟩⟩
     rw[this];omega
    ·rw[if_neg j0,aV (fun q=>by rcases (key q.1).mp q.2 with q | q<;>contradiction)];rfl
 have cnt:sm w.length (fun j=>one (j≠0/\bE w w 0 j))=(k:Int) - 1:=by
  have e1:sm w.length (fun j=>one (bE w w 0 j))=k:=by
   have:sm w.length (fun j=>one (bE w w 0 j))=sm w.length (fun j=>if j.toNat%s=0 then 1 else 0):=aC fun j hj=>by
    rw[ba (hr j hj),PB]
    by_cases z:j%s=0
    ·rw[eX z,if_pos z]
    ·rw[aV z,if_neg z]
   rw[this,hn]
   exact xO hs (fun i=>by rw[PB]) k
  have e2:sm w.length (fun j=>one (bE w w 0 j))=sm w.length (fun j=>one (j≠0/\bE w w 0 j))+sm w.length (fun j=>if j=0 then 1 else 0):=by
   rw[<-nN]
   refine aC fun j hj=>?_
   by_cases z:j=0
   ·subst z
    rw[eX (show bE w w 0 ((0:Nat):Int) from fun k=>rfl),aV (fun q=>q.1 rfl)];rfl
   ·rw[if_neg (by omega),WX]
    exact ba ⟨fun q=>⟨by omega,q⟩,fun q=>q.2⟩
  have e3:sm w.length (fun j=>if j=0 then (1:Int) else 0)=1:=by
   rw[iA (IC.mpr hw.ne) (fun i h1 _=>by rw[if_neg (by omega)]),if_pos rfl]
  omega
 have lp:0<w.length:=IC.mpr hw.ne
 have e:bO w.length w.length (fun i j=>one (bE w w i j/\g7 po pi po pi i j=true))=bO w.length w.length (fun i j=>(if i=0 then one (j≠0/\bE w w 0 j) else 0)+(if j=0 then one (i≠0/\bE w w 0 i) else 0)):=aZ fun i j hi hj=>by
  rw[pt i j hi hj]
  congr 1
  ·by_cases z:i=0
   ·rw[if_pos z,if_pos (by omega)]
    exact ba ⟨fun q=>⟨by omega,q.2⟩,fun q=>⟨by omega,q.2⟩⟩
   ·rw[if_neg z,if_neg (by omega)]
  ·by_cases z:j=0
   ·rw[if_pos z,if_pos (by omega)]
    exact ba ⟨fun q=>⟨by omega,q.2⟩,fun q=>⟨by omega,q.2⟩⟩
   ·rw[if_neg z,if_neg (by omega)]
 rw[e,b4]
 have a1:bO w.length w.length (fun i j=>if i=0 then one (j≠0/\bE w w 0 j) else 0)=(k:Int) - 1:=by
  unfold bO
  rw[iA lp]
  ·rw[<-cnt]
   exact aC fun j _=>if_pos rfl
  ·intro i h1 _
   refine Eq.trans (aC (g:=fun _=>0) fun j _=>?_) (fh _)
   have: ¬((i:Int)=0):=by omega
   exact if_neg this
 have a2:bO w.length w.length (fun i j=>if j=0 then one (i≠0/\bE w w 0 i) else 0)=(k:Int) - 1:=by
  unfold bO
  rw[<-cnt]
  refine aC fun i _=>?_
  have: ∀j:Nat,0<j-> ¬((j:Int)=0):=fun j h=>by omega
  rw[iA lp (fun j h1 _=>if_neg (this j h1))]
  exact if_pos rfl
 omega
end
noncomputable def kk (y:List Nat) (f:Int->Nat):Nat->Nat->List Int
 | _,0=>[]
 | k,n+1=>dW y f (k+1)::dW y f (-(k:Int))::kk y f (k+1) n
theorem eN: ∀(l r t:List Int),bp (l++r) (l++t)=bp r t
 | [],_,_=>rfl
 | a::l,r,t=>by
  show (if a=a then bp (l++r) (l++t) else _)=_
  rw[if_pos rfl,eN l r t]
theorem kN {y:List Nat} {f g:Int->Nat} {a b:Nat} (hy:Yd y) (hf:gS y f) (hg:gS y g) (h:Run f g a b) (r t:List Int): ∀(n k:Nat),k<=a->k<=b->a<k+n->b<k+n->bp (kk y f k n++r) (kk y g k n++t)=if a<=b then gk y f g a else gx y f g b
 | 0,k,h1,_,h3,_=>by omega
 | n+1,k,h1,h2,h3,h4=>by
  show (if dW y f (k+1)=dW y g (k+1) then (if dW y f (-(k:Int))=dW y g (-(k:Int)) then bp (kk y f (k+1) n++r) (kk y g (k+1) n++t) else decide (dW y f (-(k:Int))<dW y g (-(k:Int)))) else decide (dW y f (k+1)<dW y g (k+1)))=_
  have e0:=h.mM k (by omega) (by omega)
  have e1:=h.mM (-(k:Int)) (by omega) (by omega)
  by_cases z:k=a
  ·subst z
   rw[if_neg (fun q=>h.hi (by
    unfold dW at q
    rw[show (k:Int)+1 - 1=k by omega, <-e0]at q
    exact j7 (hy.cl _ (hf.bL _)) (hf.bL _) (hg.bL _) q)),if_pos h2]
   rfl
  ·have e2:=h.mM (k+1) (by omega) (by omega)
   rw[if_pos (by unfold dW;rw[show (k:Int)+1 - 1=k by omega,e0,e2])]
   by_cases z2:k=b
   ·subst z2
    rw[if_neg (fun q=>h.lo (by
     unfold dW at q
     rw[<-e1]at q
     have r1:=hf.red (-(k:Int))
     have r2:=hg.red (-(k:Int))
     have c1:=(dX (hy.cl _ (hf.bL (-(k:Int) - 1))) (hf.bL (-(k:Int))) (Ne.symm r1)).2.2
     have c2:=(dX (hy.cl _ (hg.bL (-(k:Int) - 1))) (hf.bL (-(k:Int))) (by rw[e1];exact Ne.symm r2)).2.2
     have:=j7 (hf.bL (-(k:Int))) (hy.cl _ (hf.bL (-(k:Int) - 1))) (hy.cl _ (hg.bL (-(k:Int) - 1))) (by rw[c1,c2,q])
     exact ff (hy.lt _ (hf.bL _)) (hy.lt _ (hg.bL _)) this)),if_neg (by omega)]
    rfl
   ·have e3:=h.mM (-(k:Int) - 1) (by omega) (by omega)
    rw[if_pos (by unfold dW;rw[e1,e3])]
    exact kN hy hf hg h r t n (k+1) (by omega) (by omega) (by omega) (by omega)
noncomputable def ky (w:List Nat) (i:Int):Int->Nat:=if az (rd w i)=true then sq w i else bq w i
noncomputable def CZ (n r:Nat) (l low:Bool) (c i:Nat):List Int:=if low=l then [(c:Int),(((if low=true then i else n - 1 - i) / r:Nat):Int)] else [-(c:Int), -(((if low=true then n - 1 - i else i) / r:Nat):Int)]
noncomputable def cf (y:List Nat) (ws:List (List Nat)) (L:Nat->Bool) (r:Nat->Nat) (M c i:Nat):List Int:=kk y (ky (ws.getD c []) i) 0 M++CZ (ws.getD c []).length (r c) (L c) (az (rd (ws.getD c []) i)) c i
def Dl (w:List Nat) (i:Int) (f:Int->Nat):Prop:=f=sq w i\/f=bq w i
theorem rO {y w:List Nat} {i:Int} {f:Int->Nat} (hy:Yd y) (hw:SW y w) (h:Dl w i f):ky w i=if az (f 0)=true then f else i9 f:=by
 have s0:sq w i 0=rd w i:=by unfold sq;rw[show i+0=i by omega]
 have b0:bq w i 0=aD (rd w i):=by unfold bq;rw[show i - 0=i by omega]
 have lc:=fg _ (hy.lt _ (hw.rd i)).mem
 unfold ky
 rcases h with rfl | rfl
 ·rw[s0,dB]
 ·rw[b0,lc, <-dB,lO hy (bg hw i)]
  cases az (rd w i)<;>rfl
theorem Dl.v8 {y w:List Nat} {i:Int} {f:Int->Nat} (hy:Yd y) (hw:SW y w) (h:Dl w i f):gS y f:=by
 rcases h with rfl | rfl
 ·exact bg hw i
 ·exact fU hy hw i
theorem Run.sy {f g:Int->Nat} {a b:Nat} (h:Run f g a b):Run g f a b:=⟨fun k h1 h2=>(h.mM k h1 h2).symm,Ne.symm h.hi,Ne.symm h.lo⟩
section
variable {y:List Nat} {ws:List (List Nat)} {L:Nat->Bool} {r:Nat->Nat} {M:Nat} {N:Nat->Nat->Nat->Nat}
structure Lies (y:List Nat) (ws:List (List Nat)) (L:Nat->Bool) (r:Nat->Nat) (M:Nat) (N:Nat->Nat->Nat->Nat):Prop where
 sep: ∀c i d j e e',c<ws.length->d<ws.length->i<(ws.getD c []).length->j<(ws.getD d []).length->(e=rd (ws.getD c []) i\/e=aD (rd (ws.getD c []) i))->(e'=rd (ws.getD d []) j\/e'=aD (rd (ws.getD d []) j))->y.idxOf e<y.idxOf e'->N c i e<N d j e'
 low: ∀c i d j x,c<ws.length->d<ws.length->i<(ws.getD c []).length->j<(ws.getD d []).length->(c,i)≠(d,j)->az x=true->(rd (ws.getD c []) i=x\/rd (ws.getD c []) i=aD x)->(rd (ws.getD d []) j=x\/rd (ws.getD d []) j=aD x)->
  N c i x≠N d j x/\N c i (aD x)≠N d j (aD x)/\decide (N c i x<N d j x)=bp (cf y ws L r M c i) (cf y ws L r M d j)/\decide (N d j (aD x)<N c i (aD x))=bp (cf y ws L r M c i) (cf y ws L r M d j)
theorem Lies.at (hy:Yd y) (hN:Lies y ws L r M N) {c i d j:Nat} {f g:Int->Nat} (hc:c<ws.length) (hd:d<ws.length) (hi:i<(ws.getD c []).length) (hj:j<(ws.getD d []).length) (hw:SW y (ws.getD c [])) (hv:SW y (ws.getD d []))
  (hf:Dl (ws.getD c []) i f) (hg:Dl (ws.getD d []) j g) (h0:f 0=g 0) (dh:(c,i)≠(d,j)):
  N c i (f 0)≠N d j (f 0)/\N c i (aD (f 0))≠N d j (aD (f 0))/\decide (N c i (f 0)<N d j (f 0))=(if az (f 0)=true then bp (cf y ws L r M c i) (cf y ws L r M d j) else bp (cf y ws L r M d j) (cf y ws L r M c i))/\decide (N d j (aD (f 0))<N c i (aD (f 0)))=(if az (f 0)=true then bp (cf y ws L r M c i) (cf y ws L r M d j) else bp (cf y ws L r M d j) (cf y ws L r M c i)):=by
 have s0: ∀(w:List Nat) (i:Int),sq w i 0=rd w i:=fun w i=>by unfold sq;rw[show i+0=i by omega]
 have b0: ∀(w:List Nat) (i:Int),bq w i 0=aD (rd w i):=fun w i=>by unfold bq;rw[show i - 0=i by omega]
 have ly:Lt (f 0):=hy.lt _ ((hf.v8 hy hw).bL 0)
 have IA:=aN ly
 have ef:rd (ws.getD c []) i=f 0\/rd (ws.getD c []) i=aD (f 0):=by
  rcases hf with rfl | rfl
  ·exact .inl (s0 _ _).symm
  ·exact .inr (by rw[b0,aN (hy.lt _ (hw.rd _))])
 have eg:rd (ws.getD d []) j=f 0\/rd (ws.getD d []) j=aD (f 0):=by
  rw[h0]
  rcases hg with rfl | rfl
  ·exact .inl (s0 _ _).symm
  ·exact .inr (by rw[b0,aN (hy.lt _ (hv.rd _))])
 by_cases z:az (f 0)=true
 ·rw[if_pos z]
  exact hN.low c i d j (f 0) hc hd hi hj dh z ef eg
 ·rw[if_neg z]
  have z':az (aD (f 0))=true:=by rw[fg _ ly.mem];simpa using z
  have:=hN.low d j c i (aD (f 0)) hd hc hj hi (Ne.symm dh) z' (by rw[IA];exact eg.symm) (by rw[IA];exact ef.symm)
  rw[IA]at this
  exact ⟨Ne.symm this.2.1,Ne.symm this.1,this.2.2.2,this.2.2.1⟩
theorem Lies.run (hy:Yd y) (hN:Lies y ws L r M N) {c i d j:Nat} {f g:Int->Nat} {a b:Nat} (hc:c<ws.length) (hd:d<ws.length) (hi:i<(ws.getD c []).length) (hj:j<(ws.getD d []).length) (hw:SW y (ws.getD c [])) (hv:SW y (ws.getD d []))
  (hf:Dl (ws.getD c []) i f) (hg:Dl (ws.getD d []) j g) (hr:Run f g a b) (ha:a<M) (hb:b<M) (dh:(c,i)≠(d,j)):
  N c i (f 0)≠N d j (g 0)/\N c i (aD (f 0))≠N d j (aD (g 0))/\decide (N c i (f 0)<N d j (g 0))=vY y f g a b/\decide (N d j (aD (g 0))<N c i (aD (f 0)))=vY y f g a b:=by
 have h0:=hr.zero
 have lf:=hf.v8 hy hw
 have lg:=hg.v8 hy hv
 have e:(if az (f 0)=true then bp (cf y ws L r M c i) (cf y ws L r M d j) else bp (cf y ws L r M d j) (cf y ws L r M c i))=vY y f g a b:=by
  unfold cf
  rw[rO hy hw hf,rO hy hv hg, <-h0]
  by_cases z:az (f 0)=true
  ·rw[if_pos z,if_pos z,if_pos z,kN hy lf lg hr _ _ M 0 (T6 _) (T6 _) (by omega) (by omega)]
   unfold vY sQ
   by_cases q:a<=b
   ·rw[if_pos q,if_neg (by simp[z];omega)]
   ·rw[if_neg q,if_pos (by simp;omega)]
  ·rw[if_neg z,if_neg z,if_neg z,kN hy (lg.rv hy) (lf.rv hy) (hr.rv hy lf lg).sy _ _ M 0 (T6 _) (T6 _) (by omega) (by omega), <-Hg hy lf lg h0]
   unfold vY sQ
   have z':az (i9 g 0)=true:=by
    show az (aD (g 0))=true
    rw[<-h0,fg _ (hy.lt _ (lf.bL 0)).mem];simpa using z
   by_cases q:b<=a
   ·rw[if_pos q,if_neg (by simp[z'];omega)]
   ·rw[if_neg q,if_pos (by simp;omega)]
 have:=hN.at hy hc hd hi hj hw hv hf hg h0 dh
 rw[e]at this
 rw[<-h0]
 exact this
end
noncomputable def iB (n:Nat) (k:Int):Nat:=(k%(n:Int)).toNat
theorem br {n:Nat} (h:0<n) (k:Int):iB n k<n:=by
 unfold iB
 have h1:=Vs k (b:=(n:Int)) (by omega)
 have h2:=Vm k (b:=(n:Int)) (by omega)
 omega
theorem dD {n:Nat} (h:0<n) (k:Int):((iB n k:Nat):Int)=k%n:=by
 unfold iB
 have h1:=Vs k (b:=(n:Int)) (by omega)
 omega
theorem xP {n:Nat} (k:Int):iB n (k+n)=iB n k:=by unfold iB;rw[VU]
theorem bM {w:List Nat} (h:w≠[]) (k:Int):rd w (iB w.length k:Nat)=rd w k:=by rw[dD (IC.mpr h),gG]
theorem cg {w:List Nat} (h:w≠[]) (k:Int):sq w (iB w.length k:Nat)=sq w k:=by
 funext x
 unfold sq
 rw[dD (IC.mpr h), <-gG w (k%w.length+x),Xu,gG]
theorem rP {w:List Nat} (h:w≠[]) (k:Int):bq w (iB w.length k:Nat)=bq w k:=by rw[<-dB, <-dB,cg h]
noncomputable def pO (ws:List (List Nat)) (N:Nat->Nat->Nat->Nat) (c:Nat) (k:Int):Nat:=N c (iB (ws.getD c []).length k) (rd (ws.getD c []) k)
noncomputable def pI (ws:List (List Nat)) (N:Nat->Nat->Nat->Nat) (c:Nat) (k:Int):Nat:=N c (iB (ws.getD c []).length k) (aD (rd (ws.getD c []) k))
theorem Ho {x x' p p':Int} (h:x≠x'):bp [x,p] [x',p']=decide (x<x'):=by
 show (if x=x' then _ else decide (x<x'))=_
 rw[if_neg h]
theorem rQ {x p p':Int} (h:p≠p'):bp [x,p] [x,p']=decide (p<p'):=by
 show (if x=x then (if p=p' then bp [] [] else decide (p<p')) else _)=_
 rw[if_pos rfl,if_neg h]
section
variable {y:List Nat} {ws:List (List Nat)} {L:Nat->Bool} {r:Nat->Nat} {M:Nat} {N:Nat->Nat->Nat->Nat}
structure dI (y:List Nat) (ws:List (List Nat)) (L:Nat->Bool) (r:Nat->Nat) (M:Nat):Prop where
 yd:Yd y
 sw: ∀c,c<ws.length->SW y (ws.getD c [])
 big: ∀c d,c<ws.length->d<ws.length->(ws.getD c []).length+(ws.getD d []).length<=M
 l1: ∀c d i j,c<ws.length->d<ws.length->bE (ws.getD c []) (ws.getD d []) i j->L c=L d
 l2: ∀c d i j,c<ws.length->d<ws.length->(∀k,sq (ws.getD c []) i k=bq (ws.getD d []) j k)->L d=!L c
 rp: ∀c,c<ws.length->0<r c
 rr: ∀c,c<ws.length-> ∀i j:Int,(bE (ws.getD c []) (ws.getD c []) i j↔(i - j)%(r c:Int)=0)
theorem Lies.two (h:dI y ws L r M) (hN:Lies y ws L r M N) {c d:Nat} (hc:c<ws.length) (hd:d<ws.length):Fx y (sq (ws.getD c [])) (pO ws N c) (pI ws N c) (sq (ws.getD d [])) (pO ws N d) (pI ws N d):=by
 have hw:=h.sw c hc
 have hv:=h.sw d hd
 have lw:=IC.mpr hw.ne
 have lv:=IC.mpr hv.ne
 have s0: ∀(w:List Nat) (i:Int),sq w i 0=rd w i:=fun w i=>by unfold sq;rw[show i+0=i by omega]
 refine ⟨fun s t=>?_,fun s t a b rn=>?_⟩
 ·have key: ∀p∈[(aD (sq (ws.getD c []) s (-1)),pI ws N c (s - 1)),(sq (ws.getD c []) s 0,pO ws N c s),(aD (sq (ws.getD d []) t (-1)),pI ws N d (t - 1)),(sq (ws.getD d []) t 0,pO ws N d t)], ∃e i:Nat,e<ws.length/\i<(ws.getD e []).length/\(p.1=rd (ws.getD e []) i\/p.1=aD (rd (ws.getD e []) i))/\p.2=N e i p.1:=by
   intro p hp
   simp only[T3,UP,or_false]at hp
   rcases hp with rfl | rfl | rfl | rfl
   ·exact ⟨c,_,hc,br lw (s - 1), .inr (by rw[bM hw.ne];rfl),rfl⟩
   ·exact ⟨c,_,hc,br lw s, .inl (by rw[bM hw.ne,s0]),by rw[s0];rfl⟩
   ·exact ⟨d,_,hd,br lv (t - 1), .inr (by rw[bM hv.ne];rfl),rfl⟩
   ·exact ⟨d,_,hd,br lv t, .inl (by rw[bM hv.ne,s0]),by rw[s0];rfl⟩
  intro p hp q hq dk
  obtain ⟨e,i,he,hi,h1,h2⟩:=key p hp
  obtain ⟨e',j,z4,hj,h3,h4⟩:=key q hq
  rw[h2,h4]
  exact hN.sep e i e' j _ _ he z4 hi hj h1 h3 dk
 ·obtain ⟨a',b',Ov,ha,hb⟩:=cW lw lv (fun k=>cH _ s k) (fun k=>cH _ t k) rn.zero ⟨_,rn.hi⟩
  obtain ⟨rfl,rfl⟩:=rn.one Ov
  have:=h.big c d hc hd
  have key:=hN.run h.yd hc hd (br lw s) (br lv t) hw hv (.inl (cg hw.ne s).symm) (.inl (cg hv.ne t).symm) rn (by omega) (by omega) (fun z=>rn.hi (by
   obtain ⟨z1,z2⟩:=Prod.mk.inj z
   subst z1
   rw[<-cg hw.ne s, <-cg hw.ne t,z2]))
  rw[s0,s0]at key
  exact key
theorem Lies.P7 (h:dI y ws L r M) (hN:Lies y ws L r M N) {c d:Nat} (hc:c<ws.length) (hd:d<ws.length):Fx y (sq (ws.getD c [])) (pO ws N c) (pI ws N c) (fun k=>bq (ws.getD d []) (-k)) (fun k=>pI ws N d (-k)) (fun k=>pO ws N d (-k)):=by
 have hw:=h.sw c hc
 have hv:=h.sw d hd
 have lw:=IC.mpr hw.ne
 have lv:=IC.mpr hv.ne
 have s0: ∀(w:List Nat) (i:Int),sq w i 0=rd w i:=fun w i=>by unfold sq;rw[show i+0=i by omega]
 have b0: ∀(w:List Nat) (i:Int),bq w i 0=aD (rd w i):=fun w i=>by unfold bq;rw[show i - 0=i by omega]
 have bb: ∀t:Int,aD (bq (ws.getD d []) (-t) (-1))=rd (ws.getD d []) (-(t - 1)):=fun t=>by
  unfold bq
  rw[aN (h.yd.lt _ (hv.rd _))]
  congr 1;omega
 refine ⟨fun s t=>?_,fun s t a b rn=>?_⟩
 ·have key: ∀p∈[(aD (sq (ws.getD c []) s (-1)),pI ws N c (s - 1)),(sq (ws.getD c []) s 0,pO ws N c s),(aD (bq (ws.getD d []) (-t) (-1)),pO ws N d (-(t - 1))),(bq (ws.getD d []) (-t) 0,pI ws N d (-t))], ∃e i:Nat,e<ws.length/\i<(ws.getD e []).length/\(p.1=rd (ws.getD e []) i\/p.1=aD (rd (ws.getD e []) i))/\p.2=N e i p.1:=by
   intro p hp
   simp only[T3,UP,or_false]at hp
   rcases hp with rfl | rfl | rfl | rfl
   ·exact ⟨c,_,hc,br lw (s - 1), .inr (by rw[bM hw.ne];rfl),rfl⟩
   ·exact ⟨c,_,hc,br lw s, .inl (by rw[bM hw.ne,s0]),by rw[s0];rfl⟩
   ·exact ⟨d,_,hd,br lv (-(t - 1)), .inl (by rw[bM hv.ne];exact bb t),by rw[bb t];rfl⟩
   ·exact ⟨d,_,hd,br lv (-t), .inr (by rw[bM hv.ne,b0]),by rw[b0];rfl⟩
  intro p hp q hq dk
  obtain ⟨e,i,he,hi,h1,h2⟩:=key p hp
  obtain ⟨e',j,z4,hj,h3,h4⟩:=key q hq
  rw[h2,h4]
  exact hN.sep e i e' j _ _ he z4 hi hj h1 h3 dk
 ·obtain ⟨a',b',Ov,ha,hb⟩:=cW lw lv (fun k=>cH _ s k) (fun k=>nM _ (-t) k) rn.zero ⟨_,rn.hi⟩
  obtain ⟨rfl,rfl⟩:=rn.one Ov
  have:=h.big c d hc hd
  have key:=hN.run h.yd hc hd (br lw s) (br lv (-t)) hw hv (.inl (cg hw.ne s).symm) (.inr (rP hv.ne (-t)).symm) rn (by omega) (by omega) (fun z=>by
   obtain ⟨z1,z2⟩:=Prod.mk.inj z
   subst z1
   have z0:=rn.zero
   rw[s0,b0, <-bM hw.ne s, <-bM hw.ne (-t),z2]at z0
   exact kI (h.yd.lt _ (hw.rd _)) z0.symm)
  rw[s0,b0,aN (h.yd.lt _ (hv.rd _))]at key
  exact key
theorem rR {n n' r r' c d i j:Nat} {l low Hq:Bool} (h:c≠d):bp (CZ n r l low c i) (CZ n' r' (if Hq=low then l else !l) Hq d j)=if low=l then decide (c<d) else decide (d<c):=by
 unfold CZ
 cases low<;>cases Hq<;>cases l<;>simp only[Xh,XC,if_true,if_false,Bool.true_eq_false,VV]<;>rw[Ho (by omega)]<;>exact decide_eq_decide.mpr (by omega)
theorem Lies.Bk (h:dI y ws L r M) (hN:Lies y ws L r M N) {c d:Nat} (hc:c<ws.length) (hd:d<ws.length) (lT:c≠d) {i j:Nat} {f g:Int->Nat} (hi:i<(ws.getD c []).length) (hj:j<(ws.getD d []).length) (hf:Dl (ws.getD c []) i f) (hg:Dl (ws.getD d []) j g) (hp: ∀k,f k=g k)
  (hl:L d=if az (rd (ws.getD d []) j)=az (rd (ws.getD c []) i) then L c else !L c) (hs:f=sq (ws.getD c []) i):
  N c i (f 0)≠N d j (g 0)/\N c i (aD (f 0))≠N d j (aD (g 0))/\decide (N c i (f 0)<N d j (g 0))=(if L c=true then decide (c<d) else decide (d<c))/\decide (N d j (aD (g 0))<N c i (aD (f 0)))=(if L c=true then decide (c<d) else decide (d<c)):=by
 have hw:=h.sw c hc
 have hv:=h.sw d hd
 have e:(if az (f 0)=true then bp (cf y ws L r M c i) (cf y ws L r M d j) else bp (cf y ws L r M d j) (cf y ws L r M c i))=if L c=true then decide (c<d) else decide (d<c):=by
  have es:ky (ws.getD c []) i=ky (ws.getD d []) j:=by
   rw[rO h.yd hw hf,rO h.yd hv hg,show f=g from funext hp]
  have f0:f 0=rd (ws.getD c []) i:=by rw[hs];unfold sq;rw[show (i:Int)+0=i by omega]
  unfold cf
  rw[es,eN,eN,f0]
  have w6:L c=if az (rd (ws.getD c []) i)=az (rd (ws.getD d []) j) then L d else !L d:=by
   rw[hl]
   cases az (rd (ws.getD d []) j)<;>cases az (rd (ws.getD c []) i)<;>cases L c<;>rfl
  have e1:= @rR (ws.getD c []).length (ws.getD d []).length (r c) (r d) c d i j (L c) (az (rd (ws.getD c []) i)) (az (rd (ws.getD d []) j)) lT
  have e2:= @rR (ws.getD d []).length (ws.getD c []).length (r d) (r c) d c j i (L d) (az (rd (ws.getD d []) j)) (az (rd (ws.getD c []) i)) (Ne.symm lT)
  rw[<-hl]at e1
  rw[<-w6]at e2
  rw[e1,e2,hl]
  cases az (rd (ws.getD d []) j)<;>cases az (rd (ws.getD c []) i)<;>cases L c<;>rfl
 have:=hN.at h.yd hc hd hi hj hw hv hf hg (hp 0) (fun z=>lT (Prod.mk.inj z).1)
 rw[e]at this
 rw[<-hp 0]
 exact this
end
theorem um {n k r i:Nat} (hr:0<r) (hn:n=k*r) (hi:i<n):(n - 1 - i) / r=k - 1 - i / r:=by
 have h1:=V_ i r
 have h2:=Wa i hr
 have h3:i / r<k:=by
  rw[W3 hr];omega
 rw[Nat.div_eq_iff hr]
 obtain ⟨t,rfl⟩: ∃t,k=i / r+1+t:=⟨k - 1 - i / r,by omega⟩
 generalize hq:i / r=q at*
 rw[Nat.add_mul,Nat.add_mul,Nat.one_mul,VD q r]at hn
 have e:q+1+t - 1 - q=t:=by omega
 rw[e]
 generalize r*q=A at*
 generalize t*r=B at*
 omega
theorem zu {r i j:Nat} (hr:0<r) (h:i%r=j%r) (dh:i≠j):(i / r<j / r↔i<j)/\i / r≠j / r:=by
 have h1:=V_ i r
 have h2:=V_ j r
 have rS:i / r≠j / r:=fun z=>dh (by rw[<-h1, <-h2,z,h])
 refine ⟨⟨fun q=>?_,fun q=>?_⟩,rS⟩
 ·have:r*(i / r+1)<=r*(j / r):=Nat.mul_le_mul_left r q
  rw[Nat.mul_add,Nat.mul_one]at this
  omega
 ·refine Classical.byContradiction fun z=>?_
  have h3:j / r+1<=i / r:=by omega
  have:r*(j / r+1)<=r*(i / r):=Nat.mul_le_mul_left r h3
  rw[Nat.mul_add,Nat.mul_one]at this
  omega
theorem v9 {n k r c i j:Nat} {l low:Bool} (hr:0<r) (hn:n=k*r) (hi:i<n) (hj:j<n) (h:i%r=j%r) (dh:i≠j):(if low=true then bp (CZ n r l low c i) (CZ n r l low c j) else bp (CZ n r l low c j) (CZ n r l low c i))=decide (i<j):=by
 obtain ⟨d1,d2⟩:=zu hr h dh
 have e1:=um hr hn hi
 have e2:=um hr hn hj
 have b1:i / r<k:=by rw[W3 hr];omega
 have b2:j / r<k:=by rw[W3 hr];omega
 unfold CZ
 cases low<;>cases l<;>simp only[if_true,if_false,Bool.true_eq_false,VV]
 ·rw[e1,e2,rQ (by omega)];exact decide_eq_decide.mpr (by omega)
 ·rw[rQ (by omega)];exact decide_eq_decide.mpr (by omega)
 ·rw[e1,e2,rQ (by omega)];exact decide_eq_decide.mpr (by omega)
 ·rw[rQ (by omega)];exact decide_eq_decide.mpr (by omega)
noncomputable def fc (y w v:List Nat) (i j:Int):Int:=one (ac y (aD (rd w (i - 1))) (rd w i) (aD (rd v (j - 1))) (rd v j)=true)+one (0<al y (sq w i) (sq v j) (w.length+v.length))+one (0<al y (sq w i) (bq v j) (w.length+v.length))
section
variable {y:List Nat} {ws:List (List Nat)} {L:Nat->Bool} {r:Nat->Nat} {M:Nat} {N:Nat->Nat->Nat->Nat}
theorem rT (ws:List (List Nat)) (N:Nat->Nat->Nat->Nat) (c:Nat) (k:Int):pO ws N c (k+(ws.getD c []).length)=pO ws N c k:=by unfold pO;rw[xP,dU]
theorem rV (ws:List (List Nat)) (N:Nat->Nat->Nat->Nat) (c:Nat) (k:Int):pI ws N c (k+(ws.getD c []).length)=pI ws N c k:=by unfold pI;rw[xP,dU]
theorem dI.root (h:dI y ws L r M) {c:Nat} (hc:c<ws.length):(ws.getD c []).length=(ws.getD c []).length / r c*r c/\0<(ws.getD c []).length / r c:=by
 have hp:=h.rp c hc
 have hl:=IC.mpr (h.sw c hc).ne
 have h1:=(h.rr c hc (ws.getD c []).length 0).mp (fun k=>by
  have:=congrFun (jw (ws.getD c []) 0) k
  rwa [Vy]at this)
 rw[Wi]at h1
 have h2:(ws.getD c []).length%r c=0:=by
  have:((((ws.getD c []).length%r c:Nat)):Int)=0:=by rw[<-h1];rfl
  omega
 have h3:=V_ (ws.getD c []).length (r c)
 rw[h2,Nat.add_zero,VD]at h3
 refine ⟨h3.symm,Nat.pos_of_ne_zero fun z=>?_⟩
 rw[z,Xk]at h3
 omega
theorem qp (h:dI y ws L r M) (hN:Lies y ws L r M N) {c d:Nat} (hc:c<ws.length) (hd:d<ws.length) (lT:c≠d):
  bO (ws.getD c []).length (ws.getD d []).length (fun i j=>one (g7 (pO ws N c) (pI ws N c) (pO ws N d) (pI ws N d) i j=true))=bO (ws.getD c []).length (ws.getD d []).length (fc y (ws.getD c []) (ws.getD d [])):=by
 have hw:=h.sw c hc
 have hv:=h.sw d hd
 have lw:=IC.mpr hw.ne
 have lv:=IC.mpr hv.ne
 have s0: ∀(w:List Nat) (i:Int),sq w i 0=rd w i:=fun w i=>by unfold sq;rw[show i+0=i by omega]
 have b0: ∀(w:List Nat) (i:Int),bq w i 0=aD (rd w i):=fun w i=>by unfold bq;rw[show i - 0=i by omega]
 have hS:=hN.two h hc hd
 have hO:=hN.P7 h hc hd
 rw[uk h.yd hw hv (rT ws N c) (rV ws N c) (rT ws N d) (rV ws N d) hS hO,D_ h.yd hw hv hS (if L c=true then decide (c<d) else decide (d<c)),Ea h.yd hw hv hO (if L c=true then decide (c<d) else decide (d<c)), <-b4, <-b4]
 ·unfold fc
  omega
 ·intro i j p
  have p0:=p 0
  rw[s0,b0]at p0
  have lo:=fg _ (h.yd.lt _ (hv.rd j)).mem
  have:=hN.Bk h hc hd lT (br lw i) (br lv j) (f:=sq (ws.getD c []) i) (g:=bq (ws.getD d []) j) (.inl (cg hw.ne i).symm) (.inr (rP hv.ne j).symm) p (by
   rw[bM hw.ne,bM hv.ne,p0,lo,h.l2 c d i j hc hd p]
   cases az (rd (ws.getD d []) j)<;>rfl) (cg hw.ne i).symm
  rw[s0,b0,aN (h.yd.lt _ (hv.rd _))]at this
  exact this
 ·intro i j p
  have p0:=p 0
  rw[s0,s0]at p0
  have:=hN.Bk h hc hd lT (br lw i) (br lv j) (f:=sq (ws.getD c []) i) (g:=sq (ws.getD d []) j) (.inl (cg hw.ne i).symm) (.inl (cg hv.ne j).symm) p (by
   rw[bM hw.ne,bM hv.ne,p0,if_pos rfl]
   exact (h.l1 c d i j hc hd p).symm) (cg hw.ne i).symm
  rw[s0,s0]at this
  exact this
theorem v_ (h:dI y ws L r M) (hN:Lies y ws L r M N) {c:Nat} (hc:c<ws.length):
  bO (ws.getD c []).length (ws.getD c []).length (fun i j=>one (g7 (pO ws N c) (pI ws N c) (pO ws N c) (pI ws N c) i j=true))=bO (ws.getD c []).length (ws.getD c []).length (fc y (ws.getD c []) (ws.getD c []))+2*(((ws.getD c []).length / r c:Nat) - 1):=by
 have hw:=h.sw c hc
 have lw:=IC.mpr hw.ne
 have s0: ∀(w:List Nat) (i:Int),sq w i 0=rd w i:=fun w i=>by unfold sq;rw[show i+0=i by omega]
 have hS:=hN.two h hc hc
 have hO:=hN.P7 h hc hc
 obtain ⟨Fm,Ly⟩:=h.root hc
 have P8:=h.rp c hc
 have e0:bO (ws.getD c []).length (ws.getD c []).length (fun i j=>one (jx (ws.getD c []) (ws.getD c []) i j/\g7 (pO ws N c) (pI ws N c) (pO ws N c) (pI ws N c) i j=true))=0:=by
  rw[show (0:Int)=bO (ws.getD c []).length (ws.getD c []).length (fun _ _=>0) by unfold bO;rw[show (fun _:Int=>sm (ws.getD c []).length fun _=>0)=fun _=>0 from funext fun _=>fh _,fh]]
  exact aZ fun i j _ _=>aV fun z=>rN h.yd hw _ _ z.1
 rw[uk h.yd hw hw (rT ws N c) (rV ws N c) (rT ws N c) (rV ws N c) hS hO,e0,Bj h.yd hw hS P8 Fm Ly, <-b4, <-b4]
 ·unfold fc
  omega
 ·intro j hj
  rw[h.rr c hc]
  constructor
  ·intro q
   have:(j:Int)%(r c:Int)=0:=by
    rw[Int.zero_sub]at q
    exact Int.emod_eq_zero_of_dvd (Int.dvd_neg.mp (Int.dvd_of_emod_eq_zero q))
   have h2:((j%r c:Nat):Int)=0:=by rw[<-this];rfl
   omega
  ·intro q
   have:(j:Int)%(r c:Int)=0:=by
    have h2:((j%r c:Nat):Int)=(j:Int)%(r c:Int):=rfl
    rw[<-h2,q];rfl
   rw[Int.zero_sub]
   exact Int.emod_eq_zero_of_dvd (Int.dvd_neg.mpr (Int.dvd_of_emod_eq_zero this))
 ·intro i j p dh
  have p0:=p 0
  rw[s0,s0]at p0
  have rS:iB (ws.getD c []).length i≠iB (ws.getD c []).length j:=fun z=>dh (by rw[<-dD lw, <-dD lw,z])
  have:=hN.at h.yd hc hc (br lw i) (br lw j) hw hw (f:=sq (ws.getD c []) i) (g:=sq (ws.getD c []) j) (.inl (cg hw.ne i).symm) (.inl (cg hw.ne j).symm) (p 0) (fun z=>rS (Prod.mk.inj z).2)
  have Eb:iB (ws.getD c []).length i%r c=iB (ws.getD c []).length j%r c:=by
   have p':bE (ws.getD c []) (ws.getD c []) (iB (ws.getD c []).length i:Nat) (iB (ws.getD c []).length j:Nat):=fun k=>by rw[cg hw.ne,cg hw.ne];exact p k
   have q:=(h.rr c hc _ _).mp p'
   have q2:=Int.emod_eq_emod_iff_emod_sub_eq_zero.mpr q
   have q3:((iB (ws.getD c []).length i%r c:Nat):Int)=((iB (ws.getD c []).length j%r c:Nat):Int):=q2
   omega
  have es:ky (ws.getD c []) (iB (ws.getD c []).length i:Nat)=ky (ws.getD c []) (iB (ws.getD c []).length j:Nat):=by
   unfold ky
   rw[bM hw.ne,bM hw.ne,p0,cg hw.ne,cg hw.ne,rP hw.ne,rP hw.ne,show sq (ws.getD c []) i=sq (ws.getD c []) j from funext p, <-dB, <-dB,show sq (ws.getD c []) i=sq (ws.getD c []) j from funext p]
  have e:= @v9 (ws.getD c []).length _ (r c) c _ _ (L c) (az (rd (ws.getD c []) j)) P8 Fm (br lw i) (br lw j) Eb rS
  unfold cf at this
  rw[es,eN,eN,s0,bM hw.ne,bM hw.ne,p0,e,decide_eq_decide.mpr (show iB (ws.getD c []).length i<iB (ws.getD c []).length j↔i%((ws.getD c []).length:Int)<j%((ws.getD c []).length:Int) by rw[<-dD lw, <-dD lw];omega)]at this
  unfold pO pI
  rw[p0]
  exact this
end
noncomputable def sR:Nat->(Int->Int->Int)->Int
 | 0,_=>0
 | n+1,h=>sR n h+sm n (fun j=>h j n)
theorem rW (n m:Nat) (h:Int->Int->Int):bO (n+1) m h=bO n m h+sm m (fun j=>h n j):=rfl
theorem rX (m:Nat) (h:Int->Int->Int): ∀n:Nat,bO n (m+1) h=bO n m h+sm n (fun i=>h i m)
 | 0=>rfl
 | n+1=>by
  rw[rW,rW,rX m h n]
  show bO n m h+sm n (fun i=>h i m)+(sm m (fun j=>h n j)+h n m)=bO n m h+sm m (fun j=>h n j)+(sm n (fun i=>h i m)+h n m)
  omega
theorem xQ {h:Int->Int->Int}: ∀{n:Nat},(∀i j:Nat,i<n->j<n->h i j=h j i)->(∀i:Nat,i<n->h i i=0)->bO n n h=2*sR n h
 | 0,_,_=>rfl
 | n+1,sy,dg=>by
  rw[rX,rW,xQ (n:=n) (fun i j hi hj=>sy i j (by omega) (by omega)) (fun i hi=>dg i (by omega))]
  show 2*sR n h+sm n (fun j=>h n j)+(sm n (fun i=>h i n)+h n n)=2*(sR n h+sm n (fun j=>h j n))
  rw[dg n (by omega),aC (h:=fun j=>h n j) (g:=fun j=>h j n) (fun j hj=>sy n j (by omega) (by omega))]
  omega
theorem kO {h g:Int->Int->Int}: ∀{n:Nat},(∀i j:Nat,i<j->j<n->h i j=g i j)->sR n h=sR n g
 | 0,_=>rfl
 | n+1,e=>by
  show sR n h+_=sR n g+_
  rw[kO (n:=n) fun i j h1 h2=>e i j h1 (by omega),aC (g:=fun j=>g j n) fun j hj=>e j n hj (by omega)]
section
variable {y:List Nat} {ws:List (List Nat)} {L:Nat->Bool} {r:Nat->Nat} {M:Nat} {N:Nat->Nat->Nat->Nat}
theorem Lies.inj (h:dI y ws L r M) (hN:Lies y ws L r M N) {c i d j e e':Nat} (hc:c<ws.length) (hd:d<ws.length) (hi:i<(ws.getD c []).length) (hj:j<(ws.getD d []).length) (he:e=rd (ws.getD c []) i\/e=aD (rd (ws.getD c []) i)) (z4:e'=rd (ws.getD d []) j\/e'=aD (rd (ws.getD d []) j))
  (dh:(c,i,e)≠(d,j,e')):N c i e≠N d j e':=by
 have ly: ∀{c i e:Nat},c<ws.length->(e=rd (ws.getD c []) i\/e=aD (rd (ws.getD c []) i))->e∈y:=fun hc he=>he.elim (fun z=>z▸(h.sw _ hc).rd _) fun z=>z▸h.yd.cl _ ((h.sw _ hc).rd _)
 have ye:=ly hc he
 have RX:=ly hd z4
 by_cases z:e=e'
 ·subst z
  have rS:(c,i)≠(d,j):=fun q=>dh (by rw[(Prod.mk.inj q).1,(Prod.mk.inj q).2])
  have le:=h.yd.lt _ ye
  have lc:=h.yd.lt _ ((h.sw c hc).rd i)
  have ld:=h.yd.lt _ ((h.sw d hd).rd j)
  by_cases l:az e=true
  ·exact (hN.low c i d j e hc hd hi hj rS l (he.elim (fun z=> .inl z.symm) fun z=> .inr (by rw[z,aN lc])) (z4.elim (fun z=> .inl z.symm) fun z=> .inr (by rw[z,aN ld]))).1
  ·have:=(hN.low c i d j (aD e) hc hd hi hj rS (by rw[fg _ le.mem];simpa using l) (by rw[aN le];exact he.elim (fun z=> .inr z.symm) fun z=> .inl (by rw[z,aN lc])) (by rw[aN le];exact z4.elim (fun z=> .inr z.symm) fun z=> .inl (by rw[z,aN ld]))).2.1
   rwa [aN le]at this
 ·have n:=bQ ye RX z
  rcases VS n with q | q
  ·exact UJ (hN.sep c i d j e e' hc hd hi hj he z4 q)
  ·exact We (hN.sep d j c i e' e hd hc hj hi z4 he q)
theorem xR {n i j:Nat} {k:Int} (hi:i<n) (hj:j<n) (q:iB n ((i:Int) - k)=iB n ((j:Int) - k)):i=j:=by
 have lw:0<n:=UX (T6 _) hi
 have q2:((i:Int) - k)%n=((j:Int) - k)%n:=by rw[<-dD lw, <-dD lw,q]
 have q3:=(Int.emod_sub_cancel_right k).mp q2
 rw[UU (WC _) (Int.ofNat_lt.mpr hi),UU (WC _) (Int.ofNat_lt.mpr hj)]at q3
 exact Xf q3
theorem dE (h:dI y ws L r M) (hN:Lies y ws L r M N) {c d i j:Nat} (hc:c<ws.length) (hd:d<ws.length) (hi:i<(ws.getD c []).length) (hj:j<(ws.getD d []).length):
  pI ws N c ((i:Int) - 1)≠pO ws N d j/\((c,i)≠(d,j)->pI ws N c ((i:Int) - 1)≠pI ws N d ((j:Int) - 1)/\pO ws N c i≠pO ws N d j):=by
 have hw:=h.sw c hc
 have hv:=h.sw d hd
 have lw:=IC.mpr hw.ne
 have lv:=IC.mpr hv.ne
 have vo: ∀{c:Nat} (hw:SW y (ws.getD c [])) (k:Int),rd (ws.getD c []) k=rd (ws.getD c []) (iB (ws.getD c []).length k:Nat)\/rd (ws.getD c []) k=aD (rd (ws.getD c []) (iB (ws.getD c []).length k:Nat)):=fun hw k=> .inl (bM hw.ne k).symm
 have vi: ∀{c:Nat} (hw:SW y (ws.getD c [])) (k:Int),aD (rd (ws.getD c []) k)=rd (ws.getD c []) (iB (ws.getD c []).length k:Nat)\/aD (rd (ws.getD c []) k)=aD (rd (ws.getD c []) (iB (ws.getD c []).length k:Nat)):=fun hw k=> .inr (by rw[bM hw.ne k])
 refine ⟨hN.inj h hc hd (br lw _) (br lv _) (vi hw _) (vo hv _) fun q=>?_,fun dh=>⟨hN.inj h hc hd (br lw _) (br lv _) (vi hw _) (vi hv _) fun q=>?_,hN.inj h hc hd (br lw _) (br lv _) (vo hw _) (vo hv _) fun q=>?_⟩⟩
 ·obtain ⟨q1,q⟩:=Prod.mk.inj q
  obtain ⟨q2,q3⟩:=Prod.mk.inj q
  subst q1
  rw[<-bM hw.ne ((i:Int) - 1), <-bM hw.ne (j:Int),q2]at q3
  exact kI (h.yd.lt _ (hw.rd _)) q3
 ·obtain ⟨q1,q⟩:=Prod.mk.inj q
  subst q1
  exact dh (by rw[xR hi hj (Prod.mk.inj q).1])
 ·obtain ⟨q1,q⟩:=Prod.mk.inj q
  subst q1
  exact dh (by rw[xR (k:=0) hi hj (by rw[Wi,Wi];exact (Prod.mk.inj q).1)])
theorem Ec (h:dI y ws L r M) (hN:Lies y ws L r M N) {c d:Nat} (hc:c<ws.length) (hd:d<ws.length) {i j:Nat} (hi:i<(ws.getD c []).length) (hj:j<(ws.getD d []).length):g7 (pO ws N c) (pI ws N c) (pO ws N d) (pI ws N d) i j=g7 (pO ws N d) (pI ws N d) (pO ws N c) (pI ws N c) j i:=by
 by_cases z:(c,i)=(d,j)
 ·obtain ⟨rfl,rfl⟩:=Prod.mk.inj z
  rfl
 have n:=dE h hN hc hd hi hj
 exact j8 (dE h hN hc hc hi hi).1 (dE h hN hd hd hj hj).1 (n.2 z).1 n.1 (Ne.symm (dE h hN hd hc hj hi).1) (n.2 z).2
theorem Bl (h:dI y ws L r M) (hN:Lies y ws L r M N) {c:Nat} (hc:c<ws.length):
  2*sR (ws.getD c []).length (fun i j=>one (g7 (pO ws N c) (pI ws N c) (pO ws N c) (pI ws N c) i j=true))=bO (ws.getD c []).length (ws.getD c []).length (fc y (ws.getD c []) (ws.getD c []))+2*(((ws.getD c []).length / r c:Nat) - 1):=by
 rw[<-v_ h hN hc]
 exact (xQ (fun i j hi hj=>by rw[Ec h hN hc hc hi hj]) (fun i hi=>aV (by unfold g7;rw[ui];decide))).symm
end
theorem Bm {y:List Nat} {f g:Int->Nat} {a:Nat} (hy:Yd y) (hf:gS y f) (hg:gS y g) (h:f a=g a) (hn:f (a+1)≠g (a+1)):gk y g f a=!gk y f g a:=by
 have:dW y f (a+1)≠dW y g (a+1):=fun q=>hn (by
  unfold dW at q
  rw[show (a:Int)+1 - 1=a by omega, <-h]at q
  exact j7 (hy.cl _ (hf.bL _)) (hf.bL _) (hg.bL _) q)
 unfold gk
 rw[<-decide_not]
 exact decide_eq_decide.mpr (by omega)
theorem wa {y:List Nat} {f g:Int->Nat} {b:Nat} (hy:Yd y) (hf:gS y f) (hg:gS y g) (h:f (-(b:Int))=g (-(b:Int))) (hn:f (-(b:Int) - 1)≠g (-(b:Int) - 1)):gx y g f b=!gx y f g b:=by
 have:dW y f (-(b:Int))≠dW y g (-(b:Int)):=fun q=>hn (by
  unfold dW at q
  rw[<-h]at q
  have r1:=hf.red (-(b:Int))
  have r2:=hg.red (-(b:Int))
  have c1:=(dX (hy.cl _ (hf.bL (-(b:Int) - 1))) (hf.bL (-(b:Int))) (Ne.symm r1)).2.2
  have c2:=(dX (hy.cl _ (hg.bL (-(b:Int) - 1))) (hf.bL (-(b:Int))) (by rw[h];exact Ne.symm r2)).2.2
  have:=j7 (hf.bL (-(b:Int))) (hy.cl _ (hf.bL (-(b:Int) - 1))) (hy.cl _ (hg.bL (-(b:Int) - 1))) (by rw[c1,c2,q])
  exact ff (hy.lt _ (hf.bL _)) (hy.lt _ (hg.bL _)) this)
 unfold gx
 rw[<-decide_not]
 exact decide_eq_decide.mpr (by omega)
theorem Fy {y:List Nat} {f g:Int->Nat} (hy:Yd y) (hf:gS y f) (hg:gS y g):gJ y f g->gJ y g f:=fun ⟨a,r,x⟩=>⟨a,r.sy,by
 rw[Bm hy hf hg (r.mM a (by omega) (by omega)) r.hi,wa hy hf hg (r.mM _ (by omega) (by omega)) r.lo]
 exact fun q=>x (by simpa using q)⟩
theorem wb {y:List Nat} {a b p q:Nat} (hy:Yd y) (ha:a∈y) (hb:b∈y) (hp:p∈y) (hq:q∈y) (uX:a≠b) (LF:p≠q):ac y a b p q=ac y p q a b:=by
 unfold ac
 by_cases z:p=a\/p=b\/q=a\/q=b
 ·rw[if_pos z,if_pos (z.elim (fun z=> .inl z.symm) fun z=>z.elim (fun z=> .inr (.inr (.inl z.symm))) fun z=>z.elim (fun z=> .inr (.inl z.symm)) fun z=> .inr (.inr (.inr z.symm)))]
 ·have n1:a≠p:=fun q=>z (.inl q.symm)
  have n2:b≠p:=fun q=>z (.inr (.inl q.symm))
  have n3:a≠q:=fun q=>z (.inr (.inr (.inl q.symm)))
  have n4:b≠q:=fun q=>z (.inr (.inr (.inr q.symm)))
  rw[if_neg z,if_neg (fun z=>z.elim n1 fun z=>z.elim n3 fun z=>z.elim n2 n4)]
  rw[fT hy.nd ha hp hb n1 uX (Ne.symm n2),fT hy.nd ha hq hb n3 uX (Ne.symm n4),fT hy.nd hp ha hq (Ne.symm n1) LF n3,fT hy.nd hp hb hq (Ne.symm n2) LF n4]
  exact j8 (bQ ha hb uX) (bQ hp hq LF) (bQ ha hp n1) (bQ ha hq n3) (bQ hb hp n2) (bQ hb hq n4)
theorem Bn {Q:Int->Prop} {P:Nat->Bool}: ∀{m:Nat},(∀j:Nat,j<m->(Q j↔P j=true))->sm m (fun j=>one (Q j))=((List.range m).filter P).length
 | 0,_=>rfl
 | m+1,h=>by
  show sm m _+one (Q m)=_
  rw[Bn (m:=m) fun j hj=>h j (by omega),Vq,VT,Rk,ba (h m (by omega))]
  cases e:P m
  ·rw[UT (by rw[e];decide),aV (by decide)];simp
  ·rw[U3 e,eX rfl];simp
section
variable {y w:List Nat}
end
section
variable {y w:List Nat}
end
section
variable {y:List Nat} {ws:List (List Nat)}
end
theorem xS (n:Nat) (h:Int->Int->Int): ∀m:Nat,sm n (fun i=>sm m fun j=>h i j)=sm m fun j=>sm n fun i=>h i j
 | 0=>fh n
 | m+1=>by
  show bO n (m+1) h=sm m (fun j=>sm n fun i=>h i j)+sm n (fun i=>h i m)
  rw[rX, <-xS n h m]
  rfl
theorem iW (h:Nat->Int): ∀n:Nat,((List.range n).map h).sum=sm n (fun i=>h i.toNat)
 | 0=>rfl
 | n+1=>by
  rw[Vq,Rn,List.sum_append,iW h n]
  show _=sm n _+h (((n:Nat):Int).toNat)
  rw[PB]
  simp
theorem xT (ws:List (List Nat)) (h:Nat×Nat->Int): ∀n:Nat,((ug ws n).map h).sum=sm n fun c=>sm (ws.getD c.toNat []).length fun i=>h (c.toNat,i.toNat)
 | 0=>rfl
 | n+1=>by
  unfold ug
  rw[Rn,List.sum_append,xT ws h n,Vj]
  show _+((List.range _).map fun i=>h (n,i)).sum=_
  rw[iW]
  rfl
noncomputable def cl {α:Type} (p:α->α->Bool):List α->Nat
 | []=>0
 | x::r=>(r.filter (p x)).length+cl p r
theorem rY {α:Type} (p:α->α->Bool) (m:List α): ∀l:List α,(cl p (l++m):Int)=cl p l+cl p m+(l.map fun x=>((m.filter (p x)).length:Int)).sum
 | []=>by show (cl p m:Int)=((0:Nat):Int)+cl p m+0;omega
 | a::l=>by
  show ((((l++m).filter (p a)).length+cl p (l++m):Nat):Int)=(((l.filter (p a)).length+cl p l:Nat):Int)+cl p m+(((a::l).map fun x=>((m.filter (p x)).length:Int)).sum)
  rw[VT,Rk,UK,VP,U8,U8,rY p m l,U8]
  omega
theorem Bo (p:Nat×Nat->Nat×Nat->Bool) (c:Nat): ∀n:Nat,(cl p ((List.range n).map fun i=>(c,i)):Int)=sR n (fun i j=>one (p (c,i.toNat) (c,j.toNat)=true))
 | 0=>rfl
 | n+1=>by
  rw[Vq,Rn,rY,Bo p c n,Vj]
  show _+((0:Nat):Int)+((List.range n).map fun i=>((([(c,n)]:List (Nat×Nat)).filter (p (c,i))).length:Int)).sum=sR n _+sm n _
  rw[iW,WK]
  congr 1
  rw[show ((0:Nat):Int)=0 from rfl,Vy]
  refine aC fun i _=>?_
  show (((([(c,n)]:List (Nat×Nat)).filter (p (c,i))).length:Int))=one (p (c,((i:Nat):Int).toNat) (c,((n:Nat):Int).toNat)=true)
  rw[PB,PB]
  cases e:p (c,i) (c,n)
  ·rw[UT (by rw[e];decide),aV (by decide)];rfl
  ·rw[U3 e,eX rfl];rfl
theorem xU (P:Nat×Nat->Bool) (c n:Nat):((((List.range n).map fun i=>(c,i)).filter P).length:Int)=sm n (fun j=>one (P (c,j.toNat)=true)):=by
 rw[List.filter_map,Py,Bn (P:=fun j=>P (c,j)) fun j _=>by rw[PB]]
 rfl
theorem Bp (ws:List (List Nat)) (p:Nat×Nat->Nat×Nat->Bool): ∀n:Nat,(cl p (ug ws n):Int)=sm n (fun c=>sR (ws.getD c.toNat []).length (fun i j=>one (p (c.toNat,i.toNat) (c.toNat,j.toNat)=true)))+sR n (fun c d=>bO (ws.getD c.toNat []).length (ws.getD d.toNat []).length fun i j=>one (p (c.toNat,i.toNat) (d.toNat,j.toNat)=true))
 | 0=>rfl
 | n+1=>by
  unfold ug
  rw[rY,Bp ws p n,Bo,xT]
  have u:((n:Nat):Int).toNat=n:=PB n
  show _+_+sm n _=(sm n _+sR (ws.getD ((n:Nat):Int).toNat []).length (fun i j=>one (p (((n:Nat):Int).toNat,i.toNat) (((n:Nat):Int).toNat,j.toNat)=true)))+(sR n _+sm n (fun c=>bO (ws.getD c.toNat []).length (ws.getD ((n:Nat):Int).toNat []).length fun i j=>one (p (c.toNat,i.toNat) (((n:Nat):Int).toNat,j.toNat)=true)))
  rw[u]
  have:sm n (fun c=>sm (ws.getD c.toNat []).length fun i=>(((((List.range (ws.getD n []).length).map fun i=>(n,i)).filter (p (c.toNat,i.toNat))).length:Nat):Int))=sm n (fun c=>bO (ws.getD c.toNat []).length (ws.getD n []).length fun i j=>one (p (c.toNat,i.toNat) (n,j.toNat)=true)):=aC fun c _=>aC fun i _=>xU _ _ _
  rw[this]
  omega
section
variable {y:List Nat} {ws:List (List Nat)} {L:Nat->Bool} {r:Nat->Nat} {M:Nat} {N:Nat->Nat->Nat->Nat}
noncomputable def Fz (ws:List (List Nat)) (N:Nat->Nat->Nat->Nat) (o p:Nat×Nat):Bool:=g7 (pO ws N o.1) (pI ws N o.1) (pO ws N p.1) (pI ws N p.1) o.2 p.2
end
def Lx (f g:Int->Nat):Prop:= ∃m:Nat,f m<g m/\ ∀l:Nat,l<m->f l=g l
theorem rZ {w:List Nat} (hw:w≠[]) {i k:Nat} (hi:i<=w.length) (hk:k<w.length):(cw w i)[k]? =some (rd w ((i:Int)+k)):=by
 rw[mK hi hk]
 unfold Fw
 have:=dS hw ((i:Int)+k)
 rw[<-this]
 congr 1
 have e:(((k+i)%w.length:Nat):Int)=((i:Int)+k)%w.length:=by rw[Wo,U8,Xv]
 omega
theorem Bq {w u:List Nat} (hw:w≠[]) (hl:u.length=w.length) {i j:Nat} (hi:i<=w.length) (hj:j<=w.length):cw w i<cw u j↔Lx (sq w i) (sq u j):=by
 have hu:u≠[]:=fun z=>hw (by rw[z]at hl;exact Vk.mp hl.symm)
 have g1: ∀{k:Nat} (hk:k<(cw w i).length),(cw w i)[k]=sq w i k:=fun {k} hk=>by
  have:=rZ hw hi (k:=k) (by rw[cb]at hk;exact hk)
  rw[GJ hk]at this
  exact UE this
 have g2: ∀{k:Nat} (hk:k<(cw u j).length),(cw u j)[k]=sq u j k:=fun {k} hk=>by
  have:=rZ hu (i:=j) (k:=k) (by omega) (by rw[cb]at hk;exact hk)
  rw[GJ hk]at this
  exact UE this
 rw[List.lt_iff_exists]
 constructor
 ·rintro (⟨_,h⟩ | ⟨m,h1,h2,h3,h4⟩)
  ·rw[cb,cb,hl]at h;omega
  ·refine ⟨m,by rw[<-g1 h1, <-g2 h2];exact h4,fun l w6=>?_⟩
   rw[<-g1 (by omega), <-g2 (by omega)]
   exact h3 l w6
 ·rintro ⟨m,h1,h2⟩
  have hp:=IC.mpr hw
  have hm:m<w.length:=by
   refine Classical.byContradiction fun z=>?_
   have d:=W0 m w.length
   have c1:=gH (f:=sq w i) (p:=w.length) (fun k=>cH w i k) (m%w.length:Nat) (m / w.length)
   have c2:=gH (f:=sq u j) (p:=w.length) (fun k=>by rw[<-hl];exact cH u j k) (m%w.length:Nat) (m / w.length)
   have e:((m%w.length:Nat):Int)+((m / w.length:Nat):Int)*(w.length:Nat)=m:=by
    rw[Xt];exact_mod_cast d
   rw[e]at c1 c2
   rw[c1,c2,h2 (m%w.length) (by have:=Wa m hp;omega)]at h1
   omega
  refine .inr ⟨m,by rw[cb];exact hm,by rw[cb,hl];exact hm,fun l w6=>?_,?_⟩
  ·rw[g1,g2];exact h2 l w6
  ·rw[g1,g2];exact h1
theorem j9 {w:List Nat} (hw:w≠[]): ∃i:Nat,i<w.length/\eW w=cw w i:=by
 have hp:=IC.mpr hw
 rcases jt (jW w (w.length - 1)) w with h | h
 ·exact ⟨0,hp,by unfold eW;rw[h,uc]⟩
 ·unfold jW at h
  obtain ⟨k,hk,e⟩:=UQ.mp h
  have:=Vp.mp hk
  exact ⟨k+1,by omega,by unfold eW;exact e.symm⟩
theorem lQ {w:List Nat} {i:Nat} (hi:i<w.length): ¬cw w i<eW w:=by
 unfold eW
 refine ju _ _ _ ?_
 cases i with
 | zero=>rw[uc];exact UA
 | succ i=>exact T5 _ (UQ.mpr ⟨i,Vp.mpr (by omega),rfl⟩)
noncomputable def leads (w:List Nat):Bool:=decide (eW w<eW (cT w))
theorem fN {v:List Nat} (h:v≠[]) (k:Int):sq (cT v) k=bq v (-1 - k):=by
 funext x
 unfold sq bq
 rw[gI h]
 congr 2;omega
theorem kP {v:List Nat} (h:v≠[]):cT v≠[]:=fun z=>h (Vk.mp (by rw[<-bN v,z];rfl))
theorem qq {w:List Nat} (hw:w≠[]):leads w=true↔ ∃i:Int, ∀j:Int,Lx (sq w i) (bq w j):=by
 have hp:=IC.mpr hw
 have hl:=bN w
 have ht:=kP hw
 unfold leads
 rw[decide_eq_true_iff]
 constructor
 ·intro h
  obtain ⟨i,hi,ei⟩:=j9 hw
  refine ⟨i,fun j=>?_⟩
  have hj:=br (n:=(cT w).length) (by rw[hl];exact hp) (-1 - j)
  have h2:eW w<cw (cT w) (iB (cT w).length (-1 - j)):=List.not_le.mp fun z=>by
   have:=List.lt_of_le_of_lt z h
   exact lQ hj this
  rw[ei]at h2
  have h3:=(Bq hw hl (by omega) (by omega)).mp h2
  rw[cg ht,fN hw,show -1 - (-1 - j)=j by omega]at h3
  exact h3
 ·rintro ⟨i,h⟩
  obtain ⟨j,hj,ej⟩:=j9 ht
  have h2:=h (-1 - j)
  rw[show (-1:Int) - (j:Int)= -1 - j by omega, <-fN hw, <-cg hw]at h2
  have hi:=br hp i
  have h3:=(Bq hw hl (by omega) (by omega)).mpr h2
  rw[<-ej]at h3
  exact List.lt_of_le_of_lt (List.not_lt.mp (lQ hi)) h3
theorem qr {w v:List Nat} (hw:w≠[]) (hv:v≠[]) {i j:Int} (h:bE w v i j):leads w=leads v:=by
 have e1: ∀k,sq w k=sq v (k - i+j):=fun k=>by
  funext x
  have:=h (k - i+x)
  unfold sq at this ⊢
  rw[show k+x=i+(k - i+x) by omega,this]
  congr 1;omega
 have e2: ∀k,bq w k=bq v (k - i+j):=fun k=>by rw[<-dB, <-dB,e1]
 rw[Ww,qq hw,qq hv]
 constructor
 ·rintro ⟨a,h⟩
  refine ⟨a - i+j,fun b=>?_⟩
  have:=h (b - j+i)
  rwa [e1,e2,show b - j+i - i+j=b by omega]at this
 ·rintro ⟨a,h⟩
  refine ⟨a - j+i,fun b=>?_⟩
  rw[e1,e2,show a - j+i - i+j=a by omega]
  exact h _
theorem qt {y w:List Nat} (hy:Yd y) (hw:SW y w):leads (cT w)=!leads w:=by
 have hl:AllLt w:=fun c hc=>hy.lt c (hw.bL c hc)
 have ne:eW w≠eW (cT w):=fun z=>by
  obtain ⟨i,hi,ei⟩:=j9 hw.ne
  obtain ⟨j,hj,ej⟩:=j9 (kP hw.ne)
  rw[bN]at hj
  have: ∀k:Nat,k<w.length->sq w i k=sq (cT w) j k:=fun k hk=>by
   have h1:=rZ hw.ne (i:=i) (k:=k) (by omega) hk
   have h2:=rZ (kP hw.ne) (i:=j) (k:=k) (by rw[bN];omega) (by rw[bN];exact hk)
   rw[<-ei,z,ej,h2]at h1
   exact (UE h1).symm
  refine rN hy hw i (-1 - j) ?_
  rw[<-fN hw.ne]
  have hp:=IC.mpr hw.ne
  refine fw (p:=w.length) (q:=w.length) hp hp (fun k=>cH w i k) (fun k=>by rw[<-bN w];exact cH (cT w) j k) fun n hn=>?_
  by_cases q:n<w.length
  ·exact this n q
  ·have c1:=cH w i ((n - w.length:Nat):Int)
   have c2:=cH (cT w) j ((n - w.length:Nat):Int)
   rw[show ((n - w.length:Nat):Int)+w.length=n by omega]at c1
   rw[bN,show ((n - w.length:Nat):Int)+w.length=n by omega]at c2
   rw[c1,c2]
   exact this _ (by omega)
 unfold leads
 rw[DV hl, <-decide_not]
 refine decide_eq_decide.mpr ⟨fun h z=>?_,fun h=>?_⟩
 ·exact Wf _ (List.lt_trans h z)
 ·exact List.not_le.mp fun z=>ne (List.le_antisymm z (List.not_lt.mp h))
theorem zw {y w v:List Nat} (hy:Yd y) (hw:SW y w) (hv:SW y v) {i j:Int} (h: ∀k,sq w i k=bq v j k):leads v=!leads w:=by
 have:bE w (cT v) i (-1 - j):=fun k=>by rw[fN hv.ne,show -1 - (-1 - j)=j by omega];exact h k
 rw[qr hw.ne (kP hv.ne) this,qt hy hv,Bool.not_not]
theorem Br {w:List Nat} (hw:w≠[]) {d:Nat}:uW w d↔ ∀k:Int,rd w (k+d)=rd w k:=by
 have hp:=IC.mpr hw
 have fr: ∀i:Nat,Fw w i=some (rd w i):=fun i=>by
  unfold Fw
  rw[<-dS hw (i:Int)]
  congr 1
 constructor
 ·intro h k
  have:=h (iB w.length k)
  rw[fr,fr]at this
  have:=UE this
  rw[bM hw]at this
  rw[<-this, <-gG w (k+d), <-gG w (((iB w.length k+d:Nat)):Int),U8,dD hp,Xu]
 ·intro h i
  rw[fr,fr,U8,h]
theorem eO {w:List Nat} (hw:w≠[]) {s:Nat} (h:bf w s):0<s/\ ∀i j:Int,bE w w i j↔(i - j)%(s:Int)=0:=by
 rcases h with ⟨z,_⟩ | h'
 ·exact absurd z hw
 have h:bf w s:= .inr h'
 obtain ⟨h1,h2,h3,_⟩:=h'
 have ps: ∀k:Int,rd w (k+s)=rd w k:=(Br hw).mp ((fM hw h2).mp (rF h1 h2 h3))
 have pm: ∀(k t:Int),rd w (k+t*s)=rd w k:=fun k t=>by
  rcases Int.le_total 0 t with q | q
  ·obtain ⟨n,rfl⟩: ∃n:Nat,t=n:=⟨t.toNat,by omega⟩
   exact gH ps k n
  ·obtain ⟨n,rfl⟩: ∃n:Nat,t= -(n:Int):=⟨(-t).toNat,by omega⟩
   have:=gH ps (k+ -(n:Int)*s) n
   rw[<-this]
   congr 1
   rw[Int.neg_mul];omega
 refine ⟨h1,fun i j=>⟨fun p=>?_,fun p k=>?_⟩⟩
 ·have pd: ∀k:Int,rd w (k+(i - j))=rd w k:=fun k=>by
   have:=p (k - j)
   unfold sq at this
   rw[show i+(k - j)=k+(i - j) by omega,show j+(k - j)=k by omega]at this
   exact this
  have e:=W6 (i - j) s
  have hn:=Vs (i - j) (b:=(s:Int)) (by omega)
  have dk:=Vm (i - j) (b:=(s:Int)) (by omega)
  refine Classical.byContradiction fun z=>?_
  obtain ⟨d,hd⟩: ∃d:Nat,(i - j)%(s:Int)=d:=⟨((i - j)%(s:Int)).toNat,by omega⟩
  refine bf.least h (j:=d) (by omega) (by omega) ((Br hw).mpr fun k=>?_)
  have q:=pd k
  rw[<-e,hd,Xt, <-WK,pm]at q
  exact q
 ·unfold sq
  have e:=W6 (i - j) s
  rw[p,Vy,Xt]at e
  rw[show i+k=j+k+(i - j) by omega, <-e,pm]
theorem Bs {y:List Nat} {ws:List (List Nat)} {r:Nat->Nat} {M:Nat} (hy:Yd y) (hw: ∀c,c<ws.length->SW y (ws.getD c [])) (hr: ∀c,c<ws.length->bf (ws.getD c []) (r c)) (hM: ∀c d,c<ws.length->d<ws.length->(ws.getD c []).length+(ws.getD d []).length<=M):dI y ws (fun c=>leads (ws.getD c [])) r M:=
 ⟨hy,hw,hM,fun c d i j hc hd h=>qr (hw c hc).ne (hw d hd).ne h,fun c d i j hc hd h=>zw hy (hw c hc) (hw d hd) h,fun c hc=>(eO (hw c hc).ne (hr c hc)).1,fun c hc=>(eO (hw c hc).ne (hr c hc)).2⟩
noncomputable def bs (y w v:List Nat) (i j:Int):Int:=one (ac y (aD (rd w (i - 1))) (rd w i) (aD (rd v (j - 1))) (rd v j)=true)+one (gJ y (sq w i) (sq v j))+one (gJ y (sq w i) (bq v j))
noncomputable def SS (y w v:List Nat):Int:=bO w.length v.length (bs y w v)
theorem Bt {y w v:List Nat} (hy:Yd y) (hw:SW y w) (hv:SW y v):bO w.length v.length (fc y w v)=SS y w v:=aZ fun i j _ _=>by
 unfold fc bs
 rw[ba (xH (n:=w.length+v.length) hy (bg hw i) (bg hv j) fun z=>iU hw.ne hv.ne (fun k=>cH w i k) (fun k=>cH v j k) z),ba (xH (n:=w.length+v.length) hy (bg hw i) (fU hy hv j) fun z=>iU hw.ne hv.ne (fun k=>cH w i k) (fun k=>nM v j k) z)]
theorem FA (w:List Nat) (i:Int):rd w (i+w.length - 1)=rd w (i - 1):=by rw[show i+(w.length:Int) - 1=i - 1+w.length by omega,dU]
theorem FC (y w v:List Nat) (i j:Int):bs y w v (i+w.length) j=bs y w v i j:=by unfold bs;rw[jw,dU,FA]
def IK (y:List Nat) (f g:Int->Nat):Prop:= ∃b,Run f g 0 b/\gk y f g 0≠gx y f g b
theorem Bu {y:List Nat} {n m:Nat} {F G:Int->Int->Nat} (bF: ∀k,cR (F k)=F (k - 1)) (bG: ∀k,cR (G k)=G (k - 1)) (pF: ∀k,F (k+n)=F k) (pG: ∀k,G (k+m)=G k):bO n m (fun s t=>one (gJ y (F s) (G t)))=bO n m fun s t=>one (IK y (F s) (G t)):=by
 have key: ∀s t:Int,one (gJ y (F s) (G t))+one (∃a b,Run (F (s - 1)) (G (t - 1)) (a+1) b/\gk y (F (s - 1)) (G (t - 1)) (a+1)≠gx y (F (s - 1)) (G (t - 1)) b)=one (IK y (F s) (G t))+one (∃a b,Run (F s) (G t) (a+1) b/\gk y (F s) (G t) (a+1)≠gx y (F s) (G t) b):=fun s t=>by
  rw[<-bF, <-bG]
  generalize F s=f
  generalize G t=g
  by_cases X: ∃a b,Run f g a b/\gk y f g a≠gx y f g b
  ·obtain ⟨a,b,r,x⟩:=X
   have u: ∀{a' b'},Run f g a' b'->a'=a/\b'=b:=fun r'=>r'.one r
   have e1:one (gJ y f g)+one (∃a b,Run (cR f) (cR g) (a+1) b/\gk y (cR f) (cR g) (a+1)≠gx y (cR f) (cR g) b)=1:=by
    cases b with
    | zero=>
     rw[eX ⟨a,r,x⟩,aV (fun ⟨a',b',r',_⟩=>absurd (u r'.fd).2 (Wn _))]
     rfl
    | succ b=>
     rw[aV (fun ⟨a',r',_⟩=>absurd (u r').2.symm (Wn _)),eX ⟨a,b,r.bk,by rw[j5,j6];exact x⟩]
     rfl
   have e2:one (IK y f g)+one (∃a b,Run f g (a+1) b/\gk y f g (a+1)≠gx y f g b)=1:=by
    cases a with
    | zero=>
     rw[eX ⟨b,r,x⟩,aV (fun ⟨a',b',r',_⟩=>absurd (u r').1 (Wn _))]
     rfl
    | succ a=>
     rw[aV (fun ⟨b',r',_⟩=>absurd (u r').1.symm (Wn _)),eX ⟨a,b,r,x⟩]
     rfl
   rw[e1,e2]
  ·rw[aV (fun ⟨a,r,x⟩=>X ⟨a,0,r,x⟩),aV (fun ⟨a,b,r,x⟩=>X ⟨a,b+1,r.fd,by rw[j5,j6]at x;exact x⟩),aV (fun ⟨b,r,x⟩=>X ⟨0,b,r,x⟩),aV (fun ⟨a,b,r,x⟩=>X ⟨a+1,b,r,x⟩)]
 have sh:=qm (n:=n) (m:=m) (h:=fun s t=>one (∃a b,Run (F s) (G t) (a+1) b/\gk y (F s) (G t) (a+1)≠gx y (F s) (G t) b)) (fun i j=>by rw[pF]) (fun i j=>by rw[pG])
 refine (Int.add_left_inj (bO n m (fun s t=>one (∃a b,Run (F s) (G t) (a+1) b/\gk y (F s) (G t) (a+1)≠gx y (F s) (G t) b)))).mp ?_
 rw[<-b4 n m (fun s t=>one (IK y (F s) (G t))), <-sh, <-b4]
 exact aZ fun i j _ _=>key i j
theorem FD {y:List Nat} {f g:Int->Nat} (hy:Yd y) (hf:gS y f) (hg:gS y g):IK y f g↔gJ y (i9 g) (i9 f):=by
 have a1: ∀b:Nat,gk y (i9 g) (i9 f) b=gx y f g b:=fun b=>by
  unfold gk gx
  rw[iu hy hf,iu hy hg]
  exact decide_eq_decide.mpr ⟨fun q=>by omega,fun q=>by omega⟩
 have a2:gx y (i9 g) (i9 f) 0=gk y f g 0:=by
  unfold gk gx
  have e1:=iu hy hf (-1)
  have e2:=iu hy hg (-1)
  rw[show (-1:Int)+1= -((0:Nat):Int) from rfl]at e1 e2
  rw[e1,e2]
  exact decide_eq_decide.mpr ⟨fun q=>by have:(y.length:Int) - dW y g 1<y.length - dW y f 1:=q;show dW y f 1<dW y g 1;omega,fun q=>by have:dW y f 1<dW y g 1:=q;show (y.length:Int) - dW y g 1<y.length - dW y f 1;omega⟩
 constructor
 ·rintro ⟨b,r,x⟩
  exact ⟨b,(r.rv hy hf hg).sy,by rw[a1,a2];exact Ne.symm x⟩
 ·rintro ⟨b,r,x⟩
  have r2:=r.rv hy (hg.rv hy) (hf.rv hy)
  rw[lO hy hf,lO hy hg]at r2
  rw[a1,a2]at x
  exact ⟨b,r2.sy,Ne.symm x⟩
theorem r6 {y:List Nat} {f g:Int->Nat} (hy:Yd y) (hf:gS y f) (hg:gS y g):gJ y f g↔gJ y g f:=⟨Fy hy hf hg,Fy hy hg hf⟩
theorem Bv (w:List Nat) (k:Int):cR (sq w k)=sq w (k - 1):=by
 funext x
 unfold cR sq
 congr 1
 omega
theorem LK {y w:List Nat} (hy:Yd y) (h:SW y w) (i:Int):i9 (bq w i)=sq w i:=by rw[<-dB,lO hy (bg h i)]
theorem Ed {y w v:List Nat} (hy:Yd y) (hw:SW y w) (hv:SW y v):bO w.length v.length (fun i j=>one (gJ y (bq w i) (bq v j)))=bO w.length v.length fun i j=>one (gJ y (sq w i) (sq v j)):=by
 rw[Bu (F:=sq w) (G:=sq v) (Bv w) (Bv v) (jw w) (jw v)]
 exact aZ fun i j _ _=>ba (by rw[FD hy (bg hw i) (bg hv j),dB,dB];exact r6 hy (fU hy hw i) (fU hy hv j))
theorem Bw {y w v:List Nat} (hy:Yd y) (hw:SW y w) (hv:SW y v):bO w.length v.length (fun i j=>one (gJ y (bq w i) (sq v j)))=bO w.length v.length fun i j=>one (gJ y (sq w i) (bq v j)):=by
 have fb: ∀k,cR (bq v (-k))=bq v (-(k - 1)):=fun k=>by
  funext x
  unfold cR bq
  congr 2
  omega
 have fp: ∀k:Int,bq v (-(k+v.length))=bq v (-k):=fun k=>by rw[show -(k+(v.length:Int))= -k - v.length by omega,Hm]
 have e:=Bu (y:=y) (n:=w.length) (m:=v.length) (F:=sq w) (G:=fun k=>bq v (-k)) (Bv w) fb (jw w) fp
 have n1: ∀H:Int->Int->Int,(∀i j,H i (j+v.length)=H i j)->bO w.length v.length (fun i j=>H i (-j))=bO w.length v.length H:=fun H P=>aC fun i _=>nQ (h:=H i) fun k=>P i k
 rw[n1 (fun i j=>one (gJ y (sq w i) (bq v j))) (fun i j=>by rw[iy]),n1 (fun i j=>one (IK y (sq w i) (bq v j))) (fun i j=>by rw[iy])]at e
 rw[e]
 exact aZ fun i j _ _=>ba (by rw[FD hy (bg hw i) (fU hy hv j),dB,LK hy hv];exact r6 hy (fU hy hw i) (bg hv j))
theorem Ee {y w:List Nat} (hy:Yd y) (h:SW y w) (i:Int):aD (rd w (i - 1))∈y/\rd w i∈y/\aD (rd w (i - 1))≠rd w i:=⟨hy.cl _ (h.rd _),h.rd _,Ne.symm (h.red i)⟩
theorem kQ {y w v:List Nat} (hy:Yd y) (hw:SW y w) (hv:SW y v):SS y w v=SS y v w:=by
 have sw: ∀H:Int->Int->Int,bO v.length w.length (fun j i=>H i j)=bO w.length v.length H:=fun H=>xS _ _ _
 have e: ∀u z:List Nat,SS y u z=bO u.length z.length (fun i j=>one (ac y (aD (rd u (i - 1))) (rd u i) (aD (rd z (j - 1))) (rd z j)=true))+bO u.length z.length (fun i j=>one (gJ y (sq u i) (sq z j)))+bO u.length z.length (fun i j=>one (gJ y (sq u i) (bq z j))):=fun u z=>by
  unfold SS bs
  rw[b4,b4]
 rw[e w v,e v w, <-Bw hy hw hv, <-sw, <-sw, <-sw]
 congr 1
 ·congr 1
  ·exact aZ fun j i _ _=>by
    obtain ⟨a1,a2,a3⟩:=Ee hy hw i
    obtain ⟨b1,b2,b3⟩:=Ee hy hv j
    rw[wb hy a1 a2 b1 b2 a3 b3]
  ·exact aZ fun j i _ _=>ba (r6 hy (bg hw i) (bg hv j))
 ·exact aZ fun j i _ _=>ba (r6 hy (fU hy hw i) (bg hv j))
theorem FE {h:Int->Int} {n:Nat} (P: ∀k,h (k+n)=h k): ∀k:Nat,sm n (fun i=>h (i+k))=sm n h
 | 0=>aC fun i _=>by rw[show (i:Int)+((0:Nat):Int)=i by omega]
 | k+1=>by
  rw[<-FE P k, <-mO (h:=fun i=>h (i+k)) (n:=n) (fun j=>by rw[show j+(n:Int)+k=j+k+n by omega,P])]
  exact aC fun i _=>by rw[show (i:Int)+((k+1:Nat):Int)=i+1+k by omega]
theorem Bx {y w v:List Nat} (hw:w≠[]) {k:Nat} (hk:k<=w.length):SS y (cw w k) v=SS y w v:=by
 have r: ∀i,rd (cw w k) i=rd w (i+k):=rH hw hk
 have ls:(cw w k).length=w.length:=by unfold cw;rw[Rk,US,UB];omega
 have q: ∀i,sq (cw w k) i=sq w (i+k):=fun i=>by
  funext x
  unfold sq
  rw[r,show i+x+(k:Int)=i+k+x by omega]
 unfold SS
 rw[ls]
 show sm _ (fun i=>sm _ fun j=>bs y (cw w k) v i j)=sm _ fun i=>sm _ fun j=>bs y w v i j
 rw[<-FE (h:=fun i=>sm v.length fun j=>bs y w v i j) (n:=w.length) (fun i=>aC fun j _=>FC y w v i j) k]
 exact aC fun i _=>aC fun j _=>by
  unfold bs
  rw[q,r,r,show (i:Int) - 1+k=i+k - 1 by omega]
theorem Ef (y:List Nat) (a b p q:Nat):ac y a b q p=ac y a b p q:=by
 unfold ac
 have e:(q=a\/q=b\/p=a\/p=b)↔(p=a\/p=b\/q=a\/q=b):=⟨fun h=>by rcases h with h | h | h | h<;>simp[h],fun h=>by rcases h with h | h | h | h<;>simp[h]⟩
 by_cases z:p=a\/p=b\/q=a\/q=b
 ·rw[if_pos z,if_pos (e.mpr z)]
 ·rw[if_neg z,if_neg fun g=>z (e.mp g)]
  cases gr y a p b<;>cases gr y a q b<;>rfl
theorem By {y w v:List Nat} (hy:Yd y) (hw:SW y w) (hv:SW y v):SS y (cT w) v=SS y w v:=by
 have e: ∀u z:List Nat,SS y u z=bO u.length z.length (fun i j=>one (ac y (aD (rd u (i - 1))) (rd u i) (aD (rd z (j - 1))) (rd z j)=true))+bO u.length z.length (fun i j=>one (gJ y (sq u i) (sq z j)))+bO u.length z.length (fun i j=>one (gJ y (sq u i) (bq z j))):=fun u z=>by
  unfold SS bs
  rw[b4,b4]
 have n1: ∀H:Int->Int->Int,(∀i j,H (i+w.length) j=H i j)->bO w.length v.length (fun i j=>H (-1 - i) j)=bO w.length v.length H:=fun H P=>by
  show sm _ (fun i=>sm _ fun j=>H (-1 - i) j)=sm _ fun i=>sm _ fun j=>H i j
  rw[<-nQ (h:=fun i=>sm v.length fun j=>H i j) (n:=w.length) (fun i=>aC fun j _=>P i j), <-mO (h:=fun i=>sm v.length fun j=>H (-i) j) (n:=w.length) (fun i=>aC fun j _=>by rw[<-P (-(i+w.length)),show -(i+(w.length:Int))+w.length= -i by omega])]
  exact aC fun i _=>aC fun j _=>by rw[show -1 - (i:Int)= -((i:Int)+1) by omega]
 rw[e (cT w) v,e w v,bN, <-Ed hy hw hv, <-Bw hy hw hv, <-n1 (fun i j=>one (gJ y (bq w i) (bq v j))) (fun i j=>by rw[iy]), <-n1 (fun i j=>one (gJ y (bq w i) (sq v j))) (fun i j=>by rw[iy])]
 rw[show bO w.length v.length (fun i j=>one (gJ y (sq (cT w) i) (sq v j)))=bO w.length v.length (fun i j=>one (gJ y (bq w (-1 - i)) (sq v j))) from aZ fun i j _ _=>by rw[fN hw.ne],show bO w.length v.length (fun i j=>one (gJ y (sq (cT w) i) (bq v j)))=bO w.length v.length (fun i j=>one (gJ y (bq w (-1 - i)) (bq v j))) from aZ fun i j _ _=>by rw[fN hw.ne]]
 have ea:bO w.length v.length (fun i j=>one (ac y (aD (rd (cT w) (i - 1))) (rd (cT w) i) (aD (rd v (j - 1))) (rd v j)=true))=bO w.length v.length (fun i j=>one (ac y (aD (rd w (i - 1))) (rd w i) (aD (rd v (j - 1))) (rd v j)=true)):=by
  show sm _ (fun i=>sm _ fun j=>one (ac y (aD (rd (cT w) (i - 1))) (rd (cT w) i) (aD (rd v (j - 1))) (rd v j)=true))=sm _ fun i=>sm _ fun j=>one (ac y (aD (rd w (i - 1))) (rd w i) (aD (rd v (j - 1))) (rd v j)=true)
  rw[<-nQ (h:=fun i=>sm v.length fun j=>one (ac y (aD (rd w (i - 1))) (rd w i) (aD (rd v (j - 1))) (rd v j)=true)) (n:=w.length) (fun i=>aC fun j _=>by rw[FA,dU])]
  refine aC fun i _=>aC fun j _=>?_
  rw[gI hw.ne,gI hw.ne,aN (hy.lt _ (hw.rd _)),show -1 - ((i:Int) - 1)= -(i:Int) by omega,show -1 - (i:Int)= -(i:Int) - 1 by omega]
  obtain ⟨a1,a2,a3⟩:=Ee hy hw (-(i:Int))
  obtain ⟨b1,b2,b3⟩:=Ee hy hv j
  rw[wb hy a2 a1 b1 b2 (Ne.symm a3) b3,Ef, <-wb hy a1 a2 b1 b2 a3 b3]
 rw[ea,WK,WK]
 congr 1
 exact Xv _ _
theorem xV {h:Int->Int} {n:Nat} (P: ∀k,h (k+n)=h k): ∀p:Nat,sm (p*n) h=p*sm n h
 | 0=>by rw[Xk];show (0:Int)=((0:Nat):Int)*sm n h;rw[Int.natCast_zero,Int.zero_mul]
 | p+1=>by
  have Q: ∀(q:Nat) (k:Int),h (((q*n:Nat):Int)+k)=h k:=fun q=>by
   induction q with
   | zero=>intro k;rw[Xk,Int.natCast_zero,Vy]
   | succ q ih=>intro k;rw[V4,U8,show ((q*n:Nat):Int)+n+k=((q*n:Nat):Int)+(k+n) by omega,ih,P]
  rw[V4,nR,xV P p,aC (h:=fun i=>h (((p*n:Nat):Int)+i)) (g:=h) fun i _=>Q p i,U8,Int.add_mul,Int.natCast_one,Int.one_mul]
theorem Eg {y w v:List Nat} (hw:w≠[]) {p:Nat} (hp:0<p):SS y (bP p w) v=p*SS y w v:=by
 have r: ∀i,rd (bP p w) i=rd w i:=j4 hw hp
 have ls:(bP p w).length=p*w.length:=by unfold bP;simp
 have q: ∀i,sq (bP p w) i=sq w i:=fun i=>by
  funext x
  unfold sq
  rw[r]
 unfold SS
 rw[ls]
 show sm _ (fun i=>sm _ fun j=>bs y (bP p w) v i j)=_*sm _ fun i=>sm _ fun j=>bs y w v i j
 rw[<-xV (h:=fun i=>sm v.length fun j=>bs y w v i j) (n:=w.length) (fun i=>aC fun j _=>FC y w v i j) p]
 exact aC fun i _=>aC fun j _=>by
  unfold bs
  rw[q,r,r]
section
variable {y z w v:List Nat} {σ:Nat->Nat} {neg:Bool}
end
theorem qu {w v:List Nat} {s t:Nat} (hw:w≠[]) (hv:v≠[]) (h:bf w s) (g:bf v t) (e: ∀d:Int,bE w w d 0↔bE v v d 0):s=t:=by
 obtain ⟨p1,a⟩:=eO hw h
 obtain ⟨p2,b⟩:=eO hv g
 have key: ∀d:Nat,d%s=0↔d%t=0:=fun d=>by
  have k:=e d
  rw[a,b,Wi]at k
  have c1:((d%s:Nat):Int)=(d:Int)%(s:Int):=rfl
  have c2:((d%t:Nat):Int)=(d:Int)%(t:Int):=rfl
  rw[<-c1, <-c2]at k
  exact ⟨fun q=>Xf (k.mp (by rw[q];rfl)),fun q=>Xf (k.mpr (by rw[q];rfl))⟩
 exact W2 (Xc p2 (VE ((key t).mpr (Nat.mod_self t)))) (Xc p1 (VE ((key s).mp (Nat.mod_self s))))
theorem gm (w:List Nat) (d:Int):bE w w d 0↔ ∀k,rd w (d+k)=rd w k:=by
 unfold bE sq
 exact ⟨fun h k=>by have:=h k;rwa [Vy]at this,fun h k=>by rw[Vy];exact h k⟩
theorem Eh {w:List Nat} (hw:w≠[]) {n:Nat} (hn:n<=w.length) (d:Int):bE (cw w n) (cw w n) d 0↔bE w w d 0:=by
 rw[gm,gm]
 have r: ∀i,rd (cw w n) i=rd w (i+n):=rH hw hn
 constructor
 ·intro h k
  have:=h (k - n)
  rw[r,r,show d+(k - (n:Int))+n=d+k by omega,show k - (n:Int)+n=k by omega]at this
  exact this
 ·intro h k
  rw[r,r,show d+k+(n:Int)=d+(k+n) by omega]
  exact h _
theorem uo {w:List Nat} (hw:w≠[]) {p:Nat} (hp:0<p) (d:Int):bE (bP p w) (bP p w) d 0↔bE w w d 0:=by
 rw[gm,gm]
 simp only[j4 hw hp]
theorem Ei {y w:List Nat} (hy:Yd y) (hw:SW y w) (d:Int):bE (cT w) (cT w) d 0↔bE w w d 0:=by
 rw[gm,gm]
 simp only[gI hw.ne]
 constructor
 ·intro h k
  have:=h (-1 - d - k)
  rw[show -1 - (d+(-1 - d - k))=k by omega,show -1 - (-1 - d - k)=d+k by omega]at this
  exact (ff (hy.lt _ (hw.rd _)) (hy.lt _ (hw.rd _)) this).symm
 ·intro h k
  have:=h (-1 - (d+k))
  rw[<-this,show d+(-1 - (d+k))= -1 - k by omega]
noncomputable def fi (y:List Nat):List Nat:=(y.filter az).mergeSort fun a b=>decide (a<=b)
theorem iX (y:List Nat):(fi y).Perm (y.filter az):=List.mergeSort_perm _ _
theorem uq (y:List Nat):(fi y).Pairwise (· <= ·):=
 (List.pairwise_mergeSort (le:=fun a b=>decide (a<=b)) (fun a b c h1 h2=>decide_eq_true (UW (of_decide_eq_true h1) (of_decide_eq_true h2))) (fun a b=>by
  rcases Nat.le_total a b with z | z
  ·rw[decide_eq_true z];rfl
  ·rw[decide_eq_true z,Bool.or_true]) (y.filter az)).imp fun z=>of_decide_eq_true z
theorem xW {y l:List Nat} (h:l.Perm (y.filter az)) (p:l.Pairwise (· <= ·)):l=fi y:=zp (h.trans (iX y).symm) p (uq y)
theorem Bz {y:List Nat} (h:Yd y) {e:Nat} (he:e∈y):PyProof.Rows.lo1 e∈fi y:=by
 refine (iX y).mem_iff.mpr (U7.mpr ?_)
 rcases h.lt e he with z | z
 ·rw[(aY e z).2.1];exact ⟨he,(aY e z).1⟩
 ·rw[(bI e z).2.1];exact ⟨h.cl e he,(aY _ (bI e z).2.2.2).1⟩
theorem iC {y:List Nat} (h:Yd y):2*(fi y).length=y.length:=by rw[(iX y).length_eq];exact A7 h
structure Pr where
 t:Addr
 c:Nat
 i:Nat
noncomputable def qv (ps:List Pr):List V:=ps.map fun p=>V.ref p.t
theorem r9 (ps:List Pr):(qv ps).length=ps.length:=by unfold qv;rw[Py]
theorem BA (a:List Pr) (p:Pr):qv a++[V.ref p.t]=qv (a++[p]):=by unfold qv;rw[Rn];rfl
theorem Ej (a:List Pr):(qv a).reverse=qv a.reverse:=by unfold qv;rw[V7]
theorem BB {ps:List Pr} {i:Nat} {x:V} (h:(qv ps)[i]? =some x): ∃p,ps[i]? =some p/\x=V.ref p.t:=by
 unfold qv at h
 rw[UI]at h
 cases e:ps[i]? with
 | none=>rw[e]at h;cases h
 | some p=>rw[e]at h;cases h;exact ⟨p,rfl,rfl⟩
structure mh (H:Hp) (p:Pr):Prop where
 tp:H p.t=some (.tup [.int p.c, .int p.i])
 cz:p.c<1000
 iz:p.i<1000
theorem mh.same {H H':Hp} {p:Pr} (h:mh H p) (s:ay H H'):mh H' p:=⟨s _ _ h.tp,h.cz,h.iz⟩
structure Od where
 o:Addr
 ps:List Pr
structure zx (H:Hp) (o:Od):Prop where
 tp:H o.o=some (.tup (qv o.ps))
 pr: ∀p∈o.ps,mh H p
 fw:o.ps.length<=100
theorem zx.same {H H':Hp} {o:Od} (h:zx H o) (s:ay H H'):zx H' o:=⟨s _ _ h.tp,fun p hp=>(h.pr p hp).same s,h.fw⟩
noncomputable def Ek (os:List Od):List V:=os.map fun o=>V.ref o.o
theorem BC (a:List Od) (p:Od):Ek a++[V.ref p.o]=Ek (a++[p]):=by unfold Ek;rw[Rn];rfl
theorem Hr {os:List Od} {i:Nat} {o:Od} (h:os[i]? =some o):(Ek os)[i]? =some (V.ref o.o):=by unfold Ek;rw[UI,h];rfl
structure wc (H:Hp) (dr:Addr) (ws:List (List Nat)) (os:List Od):Prop where
 ex: ∃wt ot,H dr=some (.tup [.ref wt, .ref ot])/\H wt=some (.tup (iR ws))/\H ot=some (.tup (Ek os))
 od: ∀o∈os,zx H o
theorem wc.same {H H':Hp} {dr:Addr} {ws:List (List Nat)} {os:List Od} (h:wc H dr ws os) (s:ay H H'):wc H' dr ws os:=by
 obtain ⟨⟨wt,ot,h1,h2,h3⟩,g⟩:=h
 exact ⟨⟨wt,ot,s _ _ h1,s _ _ h2,s _ _ h3⟩,fun o ho=>(g o ho).same s⟩
noncomputable def wd (y:List Nat) (os:List Od) (e:Nat):List Pr:=((os[(fi y).idxOf (PyProof.Rows.lo1 e)]?).map Od.ps).getD []
noncomputable def mP (y:List Nat) (os:List Od) (e:Nat):List Pr:=if isUp e=true then (wd y os e).reverse else wd y os e
theorem iD {y:List Nat} {os:List Od} {e:Nat} (h:Yd y) (he:e∈y) (ho:2*os.length=y.length): ∃o∈os,os[(fi y).idxOf (PyProof.Rows.lo1 e)]? =some o/\wd y os e=o.ps:=by
 have hi:=Rm (Bz h he)
 have hl:=iC h
 have LL:(fi y).idxOf (PyProof.Rows.lo1 e)<os.length:=by omega
 exact ⟨os[(fi y).idxOf (PyProof.Rows.lo1 e)],Vb LL,GJ LL,by unfold wd;rw[GJ LL];rfl⟩
structure Pt where
 t:Addr
 c:Nat
 i:Nat
 e:Nat
noncomputable def C0 (ps:List Pt):List V:=ps.map fun p=>V.ref p.t
theorem xX (ps:List Pt):(C0 ps).length=ps.length:=by unfold C0;rw[Py]
theorem BD (a:List Pt) (p:Pt):C0 a++[V.ref p.t]=C0 (a++[p]):=by unfold C0;rw[Rn];rfl
noncomputable def Pt.is (p:Pt):Nat×Nat×Nat:=(p.c,p.i,p.e)
structure o6 (H:Hp) (p:Pt):Prop where
 tp:H p.t=some (.tup [.int p.c, .int p.i, .str (S [p.e])])
 cz:p.c<1000
 iz:p.i<1000
 ez:p.e<128
theorem o6.same {H H':Hp} {p:Pt} (h:o6 H p) (s:ay H H'):o6 H' p:=⟨s _ _ h.tp,h.cz,h.iz,h.ez⟩
theorem o6.upd {H:Hp} {p:Pt} {q:Addr} {o:HO} (h:o6 H p) (n:p.t≠q):o6 (L2.upd H q o) p:=⟨by rw[au n];exact h.tp,h.cz,h.iz,h.ez⟩
noncomputable def eY (y:List Nat) (os:List Od) (e:Nat):List (Nat×Nat×Nat):=(mP y os e).map fun p=>(p.c,p.i,e)
noncomputable def jF (y:List Nat) (os:List Od):List (Nat×Nat×Nat):=y.flatMap (eY y os)
noncomputable def Pr.pair (p:Pr):Nat×Nat:=(p.c,p.i)
noncomputable def we (band l:Nat):Bool:=decide (l=band)||decide (l=aD band)
noncomputable def gT (band c:Nat) (w:List Nat) (n:Nat):List (Nat×Nat):=((List.range n).filter fun i=>we band (w.getD i 0)).map fun i=>(c,i)
noncomputable def cI (band:Nat) (ws:List (List Nat)) (n:Nat):List (Nat×Nat):=(List.range n).flatMap fun c=>gT band c (ws.getD c []) (ws.getD c []).length
theorem wg {band c i l:Nat} {w:List Nat} (h:w[i]? =some l):gT band c w (i+1)=gT band c w i++if we band l=true then [(c,i)] else []:=by
 have e:w.getD i 0=l:=by rw[Ro,h];rfl
 unfold gT
 rw[Vq,VT,Rn]
 congr 1
 by_cases z:we band l=true
 ·rw[if_pos z,U3 (by rw[e];exact z)];rfl
 ·rw[if_neg z,UT (by rw[e];exact z)];rfl
theorem ur {band i:Nat} {ws:List (List Nat)} {w:List Nat} (h:ws[i]? =some w):cI band ws (i+1)=cI band ws i++gT band i w w.length:=by
 have e:ws.getD i []=w:=by rw[Ro,h];rfl
 unfold cI
 rw[Vq,Vc]
 congr 1
 rw[U2,Xw,Vh,e]
structure LM (y:List Nat) (ws:List (List Nat)):Prop where
 xt:ws.length<=4
 all: ∀w∈ws,(∀c∈w,c∈y)/\w.length<=12
def uu (y:List Nat) (ws:List (List Nat)) (os:List Od):Prop:=os.length=(fi y).length/\ ∀(j:Nat) (o:Od) (b:Nat),os[j]? =some o->(fi y)[j]? =some b->(o.ps.map Pr.pair).Perm (cI b ws ws.length)
def jd (_:PySem.W.Frag):Sp:=fun vs H Q _=> ∃(y:List Nat) (dr:Addr) (ws:List (List Nat)) (os:List Od) (e:Nat),vs=[.str (S y), .ref dr, .str (S [e])]/\Yd y/\y.length<=8/\e∈y/\2*os.length=y.length/\wc H dr ws os/\ ∀(q:Addr) (H':Hp),H q=none->H' q=some (.lst (qv (mP y os e)))->ay H H'->Q (.ref q) H'
theorem nS {K:PySem.W.Frag} {vs:List V} {H:Hp} {Q:VK} {E:XK} (h:jd K vs H Q E):vs.length=3:=by obtain ⟨c,_,_,_,_,rfl,_⟩:=h;rfl
def qw (_:PySem.W.Frag):Sp:=fun vs H Q _=> ∃(y:List Nat) (dr:Addr) (ws:List (List Nat)) (os:List Od),vs=[.str (S y), .ref dr]/\Yd y/\y.length<=8/\2*os.length=y.length/\wc H dr ws os/\ ∀(q:Addr) (ps:List Pt) (H':Hp),H q=none->H' q=some (.lst (C0 ps))->(∀p∈ps,o6 H' p/\p.t≠q)->ps.map Pt.is=jF y os->ps.length<=800->ay H H'->Q (.ref q) H'
theorem wj {K:PySem.W.Frag} {vs:List V} {H:Hp} {Q:VK} {E:XK} (h:qw K vs H Q E):vs.length=2:=by obtain ⟨c,_,_,_,rfl,_⟩:=h;rfl
theorem El {y:List Nat} {os:List Od} {e:Nat} {p:Pr} (h:Yd y) (he:e∈y) (ho:2*os.length=y.length) (hp:p∈mP y os e): ∃o∈os,p∈o.ps:=by
 obtain ⟨o,h1,h2,h3⟩:=iD h he ho
 refine ⟨o,h1,?_⟩
 unfold mP at hp
 rw[h3]at hp
 split at hp
 ·exact WM.mp hp
 ·exact hp
theorem Em {H:Hp} {y:List Nat} {os:List Od} {e:Nat} (h:Yd y) (he:e∈y) (ho:2*os.length=y.length) (hd: ∀o∈os,zx H o):(mP y os e).length<=100:=by
 obtain ⟨o,h1,h2,h3⟩:=iD h he ho
 have:=(hd o h1).fw
 unfold mP
 rw[h3]
 split
 ·rw[UY];exact this
 ·exact this
theorem mh.ts {H H':Hp} {p:Pr} (h:mh H p) (s:du H H'):mh H' p:=⟨s _ _ h.tp,h.cz,h.iz⟩
theorem BE {band l:Nat} (hb:band∈aX) (hl:Lt l):decide (PyProof.Rows.lo1 l=band)=we band l:=by
 unfold we
 rcases hl with h | h
 ·have e:=(aY l h).2.1
  have n:l≠aD band:=fun z=>qj _ (aY band hb).2.2 (z▸h)
  rw[e,decide_eq_false n,XE]
 ·have e:=(bI l h).2.1
  have n:l≠band:=fun z=>qj l h (z▸hb)
  rw[e,decide_eq_false n,Xi]
  refine decide_eq_decide.mpr ⟨fun z=>by rw[<-z,aN (.inr h)],fun z=>by rw[z,aN (.inl hb)]⟩
theorem RY {α:Type} {l:List α} (h:l.Nodup) {i j:Nat} (hi:i<l.length) (hj:j<l.length) (e:l[i]=l[j]):i=j:=by
 have hp:=V8.mp h
 rcases Nat.lt_trichotomy i j with z | z | z
 ·exact absurd e (hp i j hi hj z)
 ·exact z
 ·exact absurd e.symm (hp j i hj hi z)
theorem qx {l:List (Nat×Nat×Nat)} (h:l.Nodup) {n:Nat} {p:Nat×Nat×Nat} (e:l[n]? =some p):l.idxOf p=n:=by
 obtain ⟨hn,e2⟩:=GK.mp e
 have hm:p∈l:=UC e
 have hi:=Rm hm
 exact RY h hi hn ((Vt hi).trans e2.symm)
theorem nU {α:Type} {f:Nat->List α} (g:α->Nat): ∀{l:List Nat},l.Nodup->(∀e∈l,(f e).Nodup)->(∀e∈l, ∀p∈f e,g p=e)->(l.flatMap f).Nodup
 | [],_,_,_=>W7
 | a::l,hn,h1,h2=>by
  obtain ⟨n1,n2⟩:=U4.mp hn
  rw[U2,Vw]
  refine ⟨h1 a UA,nU g n2 (fun e he=>h1 e (T5 _ he)) (fun e he=>h2 e (T5 _ he)),fun x hx y hy z=>?_⟩
  subst z
  obtain ⟨e,he,RZ⟩:=U5.mp hy
  have g1:=h2 a UA x hx
  have g2:=h2 e (T5 _ he) x RZ
  exact n1 (by rw[<-g1,g2];exact he)
theorem BF (band c:Nat) (w:List Nat) (n:Nat):(gT band c w n).Nodup:=by
 unfold gT
 show (List.map _ _).Pairwise (· ≠ ·)
 rw[Vo]
 exact (List.nodup_range.filter _).imp fun {i j} h z=>h (by cases z;rfl)
theorem qy (band:Nat) (ws:List (List Nat)) (n:Nat):(cI band ws n).Nodup:=
 nU Prod.fst List.nodup_range (fun c _=>BF _ _ _ _) fun c _ p hp=>by
  unfold gT at hp
  obtain ⟨i,_,rfl⟩:=UQ.mp hp
  rfl
theorem wm {band c i n:Nat} {ws:List (List Nat)} (hc:c<n) (hi:i<(ws.getD c []).length) (hb:we band ((ws.getD c []).getD i 0)=true):(c,i)∈cI band ws n:=
 U5.mpr ⟨c,Vp.mpr hc,UQ.mpr ⟨i,U7.mpr ⟨Vp.mpr hi,hb⟩,rfl⟩⟩
theorem uu.at {y:List Nat} {ws:List (List Nat)} {os:List Od} {e:Nat} (h:Yd y) (ho:uu y ws os) (he:e∈y):(((mP y os e).map Pr.pair)).Perm (cI (PyProof.Rows.lo1 e) ws ws.length):=by
 have hl:=iC h
 have Hs:=ho.1
 obtain ⟨o,o1,o2,o3⟩:=iD (os:=os) h he (by omega)
 have hm:=Bz h he
 have hb:(fi y)[(fi y).idxOf (PyProof.Rows.lo1 e)]? =some (PyProof.Rows.lo1 e):=by
  have hi:=Rm hm
  rw[GJ hi,Vt hi]
 have p:=ho.2 _ o _ o2 hb
 unfold mP
 rw[o3]
 split
 ·rw[V7]
  exact (List.reverse_perm _).trans p
 ·exact p
theorem BG {y:List Nat} {ws:List (List Nat)} {os:List Od} (h:Yd y) (ho:uu y ws os):(jF y os).Nodup:=by
 refine nU (fun p=>p.2.2) h.nd (fun e he=>?_) fun e _ p hp=>?_
 ·have hn:=(ho.at h he).nodup_iff.mpr (qy _ _ _)
  have e1:eY y os e=((mP y os e).map Pr.pair).map fun x=>(x.1,x.2,e):=by unfold eY;rw[Vj];rfl
  rw[e1]
  show (List.map _ _).Pairwise (· ≠ ·)
  rw[Vo]
  exact hn.imp fun {a b} g z=>g (by cases a;cases b;cases z;rfl)
 ·unfold eY at hp
  obtain ⟨x,_,rfl⟩:=UQ.mp hp
  rfl
theorem BH {y:List Nat} {ws:List (List Nat)} {os:List Od} {c i l e:Nat} {w:List Nat} (h:Yd y) (ho:uu y ws os) (hw:ws[c]? =some w) (hl:w[i]? =some l) (En:l∈y) (he:e=l\/e=aD l):(c,i,e)∈jF y os:=by
 have dk:=h.lt l En
 have C1:e∈y:=by rcases he with rfl | rfl;exact En;exact h.cl l En
 have e1:PyProof.Rows.lo1 e=PyProof.Rows.lo1 l:=by
  rcases he with rfl | rfl
  ·rfl
  ·rcases dk with g | g
   ·rw[(bI _ (aY l g).2.2).2.1,(aY l g).2.1,aN (.inl g)]
   ·rw[(aY _ (bI l g).2.2.2).2.1,(bI l g).2.1]
 have hb:PyProof.Rows.lo1 l∈aX:=by
  rcases dk with g | g
  ·rw[(aY l g).2.1];exact g
  ·rw[(bI l g).2.1];exact (bI l g).2.2.2
 have R0:we (PyProof.Rows.lo1 l) l=true:=by rw[<-BE hb dk];exact decide_eq_true rfl
 have d1:ws.getD c []=w:=by rw[Ro,hw];rfl
 have d2:w.getD i 0=l:=by rw[Ro,hl];rfl
 have hm:(c,i)∈(mP y os e).map Pr.pair:=by
  rw[(ho.at h C1).mem_iff,e1]
  exact wm (GK.mp hw).1 (by rw[d1];exact (GK.mp hl).1) (by rw[d1,d2];exact R0)
 obtain ⟨p,hp,ep⟩:=UQ.mp hm
 refine U5.mpr ⟨e,C1,UQ.mpr ⟨p,hp,?_⟩⟩
 have e2:p.c=c:=congrArg Prod.fst ep
 have e3:p.i=i:=congrArg Prod.snd ep
 rw[e2,e3]
noncomputable def r_ (p:Nat×Nat×Nat):List Key:=[Sum.inl (p.1:Int),Sum.inl (p.2.1:Int),Sum.inr (S [p.2.2])]
theorem BI {p q:Nat×Nat×Nat} (h:r_ p=r_ q):p=q:=by
 unfold r_ at h
 injection h with h1 h2
 injection h2 with h2 h3
 injection h3 with h3 _
 have a1:(p.1:Int)=q.1:=Sum.inl.inj h1
 have a2:(p.2.1:Int)=q.2.1:=Sum.inl.inj h2
 have a3:[p.2.2]=[q.2.2]:=by
  have:=Sum.inr.inj h3
  rw[<-dP [p.2.2],this,dP]
 have a4:p.2.2=q.2.2:=by simpa using a3
 exact Prod.ext (by omega) (Prod.ext (by omega) a4)
def Nums (ps:List (Nat×Nat×Nat)) (aK:List (List Key×V)) (n:Nat):Prop:= ∀p∈ps.take n,cV aK (r_ p)=some (.int (ps.idxOf p:Nat))
theorem Nums.put {ps:List (Nat×Nat×Nat)} {aK:List (List Key×V)} {n:Nat} {p:Nat×Nat×Nat} (h:Nums ps aK n) (hn:ps.Nodup) (e:ps[n]? =some p):Nums ps (putK aK (r_ p) (.int (n:Nat))) (n+1):=fun r hr=>by
 rw[AK]
 by_cases z:r=p
 ·rw[if_pos (by rw[z]),z,qx hn e]
 ·rw[if_neg fun g=>z (BI g)]
  rw[<-take_snoc e]at hr
  exact h r ((UO.mp hr).resolve_right fun g=>z (PC.mp g))
noncomputable def uY (n i:Nat):Nat:=if i=0 then n - 1 else i - 1
theorem wo {n i:Nat} (h:i<n):uY n i<n:=by unfold uY;split<;>omega
theorem xY {n i:Nat} (h:i<n):((i:Int) - 1)%(n:Int)=((uY n i:Nat):Int):=by
 unfold uY
 split
 ·rename_i z
  subst z
  have:((0:Nat):Int) - 1+(n:Int)=((n - 1:Nat):Int):=by omega
  rw[<-VU,this]
  exact UU (by omega) (by omega)
 ·have:(i:Int) - 1=((i - 1:Nat):Int):=by omega
  rw[this]
  exact UU (by omega) (by omega)
noncomputable abbrev C4:=Nat×Nat×Nat×Nat
noncomputable def gn (ps:List (Nat×Nat×Nat)) (c:Nat) (w:List Nat) (i:Nat):C4:=(c,i,ps.idxOf (c,uY w.length i,aD (w.getD (uY w.length i) 0)),ps.idxOf (c,i,w.getD i 0))
noncomputable def kR (ps:List (Nat×Nat×Nat)) (c:Nat) (w:List Nat) (n:Nat):List C4:=(List.range n).map (gn ps c w)
noncomputable def fO (ps:List (Nat×Nat×Nat)) (ws:List (List Nat)) (n:Nat):List C4:=(List.range n).flatMap fun c=>kR ps c (ws.getD c []) (ws.getD c []).length
theorem uv (ps:List (Nat×Nat×Nat)) (c:Nat) (w:List Nat) (n:Nat):kR ps c w (n+1)=kR ps c w n++[gn ps c w n]:=by unfold kR;rw[Vq,Rn];rfl
theorem sd {ps:List (Nat×Nat×Nat)} {ws:List (List Nat)} {i:Nat} {w:List Nat} (h:ws[i]? =some w):fO ps ws (i+1)=fO ps ws i++kR ps i w w.length:=by
 have e:ws.getD i []=w:=by rw[Ro,h];rfl
 unfold fO
 rw[Vq,Vc]
 congr 1
 rw[U2,Xw,Vh,e]
structure Q4 where
 t:Addr
 v:C4
noncomputable def mi (qs:List Q4):List V:=qs.map fun q=>V.ref q.t
theorem xZ (qs:List Q4):(mi qs).length=qs.length:=by unfold mi;rw[Py]
theorem BJ (a:List Q4) (q:Q4):mi a++[V.ref q.t]=mi (a++[q]):=by unfold mi;rw[Rn];rfl
theorem Ht {qs:List Q4} {i:Nat} {x:V} (h:(mi qs)[i]? =some x): ∃q,qs[i]? =some q/\x=V.ref q.t:=by
 unfold mi at h
 rw[UI]at h
 cases e:qs[i]? with
 | none=>rw[e]at h;cases h
 | some p=>rw[e]at h;cases h;exact ⟨p,rfl,rfl⟩
def o7 (H:Hp) (q:Q4):Prop:=H q.t=some (.tup [.int q.v.1, .int q.v.2.1, .int q.v.2.2.1, .int q.v.2.2.2])
theorem o7.ts {H H':Hp} {q:Q4} (h:o7 H q) (s:du H H'):o7 H' q:=s _ _ h
noncomputable def fA (y:List Nat) (ws:List (List Nat)) (os:List Od):List C4:=fO (jF y os) ws ws.length
theorem LN {y:List Nat} {os:List Od} {p:Pt} {ps:List Pt} (h:ps.map Pt.is=jF y os) {i:Nat} (hi:ps[i]? =some p):(jF y os)[i]? =some p.is:=by rw[<-h,UI,hi];rfl
def gp (_:PySem.W.Frag):Sp:=fun vs H Q _=> ∃(w:List Nat) (c i:Nat),vs=[.str (S w), .int c, .int i]/\(∀l∈w,l<128)/\i<w.length/\w.length<=1000/\ ∀(t t1 t2:Addr) (H':Hp),H' t=some (.tup [.ref t1, .ref t2])->H' t1=some (.tup ((r_ (c,uY w.length i,aD (w.getD (uY w.length i) 0))).map kV))->H' t2=some (.tup ((r_ (c,i,w.getD i 0)).map kV))->ay H H'->Q (.ref t) H'
theorem j_ {K:PySem.W.Frag} {vs:List V} {H:Hp} {Q:VK} {E:XK} (h:gp K vs H Q E):vs.length=3:=by obtain ⟨c,_,_,rfl,_⟩:=h;rfl
def nV (_:PySem.W.Frag):Sp:=fun vs H Q _=> ∃(y:List Nat) (dr:Addr) (ws:List (List Nat)) (os:List Od),vs=[.str (S y), .ref dr]/\Yd y/\y.length<=8/\LM y ws/\uu y ws os/\wc H dr ws os/\ ∀(q:Addr) (qs:List Q4) (H':Hp),H q=none->H' q=some (.lst (mi qs))->(∀x∈qs,o7 H' x)->qs.map Q4.v=fA y ws os->ay H H'->Q (.ref q) H'
theorem uw {K:PySem.W.Frag} {vs:List V} {H:Hp} {Q:VK} {E:XK} (h:nV K vs H Q E):vs.length=2:=by obtain ⟨c,_,_,_,rfl,_⟩:=h;rfl
theorem Eo {y:List Nat} {os:List Od} {i m e:Nat} {p:Pr} (he:y[i]? =some e) (hp:(mP y os e)[m]? =some p):(jF y os)[((y.take i).flatMap (eY y os)).length+m]? =some (p.c,p.i,e):=by
 obtain ⟨hi,e1⟩:=GK.mp he
 have hy:y=y.take i++e::y.drop (i+1):=by
  rw[<-e1, <-Vf hi,Vz]
 have h1:jF y os=(y.take i).flatMap (eY y os)++(eY y os e++(y.drop (i+1)).flatMap (eY y os)):=by
  unfold jF
  conv=>lhs;arg 2;rw[hy]
  rw[Vc,U2]
 have h2:(eY y os e)[m]? =some (p.c,p.i,e):=by unfold eY;rw[UI,hp];rfl
 rw[h1,Vl (Nat.le_add_right _ _),Nat.add_sub_cancel_left,Va (GK.mp h2).1]
 exact h2
structure BK (y:List Nat) (ws:List (List Nat)) (L:Nat->Bool) (r:Nat->Nat) (M:Nat) (os:List Od):Prop where
 ok:uu y ws os
 asc: ∀o∈os,(o.ps.map Pr.pair).Pairwise fun s t=>bp (cf y ws L r M s.1 s.2) (cf y ws L r M t.1 t.2)=true
theorem wq: ∀c∈aX++jq,PyProof.Rows.lo1 (aD c)=PyProof.Rows.lo1 c/\isUp c=!az c:=by decide+kernel
theorem zy {α:Type} {y:List Nat} (F:Nat->List α) {k k' e:Nat} (he:y[k]? =some e) (h:k<k'):((y.take k).flatMap F).length+(F e).length<=((y.take k').flatMap F).length:=by
 have e1:(y.take k').take (k+1)=y.take (k+1):=by rw[List.take_take,Vd (by omega)]
 have e2:y.take k'=y.take (k+1)++(y.take k').drop (k+1):=by rw[<-e1,Vz]
 rw[e2,Vc,Rk, <-take_snoc he,Vc,Rk]
 simp
theorem kS {y:List Nat} {ws:List (List Nat)} {os:List Od} (hy:Yd y) (ho:uu y ws os) (hs: ∀c,c<ws.length->SW y (ws.getD c [])) {c i e:Nat} (hc:c<ws.length) (hi:i<(ws.getD c []).length) (he:e=rd (ws.getD c []) i\/e=aD (rd (ws.getD c []) i)):
  e∈y/\ ∃(m:Nat) (p:Pr),(mP y os e)[m]? =some p/\p.pair=(c,i)/\(jF y os).idxOf (c,i,e)=((y.take (y.idxOf e)).flatMap (eY y os)).length+m:=by
 have hw:=hs c hc
 have ey:e∈y:=he.elim (fun z=>z▸hw.rd _) fun z=>z▸hy.cl _ (hw.rd _)
 have sS:=BH hy ho (c:=c) (i:=i) (l:=rd (ws.getD c []) i) (e:=e) (w:=ws.getD c []) (by rw[Ro,GJ hc];rfl) (kL hi) (hw.rd _) he
 unfold jF at sS
 obtain ⟨e',z4,hp⟩:=U5.mp sS
 unfold eY at hp
 obtain ⟨p,wu,xn⟩:=UQ.mp hp
 obtain ⟨q1,P9⟩:=Prod.mk.inj xn
 obtain ⟨q2,q3⟩:=Prod.mk.inj P9
 clear P9
 subst q3
 obtain ⟨m,hm,em⟩:=Wy wu
 have IL:(mP y os e')[m]? =some p:=by rw[GJ hm,em]
 refine ⟨ey,m,p,IL,by unfold Pr.pair;rw[q1,q2],?_⟩
 have hk:y[y.idxOf e']? =some e':=by rw[GJ (Rm ey),Vt]
 have:=Eo (os:=os) hk IL
 rw[q1,q2]at this
 exact qx (BG hy ho) this
theorem BL (y:List Nat) (os:List Od) (e:Nat):(eY y os e).length=(mP y os e).length:=by unfold eY;rw[Py]
theorem BM {l:List Pr} {y:List Nat} {ws:List (List Nat)} {L:Nat->Bool} {r:Nat->Nat} {M:Nat} (h:(l.map Pr.pair).Pairwise fun s t=>bp (cf y ws L r M s.1 s.2) (cf y ws L r M t.1 t.2)=true) {m n c i d j:Nat} {p q:Pr} (hp:l[m]? =some p) (hq:l[n]? =some q) (ep:p.pair=(c,i)) (eq:q.pair=(d,j)) (dh:(c,i)≠(d,j)):
  m≠n/\decide (m<n)=bp (cf y ws L r M c i) (cf y ws L r M d j):=by
 have MA:m≠n:=fun z=>dh (by rw[z,hq]at hp;rw[<-ep, <-eq,UE hp])
 obtain ⟨hm,em⟩:=GK.mp hp
 obtain ⟨hn,en⟩:=GK.mp hq
 refine ⟨MA,?_⟩
 have key:=V8.mp h
 by_cases z:m<n
 ·have:=key m n (by rw[Py];exact hm) (by rw[Py];exact hn) z
  rw[WN,WN,em,en,ep,eq]at this
  rw[decide_eq_true z]
  exact this.symm
 ·have:=key n m (by rw[Py];exact hn) (by rw[Py];exact hm) (by omega)
  rw[WN,WN,em,en,ep,eq]at this
  rw[decide_eq_false z]
  exact (kM this).1.symm
theorem x4 {α:Type} {l:List α} {m:Nat} {p:α} (h:l.reverse[m]? =some p):m<l.length/\l[l.length - 1 - m]? =some p:=by
 obtain ⟨hm,_⟩:=GK.mp h
 rw[UY]at hm
 rw[Wm hm]at h
 exact ⟨hm,h⟩
theorem lies_of {y:List Nat} {ws:List (List Nat)} {L:Nat->Bool} {r:Nat->Nat} {M:Nat} {os:List Od} (hy:Yd y) (hs: ∀c,c<ws.length->SW y (ws.getD c [])) (h:BK y ws L r M os):Lies y ws L r M fun c i e=>(jF y os).idxOf (c,i,e):=by
 have ol:2*os.length=y.length:=by rw[h.ok.1];exact iC hy
 refine ⟨fun c i d j e e' hc hd hi hj he z4 dk=>?_,fun c i d j x hc hd hi hj dh hx K3 R1=>?_⟩
 ·obtain ⟨ey,m,p,hm,_,e1⟩:=kS hy h.ok hs hc hi he
  obtain ⟨T7,m',p',IL,_,e2⟩:=kS hy h.ok hs hd hj z4
  rw[e1,e2]
  have hk:y[y.idxOf e]? =some e:=by rw[GJ (Rm ey),Vt]
  have:=zy (eY y os) hk dk
  rw[BL]at this
  have DM:=(GK.mp hm).1
  omega
 ·have lc:Lt (rd (ws.getD c []) i):=hy.lt _ ((hs c hc).rd _)
  have ld:Lt (rd (ws.getD d []) j):=hy.lt _ ((hs d hd).rd _)
  have vi:(x=rd (ws.getD c []) i\/x=aD (rd (ws.getD c []) i))/\(aD x=rd (ws.getD c []) i\/aD x=aD (rd (ws.getD c []) i))/\Lt x:=by
   rcases K3 with z | z
   ·exact ⟨.inl z.symm, .inr (by rw[z]),z▸lc⟩
   ·have Ow:x<128/\x∈aX:=by
     have h9:97<=x/\x<=122:=by unfold az at hx;simpa using hx
     refine ⟨by omega,?_⟩
     have: ∀k,k<26->k+97∈aX:=by decide
     have h8:=this (x - 97) (by omega)
     rwa [show x - 97+97=x by omega]at h8
    have lx:Lt x:= .inl Ow.2
    exact ⟨.inr (by rw[z,aN lx]), .inl z.symm,lx⟩
  have lx:=vi.2.2
  have vj:(x=rd (ws.getD d []) j\/x=aD (rd (ws.getD d []) j))/\(aD x=rd (ws.getD d []) j\/aD x=aD (rd (ws.getD d []) j)):=by
   rcases R1 with z | z
   ·exact ⟨.inl z.symm, .inr (by rw[z])⟩
   ·exact ⟨.inr (by rw[z,aN lx]), .inl z.symm⟩
  obtain ⟨xy,m,p,hm,ep,e1⟩:=kS hy h.ok hs hc hi vi.1
  obtain ⟨_,n,q,hn,eq,e2⟩:=kS hy h.ok hs hd hj vj.1
  obtain ⟨_,m',p',IL,J_,Ay⟩:=kS hy h.ok hs hc hi vi.2.1
  obtain ⟨_,n',q',Mg,R3,Hu⟩:=kS hy h.ok hs hd hj vj.2
  obtain ⟨o,P_,_,eo⟩:=iD hy xy ol
  have R4:isUp x=false:=by rw[(wq x lx.mem).2,hx];rfl
  have up1:isUp (aD x)=true:=by rw[(wq _ lx.aD.mem).2,fg x lx.mem,hx];rfl
  have s0:mP y os x=o.ps:=by unfold mP;rw[R4,if_neg (by decide),eo]
  have s1:mP y os (aD x)=o.ps.reverse:=by
   unfold mP
   rw[up1,if_pos rfl]
   have:wd y os (aD x)=wd y os x:=by unfold wd;rw[(wq x lx.mem).1]
   rw[this,eo]
  rw[s0]at hm hn
  rw[s1]at IL Mg
  obtain ⟨b1,DM⟩:=x4 IL
  obtain ⟨b2,ve⟩:=x4 Mg
  have k1:=BM (h.asc o P_) hm hn ep eq dh
  have k2:=BM (h.asc o P_) DM ve J_ R3 dh
  rw[e1,e2,Ay,Hu]
  refine ⟨by omega,by omega,?_,?_⟩
  ·rw[<-k1.2];exact decide_eq_decide.mpr (by omega)
  ·rw[<-k2.2];exact decide_eq_decide.mpr (by omega)
noncomputable def mQ (st:Nat->Nat) (T R:List Nat):List Nat:=T.filter fun x=>R.any fun e=>decide (st e=x)
noncomputable def zA (st:Nat->Nat) (T R:List Nat) (p:Nat):Nat:=if st p=p then 0 else ((mQ st T (p::R)).filter fun x=>decide (st p<x)).length
noncomputable def C2 (st:Nat->Nat):List Nat->List Nat->Nat
 | _,[]=>0
 | T,p::R=>zA st T R p+C2 st (T++[p]) R
structure BN (ch:List (Nat×Nat)) (st:Nat->Nat) (P:List Nat):Prop where
 lt: ∀x∈ch,x.1<x.2
 nd:(ch.flatMap fun x=>[x.1,x.2]).Nodup
 pm:P.Perm (ch.flatMap fun x=>[x.1,x.2])
 up:P.Pairwise (· < ·)
 st: ∀x∈ch,st x.1=x.1/\st x.2=x.1
section
variable {ch:List (Nat×Nat)} {st:Nat->Nat} {P:List Nat}
theorem BN.pt (h:BN ch st P) {p:Nat} (hp:p∈P): ∃x∈ch,p=x.1\/p=x.2:=by
 obtain ⟨x,hx,e⟩:=U5.mp (h.pm.mem_iff.mp hp)
 exact ⟨x,hx,by simpa using e⟩
theorem BN.in1 (h:BN ch st P) {x:Nat×Nat} (hx:x∈ch):x.1∈P/\x.2∈P:=⟨h.pm.mem_iff.mpr (U5.mpr ⟨x,hx,by simp⟩),h.pm.mem_iff.mpr (U5.mpr ⟨x,hx,by simp⟩)⟩
theorem ux: ∀{ch:List (Nat×Nat)},(ch.flatMap fun x=>[x.1,x.2]).Nodup-> ∀x∈ch, ∀z∈ch,(x.1=z.1\/x.2=z.2\/x.1=z.2)->x=z
 | [],_,x,hx,_,_,_=>absurd hx UP
 | a::r,nd,x,hx,z,hz,e=>by
  rw[U2,Vw]at nd
  obtain ⟨n1,n2,n3⟩:=nd
  have inr: ∀z∈r,z.1∈r.flatMap (fun x=>[x.1,x.2])/\z.2∈r.flatMap (fun x=>[x.1,x.2]):=fun z hz=>⟨U5.mpr ⟨z,hz,by simp⟩,U5.mpr ⟨z,hz,by simp⟩⟩
  have a12:a.1≠a.2:=by
   rw[U4]at n1
   simpa using n1.1
  rcases T3.mp hx with rfl | E3<;>rcases T3.mp hz with rfl | IM
  ·rfl
  ·exfalso
   rcases e with e | e | e
   ·exact n3 x.1 (by simp) z.1 (inr z IM).1 e
   ·exact n3 x.2 (by simp) z.2 (inr z IM).2 e
   ·exact n3 x.1 (by simp) z.2 (inr z IM).2 e
  ·exfalso
   rcases e with e | e | e
   ·exact n3 z.1 (by simp) x.1 (inr x E3).1 e.symm
   ·exact n3 z.2 (by simp) x.2 (inr x E3).2 e.symm
   ·exact n3 z.2 (by simp) x.1 (inr x E3).1 e.symm
  ·exact ux n2 x E3 z IM e
theorem BO (h:BN ch st P) {T R:List Nat} {p:Nat} (e:P=T++p::R) (hs:st p=p):mQ st (T++[p]) R=mQ st T (p::R)++[p]:=by
 obtain ⟨x,hx,hp⟩:=h.pt (p:=p) (by rw[e];simp)
 have Hv:p=x.1:=hp.elim id fun z=>by rw[z,(h.st x hx).2]at hs;rw[z, <-hs]
 have up:=h.up
 rw[e,VN,VI]at up
 obtain ⟨u1,⟨u2,u3⟩,u4⟩:=up
 have hR:x.2∈R:=by
  have:=(h.in1 hx).2
  rw[e]at this
  rcases UO.mp this with q | q
  ·have:=u4 _ q p UA
   have:=h.lt x hx
   omega
  ·rcases T3.mp q with q | q
   ·have:=h.lt x hx
    omega
   ·exact q
 unfold mQ
 rw[VT]
 congr 1
 ·refine Xn fun z hz=>?_
  rw[VX,decide_eq_false (fun q=>by have:=u4 z hz p UA;omega),Xi]
 ·have:(R.any fun e=>decide (st e=p))=true:=List.any_eq_true.mpr ⟨x.2,hR,decide_eq_true (by rw[(h.st x hx).2,Hv])⟩
  rw[U3 (p:=fun x=>R.any fun e=>decide (st e=x)) this]
  rfl
theorem erase_filter {s:Nat} {p q:Nat->Bool}: ∀{T:List Nat},T.Nodup->q s=true->p s=false->(∀x,x≠s->q x=p x)->(T.filter q).erase s=T.filter p
 | [],_,_,_,_=>rfl
 | a::T,nd,hq,hp,h=>by
  rw[U4]at nd
  by_cases z:a=s
  ·subst z
   rw[U3 hq,List.erase_cons_head,UT (by rw[hp];decide)]
   exact Xn fun x hx=>h x fun q=>nd.1 (q▸hx)
  ·have ih:=erase_filter nd.2 hq hp h
   cases e:p a
   ·rw[UT (by rw[h a z,e];decide),UT (by rw[e];decide)]
    exact ih
   ·rw[U3 (by rw[h a z,e]),U3 e,List.erase_cons_tail (by simpa using z),ih]
theorem Hw (h:BN ch st P) {T R:List Nat} {p:Nat} (e:P=T++p::R) (hs:st p≠p):mQ st (T++[p]) R=(mQ st T (p::R)).erase (st p)/\st p∈mQ st T (p::R):=by
 obtain ⟨x,hx,hp⟩:=h.pt (p:=p) (by rw[e];simp)
 have Hv:p=x.2:=hp.elim (fun z=>absurd (by rw[z,(h.st x hx).1]) hs) id
 have lG:st p=x.1:=by rw[Hv,(h.st x hx).2]
 have up:=h.up
 rw[e,VN,VI]at up
 obtain ⟨u1,⟨u2,u3⟩,u4⟩:=up
 have only: ∀z∈R,st z≠x.1:=fun z hz q=>by
  obtain ⟨v,hv,Lg⟩:=h.pt (p:=z) (by rw[e];simp[hz])
  have T8:=u2 z hz
  rcases Lg with r | r
  ·rw[r,(h.st v hv).1]at q
   have:=ux h.nd v hv x hx (.inl q)
   subst this
   have:=h.lt v hv
   omega
  ·rw[r,(h.st v hv).2]at q
   have:=ux h.nd v hv x hx (.inl q)
   subst this
   omega
 have none: ∀z∈R,st z≠p:=fun z hz q=>by
  obtain ⟨v,hv,Lg⟩:=h.pt (p:=z) (by rw[e];simp[hz])
  have:st z=v.1:=Lg.elim (fun r=>by rw[r,(h.st v hv).1]) fun r=>by rw[r,(h.st v hv).2]
  rw[this,Hv]at q
  have:=ux h.nd v hv x hx (.inr (.inr q))
  subst this
  have:=h.lt v hv
  omega
 have hT:x.1∈T:=by
  have:=(h.in1 hx).1
  rw[e]at this
  have l:=h.lt x hx
  rcases UO.mp this with q | q
  ·exact q
  ·rcases T3.mp q with q | q
   ·omega
   ·have:=u2 _ q
    omega
 have nd:T.Nodup:=Xq (fun h=>UJ h) u1
 have hq:((p::R).any fun e=>decide (st e=x.1))=true:=by rw[VX,decide_eq_true lG];rfl
 refine ⟨?_,?_⟩
 ·rw[lG]
  unfold mQ
  rw[VT,UT (by
   rw[Bool.not_eq_true,Xp]
   exact fun z hz=>by simpa using none z hz),List.filter_nil,Vh]
  refine (erase_filter nd hq ?_ fun z hz=>?_).symm
  ·rw[Xp]
   exact fun z hz=>by simpa using only z hz
  ·rw[VX,decide_eq_false (by rw[lG];exact Ne.symm hz),Xi]
 ·rw[lG]
  exact U7.mpr ⟨hT,hq⟩
noncomputable def iY (x z:Nat×Nat):Bool:=decide (x.1<z.1)&&(decide (z.1<x.2)&&decide (x.2<z.2))
theorem BP (h:BN ch st P) {T R:List Nat} {x:Nat×Nat} (hx:x∈ch) (e:P=T++x.2::R):zA st T R x.2=(ch.filter (iY x)).length:=by
 have l:=h.lt x hx
 have lG:=(h.st x hx).2
 have up:=h.up
 rw[e,VN,VI]at up
 obtain ⟨u1,⟨u2,u3⟩,u4⟩:=up
 unfold zA
 rw[if_neg (by omega),lG, <-Py (as:=ch.filter (iY x)) (f:=Prod.fst)]
 refine List.Perm.length_eq ((List.perm_ext_iff_of_nodup ?_ ?_).mpr fun a=>?_)
 ·exact (Xq (fun h=>UJ h) ((u1.filter _).filter _))
 ·have nd:(ch.map Prod.fst).Nodup:=by
   have: ∀{ch:List (Nat×Nat)},(ch.flatMap fun x=>[x.1,x.2]).Nodup->(ch.map Prod.fst).Nodup:=fun {ch}=>by
    induction ch with
    | nil=>exact fun _=>List.Pairwise.nil
    | cons a r ih=>
     intro nd
     rw[U2,Vw]at nd
     rw[UK,U4]
     refine ⟨fun q=>?_,ih nd.2.1⟩
     obtain ⟨z,hz,ez⟩:=UQ.mp q
     exact nd.2.2 a.1 (by simp) z.1 (U5.mpr ⟨z,hz,by simp⟩) ez.symm
   exact this h.nd
  exact List.Nodup.sublist (List.Sublist.map _ List.filter_sublist) nd
 ·rw[U7,UQ]
  unfold mQ
  rw[U7,decide_eq_true_iff,List.any_eq_true]
  constructor
  ·rintro ⟨⟨a1,p,hp,ep⟩,a2⟩
   have ep:=of_decide_eq_true ep
   obtain ⟨z,hz,Ox⟩:=h.pt (p:=p) (by rw[e];exact UM _ hp)
   have:st p=z.1:=Ox.elim (fun r=>by rw[r,(h.st z hz).1]) fun r=>by rw[r,(h.st z hz).2]
   rw[this]at ep
   have ax:=u4 a a1 x.2 UA
   have pz:p=z.2:=Ox.elim (fun r=>by
    have:=u4 a a1 p hp
    omega) id
   have px:x.2<p:=by
    rcases T3.mp hp with q | q
    ·rw[q]at pz
     have:=ux h.nd x hx z hz (.inr (.inl pz))
     subst this
     omega
    ·exact u2 p q
   refine ⟨z,U7.mpr ⟨hz,?_⟩,ep⟩
   unfold iY
   rw[Ve,Ve,decide_eq_true_iff,decide_eq_true_iff,decide_eq_true_iff]
   omega
  ·rintro ⟨z,hz,rfl⟩
   obtain ⟨hz,q⟩:=U7.mp hz
   unfold iY at q
   rw[Ve,Ve,decide_eq_true_iff,decide_eq_true_iff,decide_eq_true_iff]at q
   have i1:=(h.in1 hz).1
   have i2:=(h.in1 hz).2
   rw[e]at i1 i2
   refine ⟨⟨?_,z.2,?_,decide_eq_true (h.st z hz).2⟩,q.1⟩
   ·rcases UO.mp i1 with r | r
    ·exact r
    ·rcases T3.mp r with r | r
     ·omega
     ·have:=u2 _ r;omega
   ·rcases UO.mp i2 with r | r
    ·have:=u4 _ r x.2 UA;omega
    ·exact r
theorem BQ (h:BN ch st P): ∀(R T:List Nat),P=T++R->C2 st T R=(R.map fun p=>if st p=p then 0 else (ch.filter (iY (st p,p))).length).sum
 | [],_,_=>rfl
 | p::R,T,e=>by
  rw[UK,VP, <-BQ h R (T++[p]) (by rw[e];simp)]
  show zA st T R p+_=_
  congr 1
  by_cases z:st p=p
  ·rw[if_pos z];unfold zA;rw[if_pos z]
  ·rw[if_neg z]
   obtain ⟨x,hx,hp⟩:=h.pt (p:=p) (by rw[e];simp)
   have Hv:p=x.2:=hp.elim (fun q=>absurd (by rw[q,(h.st x hx).1]) z) id
   have lG:st p=x.1:=by rw[Hv,(h.st x hx).2]
   rw[lG]
   subst Hv
   exact BP h hx e
theorem Hx (h:BN ch st P):C2 st [] P=(ch.map fun x=>(ch.filter (iY x)).length).sum:=by
 rw[BQ h P [] rfl,(h.pm.map _).sum_nat]
 have: ∀l:List (Nat×Nat),(∀x∈l,x∈ch)->(((l.flatMap fun x=>[x.1,x.2]).map fun p=>if st p=p then 0 else (ch.filter (iY (st p,p))).length).sum)=(l.map fun x=>(ch.filter (iY x)).length).sum:=fun l hl=>by
  induction l with
  | nil=>rfl
  | cons a r ih=>
   have ha:=h.st a (hl a UA)
   have la:=h.lt a (hl a UA)
   rw[U2,Rn,List.sum_append_nat,ih fun x hx=>hl x (T5 _ hx),UK,VP]
   congr 1
   show (if st a.1=a.1 then 0 else _)+((if st a.2=a.2 then 0 else (ch.filter (iY (st a.2,a.2))).length)+0)=_
   rw[if_pos ha.1,if_neg (by omega),ha.2,WW,Nat.add_zero]
 exact this ch fun x hx=>hx
theorem zB {α:Type} (X:α->α->Bool) (hd: ∀x,X x x=false) (ha: ∀x z,X x z=true->X z x=false): ∀l:List α,(l.map fun x=>(l.filter (X x)).length).sum=cl (fun x z=>X x z||X z x) l:=fun l=>by
 have key: ∀(a:α) (l:List α),((l.filter fun z=>X a z||X z a)).length=(l.filter (X a)).length+(l.map fun z=>if X z a=true then 1 else 0).sum:=fun a l=>by
  induction l with
  | nil=>rfl
  | cons b r ih=>
   have:=ha a b
   simp only[List.filter_cons,UK,VP]
   cases e1:X a b<;>cases e2:X b a
   ·simp[ih]
   ·simp[ih];omega
   ·simp[ih];omega
   ·rw[this e1]at e2;cases e2
 induction l with
 | nil=>rfl
 | cons a r ih=>
  show (((a::r).map fun x=>((a::r).filter (X x)).length).sum)=(r.filter fun z=>X a z||X z a).length+cl _ r
  rw[UK,VP,UT (by rw[hd a];decide),key a r, <-ih]
  have e: ∀l:List α,(l.map fun x=>((a::r).filter (X x)).length).sum=(l.map fun z=>if X z a=true then 1 else 0).sum+(l.map fun x=>(r.filter (X x)).length).sum:=fun l=>by
   induction l with
   | nil=>rfl
   | cons b l R5=>
    rw[UK,VP,R5,UK,VP,UK,VP]
    cases e1:X b a
    ·rw[UT (by rw[e1];decide)]
     simp;omega
    ·rw[U3 e1]
     simp;omega
  rw[e r]
  omega
theorem LO (h:BN ch st P):C2 st [] P=cl (fun x z=>iY x z||iY z x) ch:=by
 rw[Hx h,zB]
 ·intro x;unfold iY;rw[decide_eq_false (U_ _)];rfl
 ·intro x z q
  unfold iY at q ⊢
  rw[Ve,Ve,decide_eq_true_iff,decide_eq_true_iff,decide_eq_true_iff]at q
  rw[decide_eq_false (by omega)]
  rfl
end
noncomputable def FF (p q:Nat):Int:=if (q:Int)<p then q else p
noncomputable def cX (cs:List C4):List Nat:=cs.flatMap fun x=>[x.2.2.1,x.2.2.2]
noncomputable def fH (cs:List C4):List (Key×V):=cs.flatMap fun x=>[(Sum.inl (x.2.2.1:Int),V.int (FF x.2.2.1 x.2.2.2)),(Sum.inl (x.2.2.2:Int),V.int (FF x.2.2.1 x.2.2.2))]
noncomputable def je (cs:List C4):List (Nat×Nat):=cs.map fun x=>(min x.2.2.1 x.2.2.2,max x.2.2.1 x.2.2.2)
theorem gq: ∀cs:List C4,(fH cs).map (·.1)=(cX cs).map fun n:Nat=>(Sum.inl (n:Int):Key)
 | []=>rfl
 | x::r=>by
  unfold fH cX
  rw[U2,U2,Rn,Rn]
  exact congrArg _ (gq r)
theorem uy {aK:List (Key×V)} {k:Key} (h:k∉aK.map (·.1)):cV aK k=none:=by
 induction aK with
 | nil=>rfl
 | cons a r ih=>
  rw[UK,T3,not_or]at h
  rw[b7 (fun e=>h.1 e.symm),ih h.2]
theorem BR {aK:List (Key×V)} (nd:(aK.map (·.1)).Nodup) {k:Key} {v:V} (h:(k,v)∈aK):cV aK k=some v:=by
 induction aK with
 | nil=>exact absurd h UP
 | cons a r ih=>
  rw[UK,U4]at nd
  rcases T3.mp h with e | e
  ·subst e;exact cu rfl
  ·rw[b7 (fun z=>nd.1 (UQ.mpr ⟨_,e,z.symm⟩))]
   exact ih nd.2 e
theorem Hy: ∀{l:List Nat},l.Nodup->(l.map fun n:Nat=>(Sum.inl (n:Int):Key)).Nodup:=fun {l} h=>Vo.mpr (h.imp fun uX z=>uX (by have:=Sum.inl.inj z;omega))
noncomputable def ins (l:List Nat):List V:=l.map fun n=>V.int (n:Nat)
theorem ka (l:List Nat):(ins l).length=l.length:=by unfold ins;rw[Py]
theorem BS (l:List Nat) (n:Nat):ins l++[V.int (n:Nat)]=ins (l++[n]):=by unfold ins;rw[Rn];rfl
theorem BU {l:List Nat} {i n:Nat} (h:l[i]? =some n):(ins l)[i]? =some (V.int (n:Nat)):=by unfold ins;rw[UI,h];rfl
def gU (_:PySem.W.Frag):Sp:=fun vs H Q _=> ∃(a:Addr) (qs:List Q4),vs=[.ref a]/\H a=some (.lst (mi qs))/\(∀x∈qs,o7 H x)/\qs.length<=1000/\(cX (qs.map Q4.v)).Nodup/\ ∀d H',H d=none->H' d=some (.dK (fH (qs.map Q4.v)))->ay H H'->Q (.ref d) H'
theorem kT {K:PySem.W.Frag} {vs:List V} {H:Hp} {Q:VK} {E:XK} (h:gU K vs H Q E):vs.length=1:=by obtain ⟨_,_,rfl,_⟩:=h;rfl
def kc (_:PySem.W.Frag):Sp:=fun vs H Q _=> ∃(a:Addr) (l:List Nat) (p:Nat),vs=[.ref a, .int p]/\H a=some (.lst (ins l))/\l.Pairwise (· < ·)/\p∈l/\l.length<=100000/\Q (.int (l.idxOf p:Nat)) H
theorem o8 {K:PySem.W.Frag} {vs:List V} {H:Hp} {Q:VK} {E:XK} (h:kc K vs H Q E):vs.length=2:=by obtain ⟨_,_,_,rfl,_⟩:=h;rfl
def fP (_:PySem.W.Frag):Sp:=fun vs H Q _=> ∃(a:Addr) (qs:List Q4),vs=[.ref a]/\H a=some (.lst (mi qs))/\(∀x∈qs,o7 H x)/\qs.length<=24/\(cX (qs.map Q4.v)).Nodup/\ ∀H',ay H H'->Q (.int (cl (fun x z=>iY x z||iY z x) (je (qs.map Q4.v)):Nat)) H'
theorem jy {K:PySem.W.Frag} {vs:List V} {H:Hp} {Q:VK} {E:XK} (h:fP K vs H Q E):vs.length=1:=by obtain ⟨_,_,rfl,_⟩:=h;rfl
theorem zC (cs:List C4) (x:C4):cX (cs++[x])=cX cs++[x.2.2.1,x.2.2.2]:=by unfold cX;rw[Vc,Wg]
theorem zD (cs:List C4) (x:C4):fH (cs++[x])=fH cs++[(Sum.inl (x.2.2.1:Int),V.int (FF x.2.2.1 x.2.2.2)),(Sum.inl (x.2.2.2:Int),V.int (FF x.2.2.1 x.2.2.2))]:=by unfold fH;rw[Vc,Wg]
theorem uA (cs:List C4):(fH cs).length=2*cs.length:=by
 induction cs with
 | nil=>rfl
 | cons x r ih=>
  unfold fH at ih ⊢
  rw[U2,Rk,ih,U1]
  show 2+2*r.length=2*(r.length+1)
  omega
theorem Ep {cs:List C4} {x:C4} (nd:(cX (cs++[x])).Nodup):putK (putK (fH cs) (Sum.inl (x.2.2.1:Int)) (V.int (FF x.2.2.1 x.2.2.2))) (Sum.inl (x.2.2.2:Int)) (V.int (FF x.2.2.1 x.2.2.2))=fH (cs++[x]):=by
 rw[zC,Vw]at nd
 obtain ⟨n1,n2,n3⟩:=nd
 have k: ∀n:Nat,n∉cX cs->(Sum.inl (n:Int):Key)∉(fH cs).map (·.1):=fun n hn z=>by
  rw[gq]at z
  obtain ⟨m,hm,e⟩:=UQ.mp z
  have:m=n:=by have:=Sum.inl.inj e;omega
  exact hn (this▸hm)
 have h1:x.2.2.1∉cX cs:=fun z=>n3 _ z _ (by simp) rfl
 have h2:x.2.2.2∉cX cs:=fun z=>n3 _ z _ (by simp) rfl
 have h3:x.2.2.1≠x.2.2.2:=by
  rw[U4]at n2
  simpa using n2.1
 rw[tT _ (uy (k _ h1)),tT,zD,VO]
 ·rfl
 ·refine uy fun z=>?_
  rw[Rn,UO]at z
  rcases z with z | z
  ·exact k _ h2 z
  ·have:=Sum.inl.inj (PC.mp z)
   omega
noncomputable def cj (cs:List C4) (p:Nat):Nat:=(((cV (fH cs) (Sum.inl (p:Int))).map fun v=>match v with | .int i=>i.toNat | _=>0).getD 0)
theorem BV (p q:Nat):FF p q=(min p q:Nat):=by unfold FF;split<;>omega
theorem FG {cs:List C4} (nd:(cX cs).Nodup) {x:C4} (hx:x∈cs):(cV (fH cs) (Sum.inl (x.2.2.1:Int))=some (.int (min x.2.2.1 x.2.2.2:Nat))/\cV (fH cs) (Sum.inl (x.2.2.2:Int))=some (.int (min x.2.2.1 x.2.2.2:Nat)))/\cj cs x.2.2.1=min x.2.2.1 x.2.2.2/\cj cs x.2.2.2=min x.2.2.1 x.2.2.2:=by
 have kn:((fH cs).map (·.1)).Nodup:=by rw[gq];exact Hy nd
 have e1:cV (fH cs) (Sum.inl (x.2.2.1:Int))=some (.int (min x.2.2.1 x.2.2.2:Nat)):=by
  rw[<-BV]
  exact BR kn (U5.mpr ⟨x,hx,by simp⟩)
 have e2:cV (fH cs) (Sum.inl (x.2.2.2:Int))=some (.int (min x.2.2.1 x.2.2.2:Nat)):=by
  rw[<-BV]
  exact BR kn (U5.mpr ⟨x,hx,by simp⟩)
 refine ⟨⟨e1,e2⟩,?_,?_⟩
 ·unfold cj;rw[e1];exact PB _
 ·unfold cj;rw[e2];exact PB _
theorem x5 (cs:List C4):((je cs).flatMap fun x=>[x.1,x.2]).Perm (cX cs):=by
 induction cs with
 | nil=>exact .nil
 | cons x r ih=>
  unfold je cX at ih ⊢
  rw[UK,U2,U2]
  refine List.Perm.append ?_ ih
  show [min x.2.2.1 x.2.2.2,max x.2.2.1 x.2.2.2].Perm [x.2.2.1,x.2.2.2]
  by_cases z:x.2.2.1<=x.2.2.2
  ·rw[Vd z,V5 z]
  ·rw[Vn (by omega),VW (by omega)]
   exact List.Perm.swap _ _ _
theorem Hz {cs:List C4} {P:List Nat} (nd:(cX cs).Nodup) (hp:P.Perm (cX cs)) (up:P.Pairwise (· < ·)):BN (je cs) (cj cs) P:=by
 refine ⟨fun x hx=>?_,((x5 cs).nodup_iff).mpr nd,hp.trans (x5 cs).symm,up,fun x hx=>?_⟩
 ·obtain ⟨c,hc,rfl⟩:=UQ.mp hx
  have dh:c.2.2.1≠c.2.2.2:=fun z=>by
   have: ∀{cs:List C4},(cX cs).Nodup-> ∀c∈cs,c.2.2.1≠c.2.2.2:=fun {cs}=>by
    induction cs with
    | nil=>exact fun _ _ h=>absurd h UP
    | cons a r ih=>
     intro nd c hc
     unfold cX at nd
     rw[U2,Vw]at nd
     rcases T3.mp hc with e | e
     ·subst e
      have:=nd.1
      rw[U4]at this
      simpa using this.1
     ·exact ih nd.2.1 c e
   exact this nd c hc z
  show min c.2.2.1 c.2.2.2<max c.2.2.1 c.2.2.2
  omega
 ·obtain ⟨c,hc,rfl⟩:=UQ.mp hx
  obtain ⟨_,e1,e2⟩:=FG nd hc
  show cj cs (min c.2.2.1 c.2.2.2)=min c.2.2.1 c.2.2.2/\cj cs (max c.2.2.1 c.2.2.2)=min c.2.2.1 c.2.2.2
  by_cases z:c.2.2.1<=c.2.2.2
  ·rw[Vd z,V5 z]at*
   exact ⟨e1,e2⟩
  ·rw[Vn (by omega),VW (by omega)]at*
   exact ⟨e2,e1⟩
theorem BW {l:List Nat} {p:Nat} (h:p∈l):l.eraseIdx (l.idxOf p)=l.erase p:=(List.erase_eq_eraseIdx_of_idxOf rfl).symm
theorem behind {l:List Nat} (up:l.Pairwise (· < ·)) {p:Nat} (h:p∈l):(l.erase p).length - l.idxOf p=(l.filter fun x=>decide (p<x)).length:=by
 induction l with
 | nil=>exact absurd h UP
 | cons a r ih=>
  rw[VI]at up
  by_cases z:a=p
  ·subst z
   rw[List.erase_cons_head,List.idxOf_cons_self,UT (by simp),List.filter_eq_self.mpr (fun x hx=>decide_eq_true (up.1 x hx))]
   rfl
  ·have hr:=(T3.mp h).resolve_left (Ne.symm z)
   rw[List.erase_cons_tail (by simpa using z),Hd,if_neg z,UT (by
    have:=up.1 p hr
    simp;omega), <-ih up.2 hr,U1]
   omega
theorem HA {st:Nat->Nat} {P T R:List Nat} (h:P.Pairwise (· < ·)) (e:P=T++R) (R':List Nat):(mQ st T R').Pairwise (· < ·):=by
 rw[e,VN]at h
 exact h.1.filter _
theorem Er {st:Nat->Nat} {T R:List Nat}:(mQ st T R).length<=T.length:=W4 _ _
theorem HB {cs:List C4} (nd:(cX cs).Nodup) {p:Nat} (hp:p∈cX cs):cV (fH cs) (Sum.inl (p:Int))=some (.int (cj cs p:Nat)):=by
 unfold cX at hp
 obtain ⟨x,hx,e⟩:=U5.mp hp
 obtain ⟨⟨e1,e2⟩,e3,e4⟩:=FG nd hx
 have e':p=x.2.2.1\/p=x.2.2.2:=by simpa using e
 rcases e' with rfl | rfl
 ·rw[e1,e3]
 ·rw[e2,e4]
theorem wx {ms:List Int} {l:List Nat} (nd:l.Nodup) (hp:ms.Perm (l.map fun n:Nat=>(n:Int))) (hw:ms.Pairwise fun a b=> ¬b<a): ∃P:List Nat,ms.map V.int=ins P/\P.Perm l/\P.Pairwise (· < ·):=by
 have sS: ∀m∈ms, ∃n:Nat,m=n:=fun m hm=>by
  obtain ⟨n,_,rfl⟩:=UQ.mp (hp.mem_iff.mp hm)
  exact ⟨n,rfl⟩
 have e1:ms=(ms.map Int.toNat).map fun n:Nat=>(n:Int):=by
  rw[Vj]
  refine (Xz ms).symm.trans (Wx fun m hm=>?_)
  obtain ⟨n,rfl⟩:=sS m hm
  exact (congrArg _ (PB n)).symm
 have p1:(ms.map Int.toNat).Perm l:=by
  have:=hp.map Int.toNat
  rw[Vj]at this
  have e2:l.map (Int.toNat ∘ fun n:Nat=>(n:Int))=l:=(Wx fun n _=>PB n).trans (Xz l)
  rwa [e2]at this
 refine ⟨ms.map Int.toNat,?_,p1,?_⟩
 ·unfold ins
  conv=>lhs;rw[e1]
  rw[Vj]
  rfl
 ·have Mw:(ms.map Int.toNat).Nodup:=p1.nodup_iff.mpr nd
  have R6:(ms.map Int.toNat).Pairwise fun a b=> ¬b<a:=by
   rw[e1,Vo]at hw
   exact hw.imp fun h z=>h (by omega)
  refine Xq (fun {a b} h=>?_) (List.Pairwise.and R6 Mw)
  have:=h.1
  have:=h.2
  omega
theorem BX {st:Nat->Nat} {P:List Nat} {k p:Nat} (h:P[k]? =some p):C2 st (P.take k) (P.drop k)=zA st (P.take k) (P.drop (k+1)) p+C2 st (P.take (k+1)) (P.drop (k+1)):=by
 obtain ⟨hk,e⟩:=GK.mp h
 rw[Vf hk,e]
 show zA st _ _ p+C2 st (P.take k++[p]) _=_
 rw[take_snoc h]
theorem LP {n k:Nat} (h:k<n):seqIndex? (k:Int) n=some k:=by
 unfold seqIndex?
 simp
 omega
theorem qz: ∀(l:List Nat) (k:Nat),(ins l).eraseIdx k=ins (l.eraseIdx k)
 | [],_=>rfl
 | _::_,0=>rfl
 | a::l,k+1=>congrArg (V.int (a:Nat):: ·) (qz l k)
noncomputable def cst (y w:List Nat) (i:Int):Int:=uh y (aD (rd w (i - 1))) (rd w i)
theorem BY (y w:List Nat) (p k:Int):dW y (sq w p) k=cst y w (p+k):=by
 unfold dW cst sq
 rw[show p+(k - 1)=p+k - 1 by omega]
noncomputable def uZ (n:Int):Nat:=(48+n).toNat
noncomputable def stx (y w:List Nat):List Nat:=(List.range w.length).map fun i:Nat=>uZ (cst y w i)
theorem cN (y w:List Nat):(stx y w).length=w.length:=by unfold stx;rw[Py,WG]
theorem HC: ∀n:Nat,n<10->dg n=[48+n]:=by decide+kernel
noncomputable def iE (lg n:Nat):Nat:=3+lg / max n 1
noncomputable def kU (y u:List Nat) (lg r:Nat):List (Str×V):=dm "backward" (.str (S (cM (iE lg u.length) (stx y u).reverse))) (dm "onward" (.str (S (cM (iE lg u.length) (stx y u)))) (dm "leads" (.bl (leads u)) (dm "root_size" (.int r) (dm "size" (.int u.length) []))))
noncomputable def FH (t w:Addr) (p:Nat):List (Str×V):=dm "place" (.int p) (dm "way" (.ref w) (dm "strand" (.ref t) []))
section
variable {y u:List Nat} {lg r:Nat} {t w:Addr} {p:Nat}
theorem x6:(kU y u lg r).lookup ("size":Str)=some (.int u.length):=by
 unfold kU
 rw[aH,if_neg (by decide+kernel),aH,if_neg (by decide+kernel),aH,if_neg (by decide+kernel),aH,if_neg (by decide+kernel),aH,if_pos rfl]
theorem mR:(kU y u lg r).lookup ("root_size":Str)=some (.int r):=by
 unfold kU
 rw[aH,if_neg (by decide+kernel),aH,if_neg (by decide+kernel),aH,if_neg (by decide+kernel),aH,if_pos rfl]
theorem BZ:(kU y u lg r).lookup ("leads":Str)=some (.bl (leads u)):=by
 unfold kU
 rw[aH,if_neg (by decide+kernel),aH,if_neg (by decide+kernel),aH,if_pos rfl]
theorem LQ:(kU y u lg r).lookup ("onward":Str)=some (.str (S (cM (iE lg u.length) (stx y u)))):=by
 unfold kU
 rw[aH,if_neg (by decide+kernel),aH,if_pos rfl]
theorem Es:(kU y u lg r).lookup ("backward":Str)=some (.str (S (cM (iE lg u.length) (stx y u).reverse))):=by
 unfold kU
 rw[aH,if_pos rfl]
theorem ke:(FH t w p).lookup ("place":Str)=some (.int p):=by unfold FH;rw[aH,if_pos rfl]
theorem kW:(FH t w p).lookup ("way":Str)=some (.ref w):=by unfold FH;rw[aH,if_neg (by decide+kernel),aH,if_pos rfl]
theorem qA:(FH t w p).lookup ("strand":Str)=some (.ref t):=by unfold FH;rw[aH,if_neg (by decide+kernel),aH,if_neg (by decide+kernel),aH,if_pos rfl]
end
theorem cJ (f:Str) (v:V): ∀fs:List (Str×V),(dm f v fs).length<=fs.length+1
 | []=>Mq _
 |(g,x)::r=>by
  unfold dm
  split
  ·exact VR _
  ·exact VF (cJ f v r)
structure Sn where
 a:Addr
 t:Addr
 wy:Addr
 c:Nat
 i:Nat
 u:List Nat
 p:Nat
 r:Nat
structure zE (H:Hp) (C a:Addr) (y u:List Nat) (lg r:Nat):Prop where
 ob: ∃dx,H a=some (.ins C dx (kU y u lg r))
 sw:SW y u
 uz:u.length<=lg
 lz:lg<=1000
 rt:bf u r
theorem zE.same {H H':Hp} {C a:Addr} {y u:List Nat} {lg r:Nat} (h:zE H C a y u lg r) (s:ay H H'):zE H' C a y u lg r:=by
 obtain ⟨dx,e⟩:=h.ob
 exact ⟨⟨dx,s _ _ e⟩,h.sw,h.uz,h.lz,h.rt⟩
structure iF (H:Hp) (CW CS:Addr) (y:List Nat) (lg:Nat) (s:Sn):Prop where
 ob: ∃dx,H s.a=some (.ins CS dx (FH s.t s.wy s.p))
 st:H s.t=some (.tup [.int s.c, .int s.i])
 wy:zE H CW s.wy y s.u lg s.r
 pz:s.p<s.u.length
theorem iF.same {H H':Hp} {CW CS:Addr} {y:List Nat} {lg:Nat} {s:Sn} (h:iF H CW CS y lg s) (sm:ay H H'):iF H' CW CS y lg s:=by
 obtain ⟨dx,e⟩:=h.ob
 exact ⟨⟨dx,sm _ _ e⟩,sm _ _ h.st,h.wy.same sm,h.pz⟩
noncomputable def z5 (y:List Nat) (lg:Nat) (s:Sn):List Nat:=(cM (iE lg s.u.length) (stx y s.u)).drop (s.p+1)
noncomputable def z6 (y:List Nat) (lg:Nat) (s:Sn):List Nat:=(cM (iE lg s.u.length) (stx y s.u).reverse).drop (s.u.length - 1 - s.p)
noncomputable def seg (l:List Nat) (x z:Nat):List Nat:=(l.drop x).take (z - x)
def gW (_:PySem.W.Frag):Sp:=fun vs H Q _=> ∃(y w:List Nat) (i:Nat),vs=[.str (S y), .str (S w), .int i]/\Yd y/\y.length<=8/\SW y w/\w.length<=1000/\i<w.length/\ ∀(n:Nat) H',cst y w i=n->n<8->ay H H'->Q (.int n) H'
theorem kX {K:PySem.W.Frag} {vs:List V} {H:Hp} {Q:VK} {E:XK} (h:gW K vs H Q E):vs.length=3:=by obtain ⟨_,_,_,rfl,_⟩:=h;rfl
def uC (_:PySem.W.Frag) (C:Addr):Sp:=fun vs H Q _=> ∃(x dx:Addr) (y w:List Nat) (lg:Nat),vs=[.ref x, .str (S y), .str (S w), .int lg]/\H x=some (.ins C dx [])/\Yd y/\y.length<=8/\SW y w/\w.length<=lg/\lg<=1000/\ ∀(r:Nat) H',bf w r->H' x=some (.ins C dx (kU y w lg r))->aR x H H'->Q .fq H'
theorem zF {K:PySem.W.Frag} {C:Addr} {vs:List V} {H:Hp} {Q:VK} {E:XK} (h:uC K C vs H Q E):vs.length=4:=by obtain ⟨_,_,_,_,_,rfl,_⟩:=h;rfl
def qB (_:PySem.W.Frag) (C:Addr):Sp:=fun vs H Q _=> ∃(x dx t w:Addr) (p:Nat),vs=[.ref x, .ref t, .ref w, .int p]/\H x=some (.ins C dx [])/\ ∀H',H' x=some (.ins C dx (FH t w p))->aR x H H'->Q .fq H'
theorem wz {K:PySem.W.Frag} {C:Addr} {vs:List V} {H:Hp} {Q:VK} {E:XK} (h:qB K C vs H Q E):vs.length=4:=by obtain ⟨_,_,_,_,_,rfl,_⟩:=h;rfl
def fB (_:PySem.W.Frag) (CW CS:Addr):Sp:=fun vs H Q _=> ∃(y:List Nat) (lg:Nat) (s:Sn) (x z:Nat),vs=[.ref s.a, .int x, .int z]/\y.length<=8/\iF H CW CS y lg s/\x<=z/\Q (.str (S (seg (z5 y lg s) x z))) H
theorem mj {K:PySem.W.Frag} {CW CS:Addr} {vs:List V} {H:Hp} {Q:VK} {E:XK} (h:fB K CW CS vs H Q E):vs.length=3:=by obtain ⟨_,_,_,_,_,rfl,_⟩:=h;rfl
def fV (_:PySem.W.Frag) (CW CS:Addr):Sp:=fun vs H Q _=> ∃(y:List Nat) (lg:Nat) (s:Sn) (x z:Nat),vs=[.ref s.a, .int x, .int z]/\y.length<=8/\iF H CW CS y lg s/\x<=z/\Q (.str (S (seg (z6 y lg s) x z))) H
theorem nW {K:PySem.W.Frag} {CW CS:Addr} {vs:List V} {H:Hp} {Q:VK} {E:XK} (h:fV K CW CS vs H Q E):vs.length=3:=by obtain ⟨_,_,_,_,_,rfl,_⟩:=h;rfl
theorem Et {l:List Nat} {a b:Nat} (h:a<=b):cut l (some (a:Int)) (some (b:Int))=(l.drop a).take (b - a):=by
 unfold cut
 rw[HT.fJ,HT.fJ]
 by_cases z:a<=l.length
 ·rw[Vd z]
  by_cases z2:b<=l.length
  ·rw[Vd z2]
  ·rw[Vn (by omega),UR (by rw[US];omega),UR (by rw[US];omega)]
 ·rw[Vn (by omega),Vn (by omega),Vx (Mq _),Vx (by omega)]
  simp
theorem x8 {l:List Nat} {f x z:Nat} (h:x<=z):cut l (some ((f:Int)+x)) (some ((f:Int)+z))=seg (l.drop f) x z:=by
 rw[show (f:Int)+x=((f+x:Nat):Int) by omega,show (f:Int)+z=((f+z:Nat):Int) by omega,Et (by omega)]
 unfold seg
 rw[List.drop_drop,show f+z - (f+x)=z - x by omega]
theorem kf {lg n:Nat} (h:1<=n):n*iE lg n<=3*n+lg/\2*n+lg<n*iE lg n:=by
 unfold iE
 rw[VW h,Nat.mul_add]
 have h1:=V_ lg n
 have h2:=Wa lg (show 0<n by omega)
 omega
theorem qC (m:Nat) (l:List Nat):(cM m l).length=l.length*m:=by
 unfold cM
 rw[List.length_flatten,List.map_replicate,List.sum_replicate_nat,VD]
theorem SW.de {y w:List Nat} (hy:Yd y) (h:SW y w):My.de w=eW w:=by unfold My.de;rw[h.core hy]
theorem se (l:List Nat) (x z j:Nat):(seg l x z)[j]? =if j<z - x then l[x+j]? else none:=by
 unfold seg
 rw[Wb]
 split
 ·rw[VJ]
 ·rfl
theorem wA {l m:List Nat} {x z:Nat}:seg l x (x+z)=seg m x (x+z)↔ ∀k,x<=k->k<x+z->l[k]? =m[k]?:= by
 constructor
 ·intro h k h1 h2
  have:=congrArg (·[k - x]?) h
  simp only[se]at this
  rwa [if_pos (by omega),if_pos (by omega),show x+(k - x)=k by omega]at this
 ·intro h
  refine Xo fun j=>?_
  rw[se,se]
  by_cases z':j<x+z - x
  ·rw[if_pos z',if_pos z',h (x+j) (by omega) (by omega)]
  ·rw[if_neg z',if_neg z']
noncomputable def HD (b:Bool) (y:List Nat) (lg:Nat) (s:Sn):List Nat:=if b=true then z5 y lg s else z6 y lg s
def iG (l m:List Nat) (n:Nat):Prop:= ∀k,k<n->l[k]? =m[k]?
def nX (_:PySem.W.Frag) (CW CS fa fb:Addr):Sp:=fun vs H Q _=> ∃(y:List Nat) (lg:Nat) (s t:Sn) (b:Bool) (en:Nat),vs=[.ref (if b=true then fa else fb), .ref s.a, .ref t.a, .int en]/\y.length<=8/\iF H CW CS y lg s/\iF H CW CS y lg t/\en<=100000/\ ∀m:Nat,iG (HD b y lg s) (HD b y lg t) m->(en<=m\/(HD b y lg s)[m]?≠ (HD b y lg t)[m]?)->Q (.int m) H
theorem uD {K:PySem.W.Frag} {CW CS fa fb:Addr} {vs:List V} {H:Hp} {Q:VK} {E:XK} (h:nX K CW CS fa fb vs H Q E):vs.length=4:=by obtain ⟨_,_,_,_,_,_,rfl,_⟩:=h;rfl
theorem iG.more {l m:List Nat} {x z:Nat} (h:iG l m x) (e:seg l x (x+z)=seg m x (x+z)):iG l m (x+z):=fun k hk=>by
 by_cases q:k<x
 ·exact h k q
 ·exact wA.mp e k (by omega) hk
theorem B2 {l m:List Nat} {x z:Nat} (h:seg l x (x+z)≠seg m x (x+z)): ∃k,x<=k/\k<x+z/\l[k]?≠ m[k]?:= Classical.byContradiction fun q=>h (wA.mpr fun k h1 h2=>Classical.byContradiction fun r=>q ⟨k,h1,h2,r⟩)
noncomputable def wB (s:Sn):Int×Int:=if leads s.u=true then ((s.c:Int),((s.p / s.r:Nat):Int)) else (-(s.c:Int), -(((s.u.length - 1 - s.p) / s.r:Nat):Int))
def nY (_:PySem.W.Frag) (CW CS:Addr):Sp:=fun vs H Q _=> ∃(y:List Nat) (lg:Nat) (s:Sn),vs=[.ref s.a]/\iF H CW CS y lg s/\ ∀p H',H p=none->H' p=some (.tup [.int (wB s).1, .int (wB s).2])->ay H H'->Q (.ref p) H'
theorem uE {K:PySem.W.Frag} {CW CS:Addr} {vs:List V} {H:Hp} {Q:VK} {E:XK} (h:nY K CW CS vs H Q E):vs.length=1:=by obtain ⟨_,_,_,rfl,_⟩:=h;rfl
noncomputable def i_ (y:List Nat) (M:Nat) (s:Sn):List Int:=kk y (sq s.u s.p) 0 M++[(wB s).1,(wB s).2]
def iH (_:PySem.W.Frag) (CW CS:Addr):Sp:=fun vs H Q _=> ∃(y:List Nat) (lg:Nat) (s t:Sn),vs=[.ref s.a, .ref t.a]/\Yd y/\y.length<=8/\iF H CW CS y lg s/\iF H CW CS y lg t/\rd s.u s.p=rd t.u t.p/\ ∀H',ay H H'->Q (.bl (bp (i_ y (2*lg) s) (i_ y (2*lg) t))) H'
theorem ml {K:PySem.W.Frag} {CW CS:Addr} {vs:List V} {H:Hp} {Q:VK} {E:XK} (h:iH K CW CS vs H Q E):vs.length=2:=by obtain ⟨_,_,_,_,rfl,_⟩:=h;rfl
theorem iI {u:List Nat} {r:Nat} (hn:u≠[]) (h:bf u r):1<=r/\r<=u.length:=by
 rcases h with ⟨z,_⟩ | ⟨h1,h2,_⟩
 ·exact absurd z hn
 ·exact ⟨h1,h2⟩
theorem x9 {y u:List Nat} {i:Nat} (h:i<u.length):(stx y u)[i]? =some (uZ (cst y u i)):=by
 unfold stx
 rw[UI,List.getElem?_range h]
 rfl
theorem sg (y u:List Nat) (i:Int):cst y u (i%u.length)=cst y u i:=by
 unfold cst
 rw[gG, <-gG u (i%u.length - 1),Xr,Wr _ (Int.dvd_refl _), <-Xr,gG]
theorem B3 {y:List Nat} {lg:Nat} {s:Sn} (hn:s.u≠[]) {k:Nat} (h:s.p+1+k<s.u.length*iE lg s.u.length):(z5 y lg s)[k]? =some (uZ (dW y (sq s.u s.p) (k+1))):=by
 have hp:=IC.mpr hn
 unfold z5
 rw[VJ,jX _ _ _ (by rw[cN,VD];exact h),cN,x9 (Wa _ hp),BY,Wo,sg]
 congr 3
 omega
theorem B4 {y:List Nat} {lg:Nat} {s:Sn} (hn:s.u≠[]) (hp:s.p<s.u.length) {k:Nat} (h:s.u.length - 1 - s.p+k<s.u.length*iE lg s.u.length):(z6 y lg s)[k]? =some (uZ (dW y (sq s.u s.p) (-(k:Int)))):=by
 have hl:=IC.mpr hn
 unfold z6
 rw[VJ,jX _ _ _ (by rw[UY,cN,VD];exact h),UY,cN]
 have hm:=Wa (s.u.length - 1 - s.p+k) hl
 rw[Wm (by rw[cN];exact hm),cN,x9 (by omega),BY]
 congr 2
 rw[<-sg y s.u (s.p+ -(k:Int)), <-sg y s.u ((s.u.length - 1 - (s.u.length - 1 - s.p+k)%s.u.length:Nat):Int)]
 congr 1
 have e:((s.u.length - 1 - (s.u.length - 1 - s.p+k)%s.u.length:Nat):Int)=(s.u.length:Int) - 1 - ((s.u.length:Int) - 1 - s.p+k)%s.u.length:=by
  have:(((s.u.length - 1 - s.p+k)%s.u.length:Nat):Int)=((s.u.length:Int) - 1 - s.p+k)%s.u.length:=by
   rw[Wo];congr 1;omega
  omega
 rw[e,Xr,Wr _ (Int.dvd_refl _), <-Xr]
 congr 1
 omega
theorem qD {lg:Nat} {s:Sn} {en:Nat} (hp:s.p<s.u.length) (he:en<=s.u.length+lg):s.p+1+en<s.u.length*iE lg s.u.length+1/\s.u.length - 1 - s.p+en<s.u.length*iE lg s.u.length:=by
 have:=(kf (lg:=lg) (n:=s.u.length) (by omega)).2
 omega
theorem x_ {u:List Nat} {r:Nat} (hn:u≠[]) (h:bf u r) (p k:Int):sq u p (k+r)=sq u p k:=by
 have:=((eO hn h).2 (p+r) p).mpr (by rw[show p+(r:Int) - p=r by omega,XD])
 have e:=this k
 unfold sq at e ⊢
 rw[show p+(k+r)=p+r+k by omega]
 exact e
theorem yf {a b:Int} (ha:0<=a) (hb:0<=b) (h:uZ a=uZ b):a=b:=by unfold uZ at h;omega
theorem B5 {a b:Int} (ha:0<=a) (hb:0<=b):uZ a<uZ b↔a<b:=by unfold uZ;omega
theorem yg {y:List Nat} {f:Int->Nat} (hy:Yd y) (h:gS y f) (k:Int):0<=dW y f k:=by
 have:=(dX (hy.cl _ (h.bL (k - 1))) (h.bL k) (Ne.symm (h.red k))).1
 unfold dW
 omega
theorem yh {l m:List Nat} {en a n:Nat} (ha:a<en) (h1: ∀k,k<a->l[k]? =m[k]?) (h2:l[a]?≠ m[a]?) (g1:iG l m n) (g2:en<=n\/l[n]?≠ m[n]?):n=a:=by
 by_cases z:a<n
 ·exact absurd (g1 a z) h2
 ·by_cases z2:n<a
  ·rcases g2 with g2 | g2
   ·omega
   ·exact absurd (h1 n z2) g2
  ·omega
theorem yi {l m:List Nat} {en n:Nat} (h1: ∀k,k<en->l[k]? =m[k]?) (g2:en<=n\/l[n]?≠ m[n]?):en<=n:=by
 rcases g2 with g2 | g2
 ·exact g2
 ·exact Classical.byContradiction fun z=>g2 (h1 n (by omega))
theorem mS {l:List Nat} {a x:Nat} (h:l[a]? =some x):seg l a (a+1)=[x]:=by
 obtain ⟨ha,e⟩:=GK.mp h
 unfold seg
 rw[Vf ha,e,show a+1 - a=1 by omega]
 rfl
theorem B6 (x z:Nat):decide ([x]<[z])=decide (x<z):=decide_eq_decide.mpr ⟨fun h=>(W5.mp h).elim id fun q=>absurd q.2 (Wf _),fun h=>W5.mpr (.inl h)⟩
theorem Eu (a b c d:Int):CY a b c d=bp [a,b] [c,d]:=by
 unfold CY
 show _=if a=c then (if b=d then bp [] [] else decide (b<d)) else decide (a<c)
 by_cases z:a=c
 ·rw[if_pos z,if_pos z]
  by_cases q:b=d
  ·rw[if_pos q,q];simp[bp]
  ·rw[if_neg q]
 ·rw[if_neg z,if_neg z]
noncomputable def yj (ss:List Sn):List V:=ss.map fun s=>V.ref s.a
theorem kg (ss:List Sn):(yj ss).length=ss.length:=by unfold yj;rw[Py]
theorem HE {ss:List Sn} {i:Nat} {s:Sn} (h:ss[i]? =some s):(yj ss)[i]? =some (V.ref s.a):=by unfold yj;rw[UI,h];rfl
theorem Ew {ss:List Sn} {i:Nat} {x:V} (h:(yj ss)[i]? =some x): ∃s,ss[i]? =some s/\x=V.ref s.a:=by
 unfold yj at h
 rw[UI]at h
 cases e:ss[i]? with
 | none=>rw[e]at h;cases h
 | some p=>rw[e]at h;cases h;exact ⟨p,rfl,rfl⟩
def zG (y:List Nat) (M:Nat) (ss:List Sn):Prop:=ss.Pairwise fun s t=>bp (i_ y M t) (i_ y M s)=false
def gX (_:PySem.W.Frag) (CW CS:Addr):Sp:=fun vs H Q _=> ∃(y:List Nat) (lg:Nat) (a:Addr) (ss:List Sn) (t:Sn),vs=[.ref a, .ref t.a]/\Yd y/\y.length<=8/\H a=some (.lst (yj ss))/\(∀s∈ss,iF H CW CS y lg s/\rd s.u s.p=rd t.u t.p)/\iF H CW CS y lg t/\zG y (2*lg) ss/\ss.length<=100000/\
 ∀(n:Nat) H',n<=ss.length->(∀k s,ss[k]? =some s->k<n->bp (i_ y (2*lg) s) (i_ y (2*lg) t)=true)->(∀k s,ss[k]? =some s->n<=k->bp (i_ y (2*lg) s) (i_ y (2*lg) t)=false)->ay H H'->Q (.int n) H'
theorem kY {K:PySem.W.Frag} {CW CS:Addr} {vs:List V} {H:Hp} {Q:VK} {E:XK} (h:gX K CW CS vs H Q E):vs.length=2:=by obtain ⟨_,_,_,_,_,rfl,_⟩:=h;rfl
structure Wp where
 t:Addr
 a:Addr
 b:Addr
 r:Nat
 q:Nat
noncomputable def C3 (l:List Wp):List V:=l.map fun p=>V.ref p.t
theorem B7 {l:List Wp} {i:Nat} {p:Wp} (h:l[i]? =some p):(C3 l)[i]? =some (V.ref p.t):=by unfold C3;rw[UI,h];rfl
theorem B8 (l:List Wp) (p:Wp):C3 l++[V.ref p.t]=C3 (l++[p]):=by unfold C3;rw[Rn];rfl
structure si (H:Hp) (C:Addr) (y:List Nat) (lg:Nat) (w:List Nat) (p:Wp):Prop where
 tp:H p.t=some (.tup [.ref p.a, .ref p.b])
 on:zE H C p.a y w lg p.r
 bk:zE H C p.b y (cT w) lg p.q
theorem si.same {H H':Hp} {C:Addr} {y:List Nat} {lg:Nat} {w:List Nat} {p:Wp} (h:si H C y lg w p) (s:ay H H'):si H' C y lg w p:=⟨s _ _ h.tp,h.on.same s,h.bk.same s⟩
structure wC (w:List Nat) (c i:Nat) (s:Sn):Prop where
 ec:s.c=c
 ei:s.i=i
 eu:s.u=if az (rd w i)=true then w else cT w
 ep:s.p=if az (rd w i)=true then i else w.length - 1 - i
def iJ (_:PySem.W.Frag) (CW CS:Addr):Sp:=fun vs H Q _=> ∃(y:List Nat) (lg:Nat) (wt vt st:Addr) (w:List Nat) (ws:List (List Nat)) (kz:List Wp) (p:Wp) (c i:Nat),vs=[.ref wt, .ref vt, .ref st]/\Yd y/\H wt=some (.tup (iR ws))/\H vt=some (.lst (C3 kz))/\H st=some (.tup [.int c, .int i])/\ws[c]? =some w/\kz[c]? =some p/\si H CW y lg w p/\i<w.length/\
 ∀(s:Sn) H',wC w c i s->s.t=st->iF H' CW CS y lg s->H s.a=none->ay H H'->Q (.ref s.a) H'
theorem mm {K:PySem.W.Frag} {CW CS:Addr} {vs:List V} {H:Hp} {Q:VK} {E:XK} (h:iJ K CW CS vs H Q E):vs.length=3:=by obtain ⟨_,_,_,_,_,_,_,_,_,_,_,rfl,_⟩:=h;rfl
def jf (_:PySem.W.Frag):Sp:=fun vs H Q _=> ∃(wt:Addr) (ws:List (List Nat)) (band:Nat),vs=[.ref wt, .str (S [band])]/\H wt=some (.tup (iR ws))/\ws.length<=4/\(∀w∈ws,(∀c∈w,Lt c)/\w.length<=12)/\band∈aX/\ ∀(q:Addr) (ps:List Pr) (H':Hp),H q=none->H' q=some (.lst (qv ps))->(∀p∈ps,mh H' p)->ps.map Pr.pair=cI band ws ws.length->ay H H'->Q (.ref q) H'
theorem nZ {K:PySem.W.Frag} {vs:List V} {H:Hp} {Q:VK} {E:XK} (h:jf K vs H Q E):vs.length=2:=by obtain ⟨c,_,_,rfl,_⟩:=h;rfl
open Classical in
noncomputable def HF (w:List Nat):Nat:=if h: ∃s,bf w s then choose h else 0
theorem kZ {w:List Nat} (hn:w≠[]):bf w (HF w):=by
 have h:=xF hn
 unfold HF
 rw[dif_pos h]
 exact Classical.choose_spec h
theorem B9 {y w:List Nat} {r q:Nat} (hy:Yd y) (hw:SW y w) (h:bf w r) (g:bf (cT w) q):q=r:=by
 have hn:=hw.ne
 have ht:=kP hn
 have p1:=iI hn h
 have p2:=iI ht g
 have key: ∀d:Nat,(d:Int)%(r:Int)=0↔(d:Int)%(q:Int)=0:=fun d=>by
  have a:=(eO hn h).2 d 0
  have b:=(eO ht g).2 d 0
  rw[Wi]at a b
  rw[<-a, <-b]
  constructor
  ·intro p k
   rw[fN hn,fN hn]
   unfold bq
   have:=p (-1 - (d:Int) - k)
   unfold sq at this
   have e1:rd w (-1 - (0:Int) - k)=rd w ((d:Int)+(-1 - (d:Int) - k)):=by congr 1;omega
   have e2:rd w (-1 - (d:Int) - k)=rd w (0+(-1 - (d:Int) - k)):=by congr 1;omega
   rw[e1,e2,this]
  ·intro p k
   have e: ∀x:Int,rd w x=aD (rd (cT w) (-1 - x)):=fun x=>by
    rw[gI hn,show -1 - (-1 - x)=x by omega,aN (hy.lt _ (hw.rd _))]
   unfold sq
   rw[e,e]
   have:=p (-1 - (d:Int) - k)
   unfold sq at this
   rw[show -1 - ((d:Int)+k)=0+(-1 - (d:Int) - k) by omega, <-this]
   congr 2
   omega
 have a:=(key r).mp (XD)
 have b:=(key q).mpr (XD)
 have a':r%q=0:=by
  have:((r%q:Nat):Int)=0:=by rw[<-a];rfl
  omega
 have b':q%r=0:=by
  have:((q%r:Nat):Int)=0:=by rw[<-b];rfl
  omega
 exact W2 (Xc (by omega) (VE a')) (Xc (by omega) (VE b'))
noncomputable def B_ (ws:List (List Nat)) (c:Nat):Bool:=leads (ws.getD c [])
noncomputable def Ca (ws:List (List Nat)) (c:Nat):Nat:=HF (ws.getD c [])
noncomputable def MB (y:List Nat) (ws:List (List Nat)) (M:Nat) (x:Nat×Nat):List Int:=cf y ws (B_ ws) (Ca ws) M x.1 x.2
theorem wC.line {y w:List Nat} {c i:Nat} {s:Sn} (hy:Yd y) (hw:SW y w) (hi:i<w.length) (h:wC w c i s):sq s.u s.p=ky w i:=by
 rw[h.eu,h.ep]
 unfold ky
 by_cases z:az (rd w i)=true
 ·rw[if_pos z,if_pos z,if_pos z]
 ·rw[if_neg z,if_neg z,if_neg z, <-He hw.ne,show ((w.length - 1 - i:Nat):Int)=(w.length:Int) - 1 - i by omega]
theorem yk {y w:List Nat} {ws:List (List Nat)} {c i M:Nat} {s:Sn} (hy:Yd y) (hw:SW y w) (hi:i<w.length) (e:ws.getD c []=w) (h:wC w c i s) (rt:bf s.u s.r):i_ y M s=MB y ws M (c,i):=by
 unfold i_ MB cf
 rw[h.line hy hw hi]
 simp only[e]
 congr 1
 unfold wB CZ B_ Ca
 rw[e,h.ec]
 have qR:=kZ hw.ne
 by_cases z:az (rd w i)=true
 ·have eu:s.u=w:=by rw[h.eu,if_pos z]
  have ep:s.p=i:=by rw[h.ep,if_pos z]
  rw[eu]at rt ⊢
  have er:=A9 hw.ne rt qR
  rw[er,ep,z]
  by_cases l:leads w=true
  ·rw[if_pos l,l];rfl
  ·rw[if_neg l,if_neg (fun q=>l q.symm)];rfl
 ·have eu:s.u=cT w:=by rw[h.eu,if_neg z]
  have ep:s.p=w.length - 1 - i:=by rw[h.ep,if_neg z]
  rw[eu]at rt ⊢
  have er:=B9 hy hw qR rt
  have z':az (rd w i)=false:=by simpa using z
  rw[er,ep,z',qt hy hw,bN]
  have ei:w.length - 1 - (w.length - 1 - i)=i:=by omega
  rw[ei]
  cases leads w<;>rfl
theorem wC.band {y w:List Nat} {c i band:Nat} {s:Sn} (hy:Yd y) (hw:SW y w) (hi:i<w.length) (hb:band∈aX) (ho:we band (rd w i)=true) (h:wC w c i s):rd s.u s.p=band:=by
 have lb:Lt band:= .inl hb
 have lo:az band=true:=by rw[iT lb];exact decide_eq_true hb
 have Dc:rd w i=band\/rd w i=aD band:=by
  unfold we at ho
  simpa using ho
 rw[h.eu,h.ep]
 rcases Dc with e | e
 ·rw[if_pos (by rw[e];exact lo),if_pos (by rw[e];exact lo)]
  exact e
 ·have z: ¬az (rd w i)=true:=by rw[e,fg _ lb.mem,lo];decide
  rw[if_neg z,if_neg z,gI hw.ne,show -1 - ((w.length - 1 - i:Nat):Int)=i - w.length by omega,vW,e,aN lb]
def Cb (y:List Nat) (ws:List (List Nat)) (M:Nat) (l:List (Nat×Nat)):Prop:=l.Pairwise fun s t=>bp (MB y ws M t) (MB y ws M s)=false
def jg (_:PySem.W.Frag) (CW CS:Addr):Sp:=fun vs H Q _=> ∃(y:List Nat) (lg:Nat) (wt vt:Addr) (ws:List (List Nat)) (kz:List Wp) (band:Nat),vs=[.ref wt, .ref vt, .str (S [band])]/\Yd y/\y.length<=8/\H wt=some (.tup (iR ws))/\ws.length<=4/\(∀w∈ws,SW y w/\w.length<=12)/\band∈aX/\H vt=some (.lst (C3 kz))/\kz.length=ws.length/\(∀(c:Nat) (w:List Nat) (p:Wp),ws[c]? =some w->kz[c]? =some p->si H CW y lg w p)/\
 ∀(q:Addr) (ps:List Pr) (H':Hp),H q=none->H' q=some (.tup (qv ps))->(∀p∈ps,mh H' p)->(ps.map Pr.pair).Perm (cI band ws ws.length)->Cb y ws (2*lg) (ps.map Pr.pair)->ay H H'->Q (.ref q) H'
theorem n5 {K:PySem.W.Frag} {CW CS:Addr} {vs:List V} {H:Hp} {Q:VK} {E:XK} (h:jg K CW CS vs H Q E):vs.length=3:=by obtain ⟨_,_,_,_,_,_,_,rfl,_⟩:=h;rfl
theorem HG {y:List Nat} {M:Nat} {ss:List Sn} {t:Sn} {n:Nat} (up:zG y M ss) (h1: ∀k s,ss[k]? =some s->k<n->bp (i_ y M s) (i_ y M t)=true) (h2: ∀k s,ss[k]? =some s->n<=k->bp (i_ y M s) (i_ y M t)=false):zG y M (ss.take n++t::ss.drop n):=by
 have tk: ∀s∈ss.take n,bp (i_ y M s) (i_ y M t)=true:=fun s hs=>by
  obtain ⟨k,hk,e⟩:=Wy hs
  rw[UB]at hk
  rw[List.getElem_take]at e
  exact h1 k s (by rw[<-e];exact GJ (by omega)) (by omega)
 have dr: ∀s∈ss.drop n,bp (i_ y M s) (i_ y M t)=false:=fun s hs=>by
  obtain ⟨k,hk,e⟩:=Wy hs
  rw[US]at hk
  rw[List.getElem_drop]at e
  exact h2 (n+k) s (by rw[<-e];exact GJ (by omega)) (by omega)
 have Oy:zG y M (ss.take n++ss.drop n):=by rw[Vz];exact up
 unfold zG at Oy ⊢
 rw[VN]at Oy ⊢
 rw[VI]
 obtain ⟨u1,u2,u3⟩:=Oy
 refine ⟨u1,⟨fun s hs=>dr s hs,u2⟩,fun a ha b hb=>?_⟩
 rcases T3.mp hb with e | e
 ·rw[e];exact (kM (tk a ha)).1
 ·exact u3 a ha b e
theorem iK (band:Nat) {ws:List (List Nat)} (hw: ∀w∈ws,w.length<=12): ∀n,n<=ws.length->(cI band ws n).length<=12*n
 | 0,_=>T6 _
 | n+1,h=>by
  have ih:=iK band hw n (by omega)
  unfold cI at ih ⊢
  rw[Vq,Vc,Rk,Wg]
  have h1:(gT band n (ws.getD n []) (ws.getD n []).length).length<=12:=by
   unfold gT
   rw[Py]
   refine UW (W4 _ _) ?_
   rw[WG]
   exact hw _ (getD_in (by omega))
  omega
theorem wD {band:Nat} {ws:List (List Nat)} {x:Nat×Nat} (h:x∈cI band ws ws.length): ∃w,ws[x.1]? =some w/\x.2<w.length/\we band (rd w x.2)=true:=by
 unfold cI at h
 obtain ⟨c,hc,h⟩:=U5.mp h
 have oT:=Vp.mp hc
 unfold gT at h
 obtain ⟨i,hi,e⟩:=UQ.mp h
 obtain ⟨i1,i2⟩:=U7.mp hi
 have Qa:=Vp.mp i1
 subst e
 refine ⟨ws.getD c [],by rw[Ro,GJ oT];rfl,Qa,?_⟩
 have:(ws.getD c []).getD i 0=rd (ws.getD c []) i:=by
  have:=kL Qa
  rw[Ro,this];rfl
 show we band (rd (ws.getD c []) i)=true
 rw[<-this]
 exact i2
theorem qE {H H':Hp} {x dx C:Addr} (nx:H x=none) (HH:H dx=none) (sm:aR x (L2.upd (L2.upd H dx (.own x)) x (.ins C dx [])) H'):ay H H':=fun a o e=>by
 refine sm a o ?_ (aq e nx)
 rw[au (aq e nx),au (aq e HH)]
 exact e
noncomputable def Ex (ws:List (List Nat)):List Int:=ws.map fun w=>(w.length:Int)
theorem Ey (l:List Int): ∀a:Int,a<=l.foldl (fun x y=>if y>x then y else x) a/\(∀x∈l,x<=l.foldl (fun x y=>if y>x then y else x) a)/\(l.foldl (fun x y=>if y>x then y else x) a=a\/l.foldl (fun x y=>if y>x then y else x) a∈l):=by
 induction l with
 | nil=>exact fun a=>⟨Int.le_refl _,fun _ h=>absurd h UP, .inl rfl⟩
 | cons b r ih=>
  intro a
  rw[Wv]
  obtain ⟨h1,h2,h3⟩:=ih (if b>a then b else a)
  have h4:a<=(if b>a then b else a)/\b<=(if b>a then b else a):=by split<;>omega
  refine ⟨by omega,fun x hx=>?_,?_⟩
  ·rcases T3.mp hx with e | e
   ·rw[e];omega
   ·exact h2 x e
  ·rcases h3 with e | e
   ·rw[e]
    split
    ·exact .inr UA
    ·exact .inl rfl
   ·exact .inr (T5 _ e)
theorem wF {ws:List (List Nat)} (h: ∀w∈ws,w.length<=12): ∃lg:Nat,G7 0 (Ex ws)=lg/\lg<=12/\ ∀w∈ws,w.length<=lg:=by
 cases ws with
 | nil=>exact ⟨0,rfl,by decide,fun _ h=>absurd h UP⟩
 | cons v r=>
  obtain ⟨h1,h2,h3⟩:=Ey (Ex r) (v.length:Int)
  have e:G7 0 (Ex (v::r))=(Ex r).foldl (fun x y=>if y>x then y else x) (v.length:Int):=rfl
  rw[e]
  generalize (Ex r).foldl (fun x y=>if y>x then y else x) (v.length:Int)=m at*
  have hm: ∃w∈v::r,m=(w.length:Int):=by
   rcases h3 with q | q
   ·exact ⟨v,UA,q⟩
   ·obtain ⟨w,hw,e'⟩:=UQ.mp q
    exact ⟨w,T5 _ hw,e'.symm⟩
  obtain ⟨w,hw,rfl⟩:=hm
  refine ⟨w.length,rfl,h w hw,fun u hu=>?_⟩
  rcases T3.mp hu with q | q
  ·rw[q];omega
  ·have:=h2 _ (UQ.mpr ⟨u,q,rfl⟩)
   omega
def mT (y:List Nat) (ws:List (List Nat)) (os:List Od):Prop:= ∃M,(∀w∈ws, ∀v∈ws,w.length+v.length<=M)/\uu y ws os/\ ∀o∈os,Cb y ws M (o.ps.map Pr.pair)
def yl (_:PySem.W.Frag):Sp:=fun vs H Q _=> ∃(y:List Nat) (wt:Addr) (ws:List (List Nat)),vs=[.str (S y), .ref wt]/\Yd y/\y.length<=8/\H wt=some (.tup (iR ws))/\ws.length<=4/\(∀w∈ws,SW y w/\w.length<=12)/\ ∀(dr:Addr) (os:List Od) (H':Hp),wc H' dr ws os->mT y ws os->ay H H'->Q (.ref dr) H'
theorem Cc {K:PySem.W.Frag} {vs:List V} {H:Hp} {Q:VK} {E:XK} (h:yl K vs H Q E):vs.length=2:=by obtain ⟨_,_,_,rfl,_⟩:=h;rfl
theorem Ez {H:Hp} {C:Addr} {y:List Nat} {lg i:Nat} {ws:List (List Nat)} {kz:List Wp} {w:List Nat} {p:Wp} (hl:kz.length=i) (h: ∀(c:Nat) (w:List Nat) (p:Wp),ws[c]? =some w->kz[c]? =some p->si H C y lg w p) (hw:ws[i]? =some w) (hp:si H C y lg w p): ∀(c:Nat) (w:List Nat) (q:Wp),ws[c]? =some w->(kz++[p])[c]? =some q->si H C y lg w q:=fun c v q hv hq=>by
 by_cases z:c<kz.length
 ·rw[Va z]at hq
  exact h c v q hv hq
 ·rw[Vl (by omega)]at hq
  have:c=i:=by
   have:=(GK.mp hq).1
   simp at this
   omega
  subst this
  rw[hl,Nat.sub_self]at hq
  rw[hw]at hv
  cases hv
  cases hq
  exact hp
theorem uF {y:List Nat} (h:Yd y) {b:Nat} (hb:b∈fi y):b∈aX:=by
 obtain ⟨h1,h2⟩:=U7.mp ((iX y).mem_iff.mp hb)
 rw[iT (h.lt b h1)]at h2
 exact of_decide_eq_true h2
theorem Cd {y:List Nat} {ws:List (List Nat)} {L:Nat->Bool} {r:Nat->Nat} {M:Nat} (h:dI y ws L r M) {c i d j x:Nat} (hc:c<ws.length) (hd:d<ws.length) (hi:i<(ws.getD c []).length) (hj:j<(ws.getD d []).length) (dh:(c,i)≠(d,j)) (hx:az x=true) (e1:rd (ws.getD c []) i=x\/rd (ws.getD c []) i=aD x) (e2:rd (ws.getD d []) j=x\/rd (ws.getD d []) j=aD x):
  bp (cf y ws L r M c i) (cf y ws L r M d j)=true\/bp (cf y ws L r M d j) (cf y ws L r M c i)=true:=by
 have hw:=h.sw c hc
 have hv:=h.sw d hd
 have hy:=h.yd
 have lw:=IC.mpr hw.ne
 have lv:=IC.mpr hv.ne
 have xs: ∀{w:List Nat} {k:Nat},SW y w->(rd w k=x\/rd w k=aD x)->Lt x:=fun {w k} hw e=>by
  have h9:97<=x/\x<=122:=by unfold az at hx;simpa using hx
  refine .inl ?_
  have: ∀k,k<26->k+97∈aX:=by decide
  have h8:=this (x - 97) (by omega)
  rwa [show x - 97+97=x by omega]at h8
 have lx:=xs hw e1
 have v8: ∀{w:List Nat} {k:Nat},SW y w->Dl w k (ky w k)/\((rd w k=x\/rd w k=aD x)->ky w k 0=x)/\(ky w k=if az (rd w k)=true then sq w k else bq w k):=fun {w k} hw=>by
  refine ⟨?_,fun e=>?_,rfl⟩
  ·unfold ky
   by_cases z:az (rd w k)=true
   ·rw[if_pos z];exact .inl rfl
   ·rw[if_neg z];exact .inr rfl
  ·unfold ky
   rcases e with e | e
   ·rw[if_pos (by rw[e];exact hx)]
    unfold sq
    rw[WX];exact e
   ·have z: ¬az (rd w k)=true:=by rw[e,fg _ lx.mem,hx];decide
    rw[if_neg z]
    unfold bq
    rw[Wi,e,aN lx]
 obtain ⟨df,f0,fe⟩:=v8 (k:=i) hw
 obtain ⟨R7,g0,ge⟩:=v8 (k:=j) hv
 have lf:=df.v8 hy hw
 have lg:=R7.v8 hy hv
 by_cases par: ∀k,ky (ws.getD c []) i k=ky (ws.getD d []) j k
 ·unfold cf
  rw[show ky (ws.getD c []) i=ky (ws.getD d []) j from funext par,eN,eN]
  by_cases cd:c=d
  ·subst cd
   have ij:i≠j:=fun z=>dh (by rw[z])
   obtain ⟨h1,h2⟩:=h.root hc
   have hr:=h.rp c hc
   -- one and CN same way
   have low:az (rd (ws.getD c []) i)=az (rd (ws.getD c []) j):=by
    by_cases z1:az (rd (ws.getD c []) i)=true<;>by_cases z2:az (rd (ws.getD c []) j)=true
    ·rw[z1,z2]
    ·exfalso
     rw[fe,ge,if_pos z1,if_neg z2]at par
     exact rN hy hw _ _ par
    ·exfalso
     rw[fe,ge,if_neg z1,if_pos z2]at par
     exact rN hy hw _ _ fun k=>(par k).symm
    ·rw[show az (rd (ws.getD c []) i)=false by simpa using z1,show az (rd (ws.getD c []) j)=false by simpa using z2]
   have ps:bE (ws.getD c []) (ws.getD c []) i j:=by
    by_cases z1:az (rd (ws.getD c []) i)=true
    ·have z2:az (rd (ws.getD c []) j)=true:=by rw[<-low];exact z1
     rw[fe,ge,if_pos z1,if_pos z2]at par
     exact par
    ·have z2: ¬az (rd (ws.getD c []) j)=true:=by rw[<-low];exact z1
     rw[fe,ge,if_neg z1,if_neg z2]at par
     have e:=congrArg i9 (funext par)
     rw[<-dB, <-dB,lO hy (bg hw _),lO hy (bg hw _)]at e
     exact fun k=>congrFun e k
   have q:=(h.rr c hc _ _).mp ps
   have Eb:i%r c=j%r c:=by
    have q2:=Int.emod_eq_emod_iff_emod_sub_eq_zero.mpr q
    have q3:((i%r c:Nat):Int)=((j%r c:Nat):Int):=q2
    omega
   have k1:= @v9 (ws.getD c []).length _ (r c) c i j (L c) (az (rd (ws.getD c []) j)) hr h1 hi hj Eb ij
   have k2:= @v9 (ws.getD c []).length _ (r c) c j i (L c) (az (rd (ws.getD c []) j)) hr h1 hj hi Eb.symm (Ne.symm ij)
   rw[low]
   by_cases z:az (rd (ws.getD c []) j)=true
   ·rw[if_pos z]at k1 k2
    rw[k1,k2,decide_eq_true_iff,decide_eq_true_iff]
    omega
   ·rw[if_neg z]at k1 k2
    rw[k1,k2,decide_eq_true_iff,decide_eq_true_iff]
    omega
  ·have hl:L d=if az (rd (ws.getD d []) j)=az (rd (ws.getD c []) i) then L c else !L c:=by
    by_cases z1:az (rd (ws.getD c []) i)=true<;>by_cases z2:az (rd (ws.getD d []) j)=true
    ·rw[z1,z2,if_pos rfl]
     rw[fe,ge,if_pos z1,if_pos z2]at par
     exact (h.l1 c d i j hc hd par).symm
    ·rw[if_neg (fun q=>z2 (q.trans z1))]
     rw[fe,ge,if_pos z1,if_neg z2]at par
     exact h.l2 c d i j hc hd par
    ·rw[if_neg (fun q=>z1 (q.symm.trans z2))]
     rw[fe,ge,if_neg z1,if_pos z2]at par
     have:=h.l2 d c j i hd hc fun k=>(par k).symm
     rw[this,Bool.not_not]
    ·rw[show az (rd (ws.getD c []) i)=false by simpa using z1,show az (rd (ws.getD d []) j)=false by simpa using z2,if_pos rfl]
     rw[fe,ge,if_neg z1,if_neg z2]at par
     have e:=congrArg i9 (funext par)
     rw[<-dB, <-dB,lO hy (bg hw _),lO hy (bg hv _)]at e
     exact (h.l1 c d i j hc hd fun k=>congrFun e k).symm
   have Ay:= @rR (ws.getD c []).length (ws.getD d []).length (r c) (r d) c d i j (L c) (az (rd (ws.getD c []) i)) (az (rd (ws.getD d []) j)) cd
   have w6:L c=if az (rd (ws.getD c []) i)=az (rd (ws.getD d []) j) then L d else !L d:=by
    rw[hl]
    cases az (rd (ws.getD d []) j)<;>cases az (rd (ws.getD c []) i)<;>cases L c<;>rfl
   have Hu:= @rR (ws.getD d []).length (ws.getD c []).length (r d) (r c) d c j i (L d) (az (rd (ws.getD d []) j)) (az (rd (ws.getD c []) i)) (Ne.symm cd)
   rw[<-hl]at Ay
   rw[<-w6]at Hu
   rw[Ay,Hu,hl]
   cases az (rd (ws.getD d []) j)<;>cases az (rd (ws.getD c []) i)<;>cases L c<;>simp<;>omega
 ·have rS: ∃k,ky (ws.getD c []) i k≠ky (ws.getD d []) j k:=Classical.byContradiction fun z=>par fun k=>Classical.byContradiction fun w=>z ⟨k,w⟩
  have LJ: ∀{w:List Nat} {k:Nat} (z:Int),ky w k (z+w.length)=ky w k z:=fun {w k} z=>by
   unfold ky
   split
   ·exact cH w k z
   ·exact nM w k z
  obtain ⟨a,b,rn,ha,hb⟩:=cW lw lv LJ LJ ((f0 e1).trans (g0 e2).symm) rS
  have big:=h.big c d hc hd
  unfold cf
  rw[kN hy lf lg rn _ _ M 0 (T6 _) (T6 _) (by omega) (by omega),kN hy lg lf rn.sy _ _ M 0 (T6 _) (T6 _) (by omega) (by omega),Bm hy lf lg (rn.mM a (by omega) (by omega)) rn.hi,wa hy lf lg (rn.mM _ (by omega) (by omega)) rn.lo]
  by_cases z:a<=b
  ·rw[if_pos z,if_pos z]
   cases gk y (ky (ws.getD c []) i) (ky (ws.getD d []) j) a
   ·exact .inr rfl
   ·exact .inl rfl
  ·rw[if_neg z,if_neg z]
   cases gx y (ky (ws.getD c []) i) (ky (ws.getD d []) j) b
   ·exact .inr rfl
   ·exact .inl rfl
theorem Ce {y:List Nat} {ws:List (List Nat)} {os:List Od} (hy:Yd y) (hw: ∀w∈ws,SW y w) (h:mT y ws os): ∃M,dI y ws (B_ ws) (Ca ws) M/\BK y ws (B_ ws) (Ca ws) M os:=by
 obtain ⟨M,hM,ok,up⟩:=h
 have hs: ∀c,c<ws.length->SW y (ws.getD c []):=fun c hc=>hw _ (getD_in hc)
 have hC:dI y ws (B_ ws) (Ca ws) M:=Bs hy hs (fun c hc=>kZ (hs c hc).ne) fun c d hc hd=>hM _ (getD_in hc) _ (getD_in hd)
 refine ⟨M,hC,ok,fun o ho=>?_⟩
 obtain ⟨j,hj,ej⟩:=Wy ho
 have Qb:j<(fi y).length:=by rw[<-ok.1];exact hj
 have pm:=ok.2 j o (fi y)[j] (by rw[GJ hj,ej]) (GJ Qb)
 have bs:=uF hy (Vb Qb)
 have lb:Lt (fi y)[j]:= .inl bs
 have lo:az (fi y)[j]=true:=by rw[iT lb];exact decide_eq_true bs
 have nd:(o.ps.map Pr.pair).Nodup:=pm.nodup_iff.mpr (qy _ _ _)
 have u:=up o ho
 unfold Cb at u
 refine WJ (fun {s t} h1 h2 h=>?_) (List.Pairwise.and u nd)
 obtain ⟨w1,e1,i1,o1⟩:=wD (pm.mem_iff.mp h1)
 obtain ⟨w2,e2,i2,o2⟩:=wD (pm.mem_iff.mp h2)
 have c1:=(GK.mp e1).1
 have c2:=(GK.mp e2).1
 have g1:ws.getD s.1 []=w1:=by rw[Ro,e1];rfl
 have g2:ws.getD t.1 []=w2:=by rw[Ro,e2];rfl
 have on: ∀{l:Nat},we (fi y)[j] l=true->l=(fi y)[j]\/l=aD (fi y)[j]:=fun {l} q=>by unfold we at q;simpa using q
 have tr:=Cd hC (c:=s.1) (i:=s.2) (d:=t.1) (j:=t.2) c1 c2 (by rw[g1];exact i1) (by rw[g2];exact i2) h.2 lo (by rw[g1];exact on o1) (by rw[g2];exact on o2)
 rcases tr with q | q
 ·exact q
 ·have hf:bp (cf y ws (B_ ws) (Ca ws) M t.1 t.2) (cf y ws (B_ ws) (Ca ws) M s.1 s.2)=false:=h.1
  rw[hf]at q
  cases q
theorem Cf {α β:Type} (p:β->β->Bool) (f:α->β): ∀l:List α,cl p (l.map f)=cl (fun a b=>p (f a) (f b)) l
 | []=>rfl
 | a::l=>by
  show ((l.map f).filter (p (f a))).length+cl p (l.map f)=(l.filter fun b=>p (f a) (f b)).length+cl _ l
  rw[Cf p f l,List.filter_map,Py]
  rfl
theorem uG {α:Type} {p q:α->α->Bool}: ∀{l:List α},l.Pairwise (fun a b=>p a b=q a b)->cl p l=cl q l
 | [],_=>rfl
 | a::l,h=>by
  rw[VI]at h
  show (l.filter (p a)).length+cl p l=(l.filter (q a)).length+cl q l
  rw[uG h.2,Xn fun b hb=>h.1 b hb]
theorem Cg {a b a' b':Nat} (h1:a<b) (h2:a'<b') (h4:a<a') (h5:b≠a') (h6:b≠b'):(iY (a,b) (a',b')||iY (a',b') (a,b))=mf a b a' b':=by
 have g4:=V6 h4 h2
 rw[Bf (UJ h1) (UJ h4) (UJ g4) h5 h6]
 unfold iY
 rw[decide_eq_true h4,decide_eq_true g4,decide_eq_false (Wz h4),iV (Ne.symm h6)]
 have k:decide (b'<b)=true->decide (a'<b)=true:=fun q=>decide_eq_true (V6 h2 (of_decide_eq_true q))
 revert k
 generalize decide (a'<b)=p
 generalize decide (b'<b)=q
 revert p q
 decide
theorem sj {a b a' b':Nat} (h1:a<b) (h2:a'<b') (h3:a≠a') (h4:a≠b') (h5:b≠a') (h6:b≠b'):(iY (a,b) (a',b')||iY (a',b') (a,b))=mf a b a' b':=by
 rcases VS h3 with q | q
 ·exact Cg h1 h2 q h5 h6
 ·rw[Bool.or_comm,Cg h2 h1 q (Ne.symm h4) (Ne.symm h6),j8 (UJ h2) (UJ h1) (Ne.symm h3) (Ne.symm h5) (Ne.symm h4) (Ne.symm h6)]
theorem EA {a b a' b':Nat} (h1:a≠b) (h2:a'≠b') (h3:a≠a') (h4:a≠b') (h5:b≠a') (h6:b≠b'):(iY (min a b,max a b) (min a' b',max a' b')||iY (min a' b',max a' b') (min a b,max a b))=mf a b a' b':=by
 rcases VS h1 with q | q<;>rcases VS h2 with r | r
 ·rw[Vd (U0 q),V5 (U0 q),Vd (U0 r),V5 (U0 r)]
  exact sj q r h3 h4 h5 h6
 ·rw[Vd (U0 q),V5 (U0 q),Vn (U0 r),VW (U0 r),iw]
  exact sj q r h4 h3 h6 h5
 ·rw[Vn (U0 q),VW (U0 q),Vd (U0 r),V5 (U0 r), <-uj h1 h2 h3 h4 h5 h6]
  exact sj q r h5 h6 h3 h4
 ·rw[Vn (U0 q),VW (U0 q),Vn (U0 r),VW (U0 r), <-uj h1 h2 h3 h4 h5 h6,iw]
  exact sj q r h6 h5 h4 h3
section
variable {y:List Nat} {ws:List (List Nat)} {L:Nat->Bool} {r:Nat->Nat} {M:Nat}
noncomputable def jz (ps:List (Nat×Nat×Nat)) (c i e:Nat):Nat:=ps.idxOf (c,i,e)
theorem EB {n i:Nat} (h:i<n):iB n ((i:Int) - 1)=uY n i/\iB n (i:Int)=i:=by
 have h1:=dD (n:=n) (by omega) ((i:Int) - 1)
 have h2:=dD (n:=n) (by omega) (i:Int)
 rw[xY h]at h1
 rw[UU (by omega) (by omega)]at h2
 omega
theorem kh {ps:List (Nat×Nat×Nat)} {c i:Nat} (hi:i<(ws.getD c []).length):(gn ps c (ws.getD c []) i).2.2.1=pI ws (jz ps) c ((i:Int) - 1)/\(gn ps c (ws.getD c []) i).2.2.2=pO ws (jz ps) c i:=by
 obtain ⟨e1,e2⟩:=EB hi
 have g: ∀k,k<(ws.getD c []).length->(ws.getD c []).getD k 0=rd (ws.getD c []) k:=fun k hk=>by
  rw[Ro,kL hk];rfl
 have dh:ws.getD c []≠[]:=fun z=>by rw[z]at hi;exact absurd hi (WZ _)
 unfold gn pI pO jz
 rw[e1,e2,g _ (wo hi),g _ hi]
 refine ⟨?_,rfl⟩
 have:rd (ws.getD c []) (uY (ws.getD c []).length i:Nat)=rd (ws.getD c []) ((i:Int) - 1):=by rw[<-e1,bM dh]
 rw[this]
theorem iZ (ps:List (Nat×Nat×Nat)) (ws:List (List Nat)): ∀n,fO ps ws n=(ug ws n).map fun x=>gn ps x.1 (ws.getD x.1 []) x.2
 | 0=>rfl
 | n+1=>by
  have ih:=iZ ps ws n
  unfold fO at ih ⊢
  unfold ug
  rw[Vq,Vc,ih,Rn,Wg,Vj]
  rfl
theorem wG (ws:List (List Nat)) (n:Nat):(ug ws n).Nodup:=(xB n).imp fun {a b} h z=>by
 rw[z]at h
 unfold CY at h
 simp at h
theorem ki (h:dI y ws L r M) {ps:List (Nat×Nat×Nat)} (hN:Lies y ws L r M (jz ps)) (l:List (Nat×Nat)) (hl:l.Nodup) (sS: ∀x∈l,x.1<ws.length/\x.2<(ws.getD x.1 []).length):(cX (l.map fun x=>gn ps x.1 (ws.getD x.1 []) x.2)).Nodup:=by
 unfold cX
 induction l with
 | nil=>exact List.Pairwise.nil
 | cons x t ih=>
  rw[U4]at hl
  rw[UK,U2,Vw]
  obtain ⟨x1,x2⟩:=sS x UA
  have ex:=kh (ps:=ps) (ws:=ws) (c:=x.1) x2
  refine ⟨?_,ih hl.2 fun z hz=>sS z (T5 _ hz),fun a ha b hb e=>?_⟩
  ·rw[ex.1,ex.2,U4]
   exact ⟨by simpa using (dE h hN x1 x1 x2 x2).1,by simp⟩
  ·obtain ⟨c4,Oz,Ft⟩:=U5.mp hb
   obtain ⟨z,hz,rfl⟩:=UQ.mp Oz
   obtain ⟨z1,z2⟩:=sS z (T5 _ hz)
   have ez:=kh (ps:=ps) (ws:=ws) (c:=z.1) z2
   have dh:(x.1,x.2)≠(z.1,z.2):=fun q=>hl.1 (by
    have:x=z:=Prod.ext (Prod.mk.inj q).1 (Prod.mk.inj q).2
    rw[this];exact hz)
   have n1:=dE h hN x1 z1 x2 z2
   have n2:=dE h hN z1 x1 z2 x2
   rw[ex.1,ex.2]at ha
   rw[ez.1,ez.2]at Ft
   have Qc:a=pI ws (jz ps) x.1 ((x.2:Int) - 1)\/a=pO ws (jz ps) x.1 x.2:=by simpa using ha
   have mI:b=pI ws (jz ps) z.1 ((z.2:Int) - 1)\/b=pO ws (jz ps) z.1 z.2:=by simpa using Ft
   rw[e]at Qc
   rcases Qc with p | p<;>rcases mI with q | q<;>rw[p]at q
   ·exact (n1.2 dh).1 q
   ·exact n1.1 q
   ·exact n2.1 q.symm
   ·exact (n1.2 dh).2 q
theorem kj (h:dI y ws L r M) {ps:List (Nat×Nat×Nat)} (hN:Lies y ws L r M (jz ps)) (l:List (Nat×Nat)) (hl:l.Nodup) (sS: ∀x∈l,x.1<ws.length/\x.2<(ws.getD x.1 []).length):cl (fun x z=>iY x z||iY z x) (je (l.map fun x=>gn ps x.1 (ws.getD x.1 []) x.2))=cl (Fz ws (jz ps)) l:=by
 unfold je
 rw[Vj,Cf]
 refine uG (WJ (fun {a b} ha hb uX=>?_) hl)
 obtain ⟨a1,a2⟩:=sS a ha
 obtain ⟨b1,b2⟩:=sS b hb
 have ea:=kh (ps:=ps) (ws:=ws) (c:=a.1) a2
 have eb:=kh (ps:=ps) (ws:=ws) (c:=b.1) b2
 have dh:(a.1,a.2)≠(b.1,b.2):=uX
 have n1:=dE h hN a1 b1 a2 b2
 have n2:=dE h hN b1 a1 b2 a2
 have n3:=dE h hN a1 a1 a2 a2
 have n4:=dE h hN b1 b1 b2 b2
 show (iY (min _ _,max _ _) (min _ _,max _ _)||iY (min _ _,max _ _) (min _ _,max _ _))=Fz ws (jz ps) a b
 rw[ea.1,ea.2,eb.1,eb.2,EA n3.1 n4.1 (n1.2 dh).1 n1.1 (Ne.symm n2.1) (n1.2 dh).2]
 rfl
end
noncomputable def kr (w:List Nat):Int:=((w.length / HF w:Nat):Int)
theorem n6 {w v:List Nat} (hw:w≠[]) (hv:v≠[]) (e: ∀d:Int,bE w w d 0↔bE v v d 0):HF w=HF v:=qu hw hv (kZ hw) (kZ hv) e
theorem km {w:List Nat} {n:Nat} (hn:n<=w.length):(cw w n).length=w.length:=by
 unfold cw
 rw[Rk,US,UB,Vd hn,Nat.sub_add_cancel hn]
theorem HI {w v:List Nat} (h:w≠[]) (e:v.length=w.length):v≠[]:=fun z=>h (Vk.mp (by rw[<-e,z];rfl))
theorem HJ {w:List Nat} (hw:w≠[]) {n:Nat} (hn:n<=w.length):kr (cw w n)=kr w:=by
 unfold kr
 rw[km hn,n6 (HI hw (km hn)) hw (Eh hw hn)]
theorem HK {y w:List Nat} (hy:Yd y) (hw:SW y w):kr (cT w)=kr w:=by
 unfold kr
 rw[bN,n6 (kP hw.ne) hw.ne (Ei hy hw)]
theorem wH {w:List Nat} (hw:w≠[]) {s:Nat} (h:bf w s):0<s/\w.length%s=0:=by
 obtain ⟨p,a⟩:=eO hw h
 refine ⟨p,?_⟩
 have:=(a w.length 0).mp fun k=>by
  unfold sq
  rw[Vy,Xv,dU]
 rw[Wi]at this
 have c1:((w.length%s:Nat):Int)=(w.length:Int)%(s:Int):=rfl
 rw[<-c1]at this
 exact Xf this
theorem EC {w:List Nat} (hw:w≠[]) {p:Nat} (hp:0<p):bP p w≠[]:=fun z=>by
 have:=jZ p w
 rw[z]at this
 exact absurd this (UJ (Xy hp (IC.mpr hw)))
theorem ED {w:List Nat} (hw:w≠[]) {p:Nat} (hp:0<p):kr (bP p w)=p*kr w:=by
 unfold kr
 have d:=wH hw (kZ hw)
 rw[jZ,n6 (EC hw hp) hw (uo hw hp),Nat.mul_div_assoc _ (VE d.2),Vr]
theorem ym {w:List Nat} (hw:w≠[]) {r:Nat} (h:bf w r):w.take r≠[]/\(w.take r).length=r/\kr (w.take r)=1/\w=bP (w.length / r) (w.take r)/\0<w.length / r:=by
 have d:=wH hw h
 rcases h with h | ⟨h1,h2,h3,h4⟩
 ·exact absurd h.1 hw
 have hl:(w.take r).length=r:=by rw[UB,Vd h2]
 have hn:w.take r≠[]:=fun z=>by rw[z]at hl;exact absurd hl.symm (We h1)
 have e:w=bP (w.length / r) (w.take r):=h3.symm
 have hp:0<w.length / r:=Nat.div_pos h2 h1
 refine ⟨hn,hl,?_,e,hp⟩
 have rs:HF (w.take r)=r:=by
  refine qu hn hw (kZ hn) (.inr ⟨h1,h2,h3,h4⟩) fun q=>?_
  have k:=uo hn hp q
  rw[<-e]at k
  exact k.symm
 unfold kr
 rw[rs,hl,Nat.div_self h1]
 rfl
noncomputable def mq (y w:List Nat):Int:=SS y w w+2*(kr w - 1)
noncomputable def zH (y:List Nat) (ws:List (List Nat)):Int:=sm ws.length (fun c=>mq y (ws.getD c.toNat []))+2*sR ws.length (fun c d=>SS y (ws.getD c.toNat []) (ws.getD d.toNat []))
theorem HL (h:Int->Int) (n:Nat):2*sm n h=sm n fun i=>2*h i:=by
 rw[show (fun i=>2*h i)=fun i=>h i+h i from funext fun i=>Int.two_mul _,nN,Int.two_mul]
theorem HM {y:List Nat} {ws:List (List Nat)} {M:Nat} {N:Nat->Nat->Nat->Nat} (h:dI y ws (B_ ws) (Ca ws) M) (hN:Lies y ws (B_ ws) (Ca ws) M N):2*(cl (Fz ws N) (places ws):Int)=zH y ws:=by
 unfold places zH
 rw[Bp,Int.mul_add,HL]
 congr 1
 ·refine aC fun c hc=>?_
  rw[PB]
  have a:=Bl h hN hc
  rw[Bt h.yd (h.sw c hc) (h.sw c hc)]at a
  rw[show sR (ws.getD c []).length (fun i j=>one (Fz ws N (c,i.toNat) (c,j.toNat)=true))=sR (ws.getD c []).length (fun i j=>one (g7 (pO ws N c) (pI ws N c) (pO ws N c) (pI ws N c) i j=true)) from kO fun i j _ _=>by
   unfold Fz
   rw[PB,PB],a]
  rfl
 ·congr 1
  refine kO fun c d lT hd=>?_
  rw[PB,PB, <-Bt h.yd (h.sw c (V6 lT hd)) (h.sw d hd), <-qp h hN (c:=c) (d:=d) (V6 lT hd) hd (UJ lT)]
  exact aZ fun i j _ _=>by
   unfold Fz
   rw[PB,PB]
theorem zI {y:List Nat} {ws:List (List Nat)} {os:List Od} (hy:Yd y) (hw: ∀w∈ws,SW y w) (h:mT y ws os):(cX (fA y ws os)).Nodup/\2*(cl (fun x z=>iY x z||iY z x) (je (fA y ws os)):Int)=zH y ws:=by
 obtain ⟨M,hC,hT⟩:=Ce hy hw h
 have hN:Lies y ws (B_ ws) (Ca ws) M (jz (jF y os)):=lies_of hy hC.sw hT
 have sS: ∀x∈places ws,x.1<ws.length/\x.2<(ws.getD x.1 []).length:=fun x hx=>mL.mp hx
 unfold fA
 rw[iZ]
 refine ⟨ki hC hN _ (wG ws _) sS,?_⟩
 rw[kj hC hN _ (wG ws _) sS]
 exact HM hC hN
theorem Ci (y w:List Nat):zH y [w]=mq y w:=by
 show (0+mq y w)+2*(0+0)=_
 omega
theorem Cj (y w v:List Nat):zH y [w,v]=mq y w+mq y v+2*SS y w v:=by
 show (0+mq y w+mq y v)+2*((0+0)+(0+SS y w v))=_
 omega
theorem EE {y w v:List Nat} {os:List Od} (hy:Yd y) (hw:SW y w) (hv:SW y v) (h:mT y [w,v] os):
  (cl (fun x z=>iY x z||iY z x) (je (fA y [w,v] os)):Int) - cl (fun x z=>iY x z||iY z x) (je ((fA y [w,v] os).take w.length)) - cl (fun x z=>iY x z||iY z x) (je ((fA y [w,v] os).drop w.length))=SS y w v/\(cX (fA y [w,v] os)).Nodup/\(cX ((fA y [w,v] os).take w.length)).Nodup/\(cX ((fA y [w,v] os).drop w.length)).Nodup:=by
 have OA: ∀u∈[w,v],SW y u:=fun u hu=>by
  rcases T3.mp hu with e | e
  ·rw[e];exact hw
  ·rw[PC.mp e];exact hv
 obtain ⟨M,hC,hT⟩:=Ce hy OA h
 have hN:Lies y [w,v] (B_ [w,v]) (Ca [w,v]) M (jz (jF y os)):=lies_of hy hC.sw hT
 have sS: ∀x∈places [w,v],x.1<[w,v].length/\x.2<([w,v].getD x.1 []).length:=fun x hx=>mL.mp hx
 have OB:(places [w,v]).Nodup:=wG [w,v] 2
 have ep:places [w,v]=(List.range w.length).map (fun i=>(0,i))++(List.range v.length).map (fun i=>(1,i)):=rfl
 have ec:fA y [w,v] os=(places [w,v]).map fun x=>gn (jF y os) x.1 ([w,v].getD x.1 []) x.2:=iZ _ _ _
 have t1:(fA y [w,v] os).take w.length=((List.range w.length).map (fun i=>(0,i))).map fun x=>gn (jF y os) x.1 ([w,v].getD x.1 []) x.2:=by
  rw[ec,ep,Rn,List.take_append_of_le_length (by simp),UR (by simp)]
 have t2:(fA y [w,v] os).drop w.length=((List.range v.length).map (fun i=>(1,i))).map fun x=>gn (jF y os) x.1 ([w,v].getD x.1 []) x.2:=by
  rw[ec,ep,Rn,List.drop_append_of_le_length (by simp),Vx (by simp),List.nil_append]
 have LR:=OB
 have HN:=sS
 rw[ep]at HN
 rw[ep,Vw]at LR
 have i1:=fun x hx=>HN x (V3 _ hx)
 have i2:=fun x hx=>HN x (UM _ hx)
 rw[t1,t2]
 refine ⟨?_,by rw[ec];exact ki hC hN _ OB sS,ki hC hN _ LR.1 i1,ki hC hN _ LR.2.1 i2⟩
 rw[ec,kj hC hN _ OB sS,kj hC hN _ LR.1 i1,kj hC hN _ LR.2.1 i2,ep,rY]
 have e1:(((List.range w.length).map fun i=>((0:Nat),i)).map fun x=>((((List.range v.length).map fun i=>((1:Nat),i)).filter (Fz [w,v] (jz (jF y os)) x)).length:Int)).sum=SS y w v:=by
  rw[<-Bt hy hw hv,Vj]
  refine Eq.trans ?_ (qp hC hN (c:=0) (d:=1) (Nat.zero_lt_succ _) (VH 1) (by decide))
  refine (iW (fun i=>((((List.range v.length).map fun i=>((1:Nat),i)).filter (Fz [w,v] (jz (jF y os)) (0,i))).length:Int)) w.length).trans (aC fun i _=>?_)
  rw[PB]
  refine (xU _ 1 v.length).trans (aC fun j _=>?_)
  rw[PB]
  rfl
 rw[e1]
 omega
theorem IH.ok {y:List Nat} {ws:List (List Nat)} (h:IH y ws):LM y ws:=⟨h.xt,fun w hw=>⟨(h.sw w hw).1.bL,(h.sw w hw).2⟩⟩
theorem qF {y:List Nat} {ws:List (List Nat)} {os:List Od} (h:IH y ws):(fA y ws os).length<=24:=by
 unfold fA
 rw[iZ,Py]
 exact h.all
theorem EF {y w:List Nat} (h:SW y w) (hz:w.length<=12):IH y [w]:=⟨fun v hv=>by rw[PC.mp hv];exact ⟨h,hz⟩,by show 1<=4;decide,by
 have:=rL (ws:=[w]) (m:=12) (fun v hv=>by rw[PC.mp hv];exact hz) 1 (Mq _)
 unfold places
 show (ug [w] 1).length<=24
 omega⟩
def uH (_:PySem.W.Frag):Sp:=fun vs H Q _=> ∃(y:List Nat) (wt:Addr) (ws:List (List Nat)),vs=[.str (S y), .ref wt]/\Yd y/\y.length<=8/\IH y ws/\H wt=some (.tup (iR ws))/\ ∀(n:Nat) H',ay H H'->2*(n:Int)=zH y ws->Q (.int n) H'
theorem zJ {K:PySem.W.Frag} {vs:List V} {H:Hp} {Q:VK} {E:XK} (h:uH K vs H Q E):vs.length=2:=by obtain ⟨_,_,_,rfl,_⟩:=h;rfl
def Ck (_:PySem.W.Frag):Sp:=fun vs H Q _=> ∃(y w:List Nat),vs=[.str (S y), .str (S w)]/\Yd y/\y.length<=8/\SW y w/\w.length<=12/\ ∀(n:Nat) H',ay H H'->2*(n:Int)=mq y w->Q (.int n) H'
theorem len_own {K:PySem.W.Frag} {vs:List V} {H:Hp} {Q:VK} {E:XK} (h:Ck K vs H Q E):vs.length=2:=by obtain ⟨_,_,rfl,_⟩:=h;rfl
def n_ (_:PySem.W.Frag):Sp:=fun vs H Q _=> ∃(y w v:List Nat),vs=[.str (S y), .str (S w), .str (S v)]/\Yd y/\y.length<=8/\SW y w/\w.length<=12/\SW y v/\v.length<=12/\ ∀H',ay H H'->Q (.int (SS y w v)) H'
theorem uI {K:PySem.W.Frag} {vs:List V} {H:Hp} {Q:VK} {E:XK} (h:n_ K vs H Q E):vs.length=3:=by obtain ⟨_,_,_,rfl,_⟩:=h;rfl
def qG (_:PySem.W.Frag):Sp:=fun vs H Q _=> ∃(w:List Nat),vs=[.str (S w)]/\w≠[]/\w.length<=100/\ ∀r,bf w r->Q (.int (w.length / r:Nat)) H
theorem wI {K:PySem.W.Frag} {vs:List V} {H:Hp} {Q:VK} {E:XK} (h:qG K vs H Q E):vs.length=1:=by obtain ⟨_,rfl,_⟩:=h;rfl
structure Cm (y w:List Nat) (p:Nat) (u:List Nat):Prop where
 sw:SW y u
 len:u.length=p*w.length
 kr:kr u=p*My.kr w
 ss: ∀v,SW y v->SS y u v=p*SS y w v
theorem Cm.self {y w u:List Nat} {p:Nat} (hy:Yd y) (hw:SW y w) (h:Cm y w p u):SS y u u=p*(p*SS y w w):=by rw[h.ss u h.sw,kQ hy hw h.sw,h.ss w hw]
theorem Cm.two {y w u z t:List Nat} {p q:Nat} (hy:Yd y) (hw:SW y w) (hz:SW y z) (h:Cm y w p u) (g:Cm y z q t):SS y u t=p*(q*SS y w z):=by rw[h.ss t g.sw,kQ hy hw g.sw,g.ss w hw,kQ hy hz hw]
theorem Cm.own {y w u:List Nat} {p:Nat} (hy:Yd y) (hw:SW y w) (k1:My.kr w=1) (h:Cm y w p u) {n m:Nat} (hn:2*(n:Int)=mq y u) (hm:2*(m:Int)=mq y w):(n:Int)=p*p*m+p - 1:=by
 unfold mq at hn hm
 rw[h.kr,k1,h.self hy hw]at hn
 rw[k1]at hm
 have e:SS y w w=2*(m:Int):=by omega
 rw[e]at hn
 have e2:(p:Int)*((p:Int)*(2*(m:Int)))=2*((p:Int)*p*m):=by
  rw[Xs (p:Int) 2,Xs (p:Int) 2,Xg]
 rw[e2]at hn
 omega
theorem HP {y w:List Nat} (hy:Yd y) (hw:SW y w) {p k:Nat} (hp:0<p) (hk:k<=w.length):Cm y w p (bP p (cw w k))/\Cm y w p (cT (bP p (cw w k))):=by
 have h1:SW y (cw w k):=hw.cw hk
 have h2:=h1.cM hp
 have a:Cm y w p (bP p (cw w k)):=⟨h2,by rw[jZ,km hk],by rw[ED h1.ne hp,HJ hw.ne hk],fun v hv=>by rw[Eg h1.ne hp,Bx hw.ne hk]⟩
 exact ⟨a,h2.cT hy,by rw[bN,a.len],by rw[HK hy h2,a.kr],fun v hv=>by rw[By hy h2 hv,a.ss v hv]⟩
def oa (_:PySem.W.Frag):Sp:=fun vs H Q _=> ∃(w:List Nat),vs=[.str (S w)]/\(∀c∈w,Lt c)/\w.length<=1000/\ ∀H',ay H H'->Q (.str (S (cT w))) H'
theorem uJ {K:PySem.W.Frag} {vs:List V} {H:Hp} {Q:VK} {E:XK} (h:oa K vs H Q E):vs.length=1:=by obtain ⟨_,rfl,_⟩:=h;rfl
def fQ (_:PySem.W.Frag):Sp:=fun vs H Q _=> ∃(b:Addr) (y w:List Nat) (p:Nat),vs=[.ref b, .str (S w), .int p]/\cE H b/\Yd y/\SW y w/\0<p/\p*w.length<=12/\ ∀(u:List Nat) H',Cm y w p u->cE H' b->aR b H H'->Q (.str (S u)) H'
theorem jA {K:PySem.W.Frag} {vs:List V} {H:Hp} {Q:VK} {E:XK} (h:fQ K vs H Q E):vs.length=3:=by obtain ⟨_,_,_,_,rfl,_⟩:=h;rfl
def qH (_:PySem.W.Frag):Sp:=fun vs H Q _=> ∃(y w v:List Nat),vs=[.str (S w), .str (S v)]/\Yd y/\SW y w/\SW y v/\w.length<=100/\v.length<=100/\ ∀(t:Bool) H',ay H H'->(t=true->SS y w v=SS y w w)->Q (.bl t) H'
theorem wJ {K:PySem.W.Frag} {vs:List V} {H:Hp} {Q:VK} {E:XK} (h:qH K vs H Q E):vs.length=2:=by obtain ⟨_,_,_,rfl,_⟩:=h;rfl
def qI (_:PySem.W.Frag):Sp:=fun vs H Q _=> ∃(b:Addr) (y w v:List Nat),vs=[.ref b, .str (S y), .str (S w), .str (S v)]/\cE H b/\Yd y/\y.length<=8/\SW y w/\w.length<=4/\kr w=1/\SW y v/\v.length<=4/\kr v=1/\ ∀H',cE H' b->aR b H H'->Q (.bl true) H'
theorem wK {K:PySem.W.Frag} {vs:List V} {H:Hp} {Q:VK} {E:XK} (h:qI K vs H Q E):vs.length=4:=by obtain ⟨_,_,_,_,rfl,_⟩:=h;rfl
theorem wL (a:List Nat): ∀ls:List (List Nat),CU (.str (S a)) (iR ls)=decide (a∈ls)
 | []=>by simp[CU,iR]
 | l::ls=>by
  have ih:=wL a ls
  have e:CU (.str (S a)) (iR (l::ls))=(CT (.str (S l)) (.str (S a))||CU (.str (S a)) (iR ls)):=rfl
  rw[e,ih]
  have e2:CT (.str (S l)) (.str (S a))=decide (a=l):=by
   show (S l==S a)=_
   by_cases z:a=l
   ·subst z;simp
   ·rw[decide_eq_false z]
    exact beq_eq_false_iff_ne.mpr fun q=>z (by rw[<-dP l,q,dP])
  rw[e2]
  by_cases z:a=l
  ·subst z;simp
  ·simp[z]
theorem SW.root {y w:List Nat} {r:Nat} (h:SW y w) (g:bf w r):SW y (w.take r)/\kr (w.take r)=1/\w.length / (w.length / r)=r:=by
 obtain ⟨a,b,c,e,d⟩:=ym h.ne g
 have k: ∀i,My.rd (w.take r) i=My.rd w i:=fun i=>by
  have:=j4 a d i
  rw[<-e]at this
  exact this.symm
 have z:=wH h.ne g
 exact ⟨⟨a,fun x hx=>h.bL x (V2 hx),fun i=>by rw[k,k];exact h.red i⟩,c,Nat.div_div_self (VE z.2) (We (IC.mpr h.ne))⟩
local macro_rules | `(tactic| walk_at "rd") => `(tactic| repeat (first
 | refine ⟨_,rfl,?_⟩
 | refine ⟨_,_,rfl,rfl,?_⟩
 | refine ⟨rfl,?_⟩
 | refine And.intro (by first | decide | omega | assumption | exact Nat.le_of_ble_eq_true rfl | exact .inl ⟨by decide,by decide⟩ | exact .inr ⟨by decide,by decide⟩ | exact ⟨by decide,by decide⟩ | exact ⟨by omega,by omega⟩) ?_))
local macro_rules | `(tactic| walk_at "wk") => `(tactic| repeat (first
 | refine ⟨_,rfl,?_⟩
 | refine ⟨_,_,rfl,rfl,?_⟩
 | refine ⟨_,_,_,rfl,rfl,by first | assumption | omega,by assumption,?_⟩
 | refine ⟨rfl,?_⟩
 | refine And.intro (by first | decide | omega | assumption | exact Nat.le_of_ble_eq_true rfl | exact .inl ⟨by decide,by decide⟩ | exact .inr ⟨by decide,by decide⟩ | exact ⟨by decide,by decide⟩ | exact ⟨by omega,by omega⟩) ?_))
local macro_rules | `(tactic| walk_at "bd") => `(tactic| first | assumption | exact R8 _ | exact T9 (by walk_at "bd") (by walk_at "bd"))
noncomputable def top (i:Nat):Stmt:=PySem.Challenge.pw_mustmeet_k30_whole_so_many_times_round.main.body.getD i (.Pass ⟨0,0,0,0⟩)
noncomputable abbrev jB:Stmt:=top 1
noncomputable abbrev oe:Stmt:=top 2
noncomputable abbrev sk:Stmt:=top 4
noncomputable abbrev fW:Stmt:=top 5
noncomputable abbrev gK:Stmt:=top 7
noncomputable abbrev og:Stmt:=top 8
noncomputable abbrev eU:Stmt:=top 9
noncomputable abbrev k_:Stmt:=top 10
noncomputable abbrev fD:Stmt:=top 11
noncomputable abbrev iL:Stmt:=top 12
noncomputable abbrev dY:Stmt:=top 13
noncomputable abbrev gL:Stmt:=top 15
noncomputable abbrev fX:Stmt:=top 17
noncomputable abbrev iM:Stmt:=top 19
noncomputable abbrev jC:Stmt:=top 20
noncomputable abbrev wM:Stmt:=top 21
noncomputable abbrev wN:Stmt:=top 22
noncomputable abbrev fE:Stmt:=top 24
noncomputable abbrev fZ:Stmt:=top 27
noncomputable abbrev gM:Stmt:=top 28
noncomputable abbrev lh:Stmt:=top 29
noncomputable abbrev lj:Stmt:=top 30
noncomputable abbrev f_:Stmt:=top 31
noncomputable abbrev fF:Stmt:=top 32
noncomputable abbrev gc:Stmt:=top 33
noncomputable abbrev gN:Stmt:=top 34
noncomputable abbrev wO:Stmt:=top 35
noncomputable abbrev so:Stmt:=top 37
noncomputable abbrev Cn:Stmt:=top 38
noncomputable abbrev lq:Stmt:=top 39
noncomputable abbrev wQ:Stmt:=top 41
noncomputable abbrev sx:Stmt:=top 42
noncomputable abbrev oh:Stmt:=top 43
noncomputable abbrev sC:Stmt:=top 44
noncomputable abbrev oj:Stmt:=top 45
noncomputable abbrev om:Stmt:=top 46
noncomputable abbrev lr:Stmt:=top 47
noncomputable abbrev dZ:Stmt:=top 48
noncomputable abbrev oq:Stmt:=top 49
noncomputable abbrev ou:Stmt:=top 50
noncomputable abbrev Co:Stmt:=top 51
structure bc (K:PySem.W.Frag) (mg:Str->Option Value) (x:Str) (st:Stmt) (ps:List Str) (f:Addr) (fd:FuncData):Prop where
 fn:Dt K x x st f fd
 mg:mg x=some (.ref f)
 bd:Binds K fd ps []
noncomputable abbrev i0:Stmt:=PQ (top 25) 0
noncomputable abbrev gs:Stmt:=PQ (top 26) 0
structure Txt (K:PySem.W.Frag) (mg:Str->Option Value) (f0 f1 f2 f3 f4 f5 f6 f7 f8 f9 IQ IS IT IU IV IW IX IZ Cp Cq I0 I_ Ja Jb Jc Jd Je Jf Jg Jh Ji Jj Jk Jl Jm Jn Jo Jp Jq Jr Js aJ aP jh gf:Addr) (d0 d1 d2 d3 d4 d5 d6 d7 d8 d9 Jt Ju Jv Jw Jx Jy Jz JA JB JC JD JE JF JG JH JI JJ JK JL JM JN JO JP JQ JR JS JT JU JV JW JX uK ow:FuncData):Prop where
 F0:bc K mg "contrary" jB ["letter"] f0 d0
 F1:bc K mg "turned" oe ["word"] f1 d1
 F2:bc K mg "bands" sk ["yard"] f2 d2
 F3:bc K mg "steps_round" fW ["yard","start","end"] f3 d3
 F4:bc K mg "strands_at" gK ["yard","drawing","end"] f4 d4
 F5:bc K mg "points" og ["yard","drawing"] f5 d5
 F6:bc K mg "corner_points" eU ["word","cord","place"] f6 d6
 F7:bc K mg "corners" k_ ["yard","drawing"] f7 d7
 F8:bc K mg "chord_starts" fD ["some"] f8 d8
 F9:bc K mg "number_in" iL ["rising","point"] f9 d9
 zK:bc K mg "count_meetings" dY ["some"] IQ Jt
 MC:bc K mg "strands_in" gL ["words","band"] IS Ju
 MD:bc K mg "corner_ends" fX ["word","place"] IT Jv
 ME:bc K mg "shortened" iM ["word"] IU Jw
 MF:bc K mg "shortest" jC ["word"] IV Jx
 C5:bc K mg "ring" wM ["word"] IW Jy
 MG:bc K mg "root" wN ["word"] IX Jz
 MH:bc K mg "corner_steps" fE ["yard","word","place"] IZ JA
 u5:bc K mg "steps_ahead" fZ ["seen","start","end"] Cp JB
 u6:bc K mg "steps_back" gM ["seen","start","end"] Cq JC
 HQ:bc K mg "parting" lh ["steps","one","other","enough"] I0 JD
 HR:bc K mg "side_of" lj ["seen"] I_ JE
 MI:bc K mg "comes_ahead" f_ ["one","other"] Ja JF
 MJ:bc K mg "number_among" fF ["order","seen"] Jb JG
 MK:bc K mg "seen_strand" gc ["words","ways","strand"] Jc JH
 ML:bc K mg "taut_order" gN ["words","ways","band"] Jd JI
 HS:bc K mg "taut" wO ["yard","words"] Je JJ
 HU:bc K mg "least" so ["yard","words"] Jf JK
 mr:bc K mg "own" Cn ["yard","word"] Jg JL
 C6:bc K mg "between" lq ["yard","one","other"] Jh JM
 MM:bc K mg "_law_box" wQ ["_law_script","_law_k"] Ji JN
 i3:bc K mg "_law_take" sx ["_law_box_here","_law_many"] Jj JO
 zL:bc K mg "_law_other" oh ["_law_letter"] Jk JP
 MN:bc K mg "_law_yard" sC ["_law_box_here","_law_few","_law_top"] Jl JQ
 MO:bc K mg "_law_short" oj ["_law_box_here","_law_yard_here","_law_top"] Jm JR
 MP:bc K mg "_law_times" om ["_law_word"] Jn JS
 HV:bc K mg "_law_turned" lr ["_law_word"] Jo JT
 C7:bc K mg "_law_round_and_round" dZ ["_law_box_here","_law_word","_law_many"] Jp JU
 MQ:bc K mg "_law_is_one" oq ["_law_one","_law_other_here"] Jq JV
 MR:bc K mg "_law_right" ou ["_law_box_here","_law_yard_here","_law_one","_law_other_here"] Jr JW
 R9:bc K mg "law" Co ["_law_script"] Js JX
 Cr:mg "Seen"=some (.ref aJ)
 c_:E9 K aJ
 n_Seen_strand:dq K aJ "strand"
 n_Seen_way:dq K aJ "way"
 n_Seen_place:dq K aJ "place"
 FI:mg "Way"=some (.ref aP)
 fR:E9 K aP
 n_Way_size:dq K aP "size"
 n_Way_root_size:dq K aP "root_size"
 n_Way_leads:dq K aP "leads"
 n_Way_onward:dq K aP "onward"
 n_Way_backward:dq K aP "backward"
 FJ:Mk K aP jh
 LS:Dt K "__init__" "Way.__init__" i0 jh uK
 FK:Binds K uK ["self","yard","word","longest"] []
 Cs:Mk K aJ gf
 HW:Dt K "__init__" "Seen.__init__" gs gf ow
 Ct:Binds K ow ["self","strand","way","place"] []
 z_enumerate:mg "enumerate"=none
 z_int:mg "int"=none
 z_len:mg "len"=none
 z_list:mg "list"=none
 z_max:mg "max"=none
 z_min:mg "min"=none
 z_range:mg "range"=none
 z_reversed:mg "reversed"=none
 z_sorted:mg "sorted"=none
 z_str:mg "str"=none
 z_tuple:mg "tuple"=none
theorem uL:aE ["letter"] ["letter"] (ar jB):=⟨rfl,rfl,rfl,by decide+kernel,rfl,by decide+kernel,by decide+kernel⟩
theorem zM:aE ["word"] ["word"] (ar oe):=⟨rfl,rfl,rfl,by decide+kernel,rfl,by decide+kernel,by decide+kernel⟩
theorem Cu:aE ["yard"] ["yard"] (ar sk):=⟨rfl,rfl,rfl,by decide+kernel,rfl,by decide+kernel,by decide+kernel⟩
theorem oz:aE ["yard","start","end"] ["yard","start","end"] (ar fW):=⟨rfl,rfl,rfl,by decide+kernel,rfl,by decide+kernel,by decide+kernel⟩
theorem ji:aE ["yard","drawing","end","order"] ["yard","drawing","end"] (ar gK):=⟨rfl,rfl,rfl,by decide+kernel,rfl,by decide+kernel,by decide+kernel⟩
theorem i4:aE ["yard","drawing","told","end","strand"] ["yard","drawing"] (ar og):=⟨rfl,rfl,rfl,by decide+kernel,rfl,by decide+kernel,by decide+kernel⟩
theorem gu:aE ["word","cord","place","ahead"] ["word","cord","place"] (ar eU):=⟨rfl,rfl,rfl,by decide+kernel,rfl,by decide+kernel,by decide+kernel⟩
theorem ck:aE ["yard","drawing","numbers","number","point","told","cord","word","place","pair"] ["yard","drawing"] (ar k_):=⟨rfl,rfl,rfl,by decide+kernel,rfl,by decide+kernel,by decide+kernel⟩
theorem cY:aE ["some","starts","corner","first"] ["some"] (ar fD):=⟨rfl,rfl,rfl,by decide+kernel,rfl,by decide+kernel,by decide+kernel⟩
theorem cO:aE ["rising","point","low","high","middle"] ["rising","point"] (ar iL):=⟨rfl,rfl,rfl,by decide+kernel,rfl,by decide+kernel,by decide+kernel⟩
theorem bo:aE ["some","starts","begun","many","point","number"] ["some"] (ar dY):=⟨rfl,rfl,rfl,by decide+kernel,rfl,by decide+kernel,by decide+kernel⟩
theorem cx:aE ["words","band","found","cord","word","place","letter"] ["words","band"] (ar gL):=⟨rfl,rfl,rfl,by decide+kernel,rfl,by decide+kernel,by decide+kernel⟩
theorem oA:aE ["word","place"] ["word","place"] (ar fX):=⟨rfl,rfl,rfl,by decide+kernel,rfl,by decide+kernel,by decide+kernel⟩
theorem gO:aE ["word","kept","letter"] ["word"] (ar iM):=⟨rfl,rfl,rfl,by decide+kernel,rfl,by decide+kernel,by decide+kernel⟩
theorem di:aE ["word","left","start","end"] ["word"] (ar jC):=⟨rfl,rfl,rfl,by decide+kernel,rfl,by decide+kernel,by decide+kernel⟩
theorem i5:aE ["word","whole","least","start","begun"] ["word"] (ar wM):=⟨rfl,rfl,rfl,by decide+kernel,rfl,by decide+kernel,by decide+kernel⟩
theorem mU:aE ["word","whole","size","times"] ["word"] (ar wN):=⟨rfl,rfl,rfl,by decide+kernel,rfl,by decide+kernel,by decide+kernel⟩
theorem gY:aE ["yard","word","place","ends"] ["yard","word","place"] (ar fE):=⟨rfl,rfl,rfl,by decide+kernel,rfl,by decide+kernel,by decide+kernel⟩
theorem iN:aE ["seen","start","end","first"] ["seen","start","end"] (ar fZ):=⟨rfl,rfl,rfl,by decide+kernel,rfl,by decide+kernel,by decide+kernel⟩
theorem jj:aE ["seen","start","end","first"] ["seen","start","end"] (ar gM):=⟨rfl,rfl,rfl,by decide+kernel,rfl,by decide+kernel,by decide+kernel⟩
theorem da:aE ["steps","one","other","enough","many","size"] ["steps","one","other","enough"] (ar lh):=⟨rfl,rfl,rfl,by decide+kernel,rfl,by decide+kernel,by decide+kernel⟩
theorem jD:aE ["seen","way","cord"] ["seen"] (ar lj):=⟨rfl,rfl,rfl,by decide+kernel,rfl,by decide+kernel,by decide+kernel⟩
theorem dF:aE ["one","other","enough","ahead","back"] ["one","other"] (ar f_):=⟨rfl,rfl,rfl,by decide+kernel,rfl,by decide+kernel,by decide+kernel⟩
theorem bS:aE ["order","seen","low","high","middle"] ["order","seen"] (ar fF):=⟨rfl,rfl,rfl,by decide+kernel,rfl,by decide+kernel,by decide+kernel⟩
theorem fG:aE ["words","ways","strand","word","place"] ["words","ways","strand"] (ar gc):=⟨rfl,rfl,rfl,by decide+kernel,rfl,by decide+kernel,by decide+kernel⟩
theorem eF:aE ["words","ways","band","order","strand","seen"] ["words","ways","band"] (ar gN):=⟨rfl,rfl,rfl,by decide+kernel,rfl,by decide+kernel,by decide+kernel⟩
theorem sE:aE ["yard","words","longest","ways"] ["yard","words"] (ar wO):=⟨rfl,rfl,rfl,by decide+kernel,rfl,by decide+kernel,by decide+kernel⟩
theorem Cv:aE ["yard","words"] ["yard","words"] (ar so):=⟨rfl,rfl,rfl,by decide+kernel,rfl,by decide+kernel,by decide+kernel⟩
theorem HX:aE ["yard","word"] ["yard","word"] (ar Cn):=⟨rfl,rfl,rfl,by decide+kernel,rfl,by decide+kernel,by decide+kernel⟩
theorem gP:aE ["yard","one","other","every","ones","others"] ["yard","one","other"] (ar lq):=⟨rfl,rfl,rfl,by decide+kernel,rfl,by decide+kernel,by decide+kernel⟩
theorem ko:aE ["_law_script","_law_k","_law_cell","_law_seed"] ["_law_script","_law_k"] (ar wQ):=⟨rfl,rfl,rfl,by decide+kernel,rfl,by decide+kernel,by decide+kernel⟩
theorem oB:aE ["_law_box_here","_law_many","_law_digit","_law_one"] ["_law_box_here","_law_many"] (ar sx):=⟨rfl,rfl,rfl,by decide+kernel,rfl,by decide+kernel,by decide+kernel⟩
theorem lA:aE ["_law_letter","_law_small","_law_capital"] ["_law_letter"] (ar oh):=⟨rfl,rfl,rfl,by decide+kernel,rfl,by decide+kernel,by decide+kernel⟩
theorem eQ:aE ["_law_box_here","_law_few","_law_top","_law_left","_law_ends","_law_k","_law_letter","_law_found"] ["_law_box_here","_law_few","_law_top"] (ar sC):=⟨rfl,rfl,rfl,by decide+kernel,rfl,by decide+kernel,by decide+kernel⟩
theorem cy:aE ["_law_box_here","_law_yard_here","_law_top","_law_many","_law_form","_law_word","_law_letter"] ["_law_box_here","_law_yard_here","_law_top"] (ar oj):=⟨rfl,rfl,rfl,by decide+kernel,rfl,by decide+kernel,by decide+kernel⟩
theorem qJ:aE ["_law_word","_law_many"] ["_law_word"] (ar om):=⟨rfl,rfl,rfl,by decide+kernel,rfl,by decide+kernel,by decide+kernel⟩
theorem wR:aE ["_law_word"] ["_law_word"] (ar lr):=⟨rfl,rfl,rfl,by decide+kernel,rfl,by decide+kernel,by decide+kernel⟩
theorem dG:aE ["_law_box_here","_law_word","_law_many","_law_at","_law_found"] ["_law_box_here","_law_word","_law_many"] (ar dZ):=⟨rfl,rfl,rfl,by decide+kernel,rfl,by decide+kernel,by decide+kernel⟩
theorem qK:aE ["_law_one","_law_other_here","_law_some"] ["_law_one","_law_other_here"] (ar oq):=⟨rfl,rfl,rfl,by decide+kernel,rfl,by decide+kernel,by decide+kernel⟩
theorem d_:aE ["_law_box_here","_law_yard_here","_law_one","_law_other_here","_law_p","_law_q","_law_first","_law_second","_law_due","_law_more","_law_again"] ["_law_box_here","_law_yard_here","_law_one","_law_other_here"] (ar ou):=⟨rfl,rfl,rfl,by decide+kernel,rfl,by decide+kernel,by decide+kernel⟩
theorem jE:aE ["_law_script","_law_k","_law_box_here","_law_yard_here","_law_some","_law_turn","_law_word"] ["_law_script"] (ar Co):=⟨rfl,rfl,rfl,by decide+kernel,rfl,by decide+kernel,by decide+kernel⟩
theorem oE:aE ["self","yard","word","longest","steps","rounds"] ["self","yard","word","longest"] (ar i0):=⟨rfl,rfl,rfl,by decide+kernel,rfl,by decide+kernel,by decide+kernel⟩
theorem zN:aE ["self","strand","way","place"] ["self","strand","way","place"] (ar gs):=⟨rfl,rfl,rfl,by decide+kernel,rfl,by decide+kernel,by decide+kernel⟩
section
variable {P:Program} {w:World} {K:PySem.W.Frag} {mg:Str->Option Value} {base:Heap} {f0 f1 f2 f3 f4 f5 f6 f7 f8 f9 IQ IS IT IU IV IW IX IZ Cp Cq I0 I_ Ja Jb Jc Jd Je Jf Jg Jh Ji Jj Jk Jl Jm Jn Jo Jp Jq Jr Js aJ aP jh gf:Addr} {d0 d1 d2 d3 d4 d5 d6 d7 d8 d9 Jt Ju Jv Jw Jx Jy Jz JA JB JC JD JE JF JG JH JI JJ JK JL JM JN JO JP JQ JR JS JT JU JV JW JX uK ow:FuncData}
variable (T:Txt K mg f0 f1 f2 f3 f4 f5 f6 f7 f8 f9 IQ IS IT IU IV IW IX IZ Cp Cq I0 I_ Ja Jb Jc Jd Je Jf Jg Jh Ji Jj Jk Jl Jm Jn Jo Jp Jq Jr Js aJ aP jh gf d0 d1 d2 d3 d4 d5 d6 d7 d8 d9 Jt Ju Jv Jw Jx Jy Jz JA JB JC JD JE JF JG JH JI JJ JK JL JM JN JO JP JQ JR JS JT JU JV JW JX uK ow)
include T
theorem eR:bA P w K mg base e_ 1 f0 d0 ["letter"] (lM K):=by
 refine T.F0.fn.ok uL (fun vs H Q E h=>rD h) (fun cB A outer s H vs Q E hr h=>?_)
 refine ⟨_,(ae (b5 (g9 (eE K rfl UL WI WH jo (pv 0))) (ah (aG (eE K rfl UL PySem.F.slot_str_upper PySem.F.type_str_upper As (pv 0)))) bB)
   (ah (aG (eE K rfl UL WT WR ni (pv 0))))),?_⟩
 obtain ⟨c,rfl,hc,q⟩:=h
 refine ⟨_,rfl,rfl,c,rfl,rfl,hc,_,rfl,bY (fun e=>?_) (fun e=>?_)⟩
 ·refine ⟨_,rfl,rfl,c,rfl,rfl,hc,?_⟩
  have z:aD c=PyProof.Rows.up1 c:=if_pos e
  rw[<-z]
  exact q
 ·refine ⟨_,rfl,rfl,c,rfl,rfl,hc,?_⟩
  have z:aD c=PyProof.Rows.lo1 c:=if_neg e
  rw[<-z]
  exact q
theorem qL:bA P w K mg base e_ 2 f1 d1 ["word"] (qb K):=by
 have cn:=eR (P:=P) (w:=w) (base:=base) T
 refine T.F1.fn.ok zM (fun vs H Q E h=>vS h) (fun cB A outer s H vs Q E hr h=>?_)
 refine ⟨_,(ah (aG (b6 K rfl UL VZ VY (h_ K rfl) (lW [] (by decide+kernel)) (aa (eJ ["letter"] [none] (AA rfl T.z_reversed (aa (pv 0) ab)) trivial (fun _ _ _ _=>(aU (i:=0) (by decide+kernel:List.Nodup (["letter"]:List Str)) rfl (Or.inl rfl))) (fun _ _ _ _=>hX) (fun _ _ _ _=>(aj cn (hr.mono (by decide)) rfl T.F0.mg T.F0.fn.kp T.F0.bd .nil aB (aa (pv 0) ab)))) ab)))),?_⟩
 obtain ⟨l,rfl,hc,hz,q⟩:=h
 have hs:(1000:Nat)<sizeLine:=by decide
 refine ⟨rfl,_,rfl,l,rfl,by omega,?_⟩
 rw[xu]
 refine jO (xs:=dj l.reverse) (fun i acc H'=>ay H H'/\acc=dj ((l.reverse.take i).map aD)) (by rw[aW,UY];omega) ⟨ay.refl H,rfl⟩ ?_ ?_
 ·rintro i x acc H1 Nx hi hx hl ⟨s1,rfl⟩ nx
  obtain ⟨c,oT,rfl⟩:=iQ hx
  refine ⟨trivial,fL ⟨_,rfl,c,rfl,hc c (WM.mp (UC oT)),nx _ _ (by simpa using hl) ⟨s1,?_⟩⟩⟩
  rw[eL, <-take_snoc oT,Rn]
  rfl
 ·rintro acc H1 D hl ⟨s1,rfl⟩ hD
  refine ⟨D,(cT l).map fun c=>[c],rfl,rfl,bJ.of ?_,?_,?_⟩
  ·rw[ag, <-gi,aW,UR (Mq _),V7]
   rfl
  ·rw[ze]
   unfold cT
   rw[UY,Py]
   omega
  ·rw[qc]
   exact q _ (s1.trans (ay.upd hD))
theorem uM:bA P w K mg base e_ 1 f2 d2 ["yard"] (ud K):=by
 refine T.F2.fn.ok Cu (fun vs H Q E h=>zq h) (fun cB A outer s H vs Q E hr h=>?_)
 refine ⟨_,(ah (aG (b6 K rfl UL VZ VY (h_ K rfl) (lW [] (by decide+kernel)) (aa (aA (rj K rfl) rfl T.z_sorted boot_sorted (aa (eJ ["letter"] [none] (q8 (pv 0)) trivial (fun _ _ _ _=>(aU (i:=0) (by decide+kernel:List.Nodup (["letter"]:List Str)) rfl (Or.inl rfl))) (fun _ _ _ _=>(GN (g9 (eE K rfl UL WI WH jo (pv 0))))) (fun _ _ _ _=>(pv 0))) ab)) ab)))),?_⟩
 obtain ⟨l,rfl,hl,hz,q⟩:=h
 have hs:(1000:Nat)<sizeLine:=by decide
 refine ⟨rfl,_,rfl,l,rfl,?_⟩
 refine jO (xs:=dj l) (fun i acc H'=>ay H H'/\acc=dj ((l.take i).filter az)) (by rw[aW];omega) ⟨ay.refl H,rfl⟩ ?_ ?_
 ·rintro i x acc H1 Nx hi hx JY ⟨s1,rfl⟩ nx
  obtain ⟨c,hc,rfl⟩:=iQ hx
  have e:=ue (p:=az) hc
  refine ⟨trivial,?_⟩
  refine ⟨_,rfl,rfl,c,rfl,rfl,hl c (UC hc),_,rfl,?_⟩
  refine bY (fun z=>?_) (fun z=>?_)
  ·rw[if_pos z]at e
   exact ⟨_,rfl,nx _ _ (by simpa using JY) ⟨s1,by rw[e, <-eL]⟩⟩
  ·rw[if_neg z,Vh]at e
   exact nx _ _ (Nat.le_succ_of_le JY) ⟨s1,by rw[e]⟩
 ·rintro acc H1 D JY ⟨s1,rfl⟩ hD
  rw[t9,gi]
  have T_:(l.filter az).length<=l.length:=W4 _ _
  refine ⟨D,(l.filter az).map fun c=>[c],rfl,bJ.of ag,by rw[Py];omega,fun p ls hp sF LU=>?_⟩
  obtain ⟨l',rfl,pl⟩:=DG sF
  have w6:=pl.length_eq
  refine ⟨p,l'.map fun c=>[c],rfl,rfl,bJ.of ag,by rw[ze];omega,?_⟩
  rw[qc]
  exact q l' _ pl (DH LU) ((s1.trans (ay.upd hD)).trans (ay.upd hp))
theorem o9:bA P w K mg base e_ 1 IS Ju ["words","band"] (jf K):=by
 refine T.MC.fn.ok cx (fun vs H Q E h=>nZ h) (fun cB A outer s H vs Q E hr h=>?_)
 refine ⟨_,(ae (ao (i:=2) cx.nd rfl (Or.inl rfl) (eS ab))
   (ae (cG PassesOwn.never rfl (tP K rfl rfl T.z_enumerate (aa (pv 0) ab)) (mH (n:=2) K rfl rfl (eG (aU (i:=3) cx.nd rfl (Or.inl rfl)) (eG (aU (i:=4) cx.nd rfl (Or.inl rfl)) mE))) (ah (cG PassesOwn.never rfl (AF rfl T.z_enumerate (aa (pv 4) ab)) (mH (n:=2) K rfl rfl (eG (aU (i:=5) cx.nd rfl (Or.inl rfl)) (eG (aU (i:=6) cx.nd rfl (Or.inl rfl)) mE))) (ah (b5 (aL gC (eE K rfl UL WT WR ni (pv 6)) (pv 1) (aO _)) (ah (eA (b6 K rfl UZ VC VB fk (pv 2) (aa (cQ (aa (pv 3) (aa (pv 5) ab))) ab)))) bB)))))
   (ah (aG (pv 2))))),?_⟩
 obtain ⟨wt,ws,band,rfl,uN,hf,hw,hb,q⟩:=h
 have hs:(100000:Nat)<sizeLine:=by decide
 walk_at "wk"
 intro p1 n1
 refine ⟨_,rfl,wt,rfl,⟨_,cS.of ((ay.upd n1) _ _ uN)⟩,?_⟩
 refine p8 (K:=K) (a:=wt) (xs:=iR ws) (fun j σ H'=> ∃(ps:List Pr) (cv wv pv lv:Option V),σ=[some (.ref wt),some (.str (S [band])),some (.ref p1),cv,wv,pv,lv]/\H' p1=some (.lst (qv ps))/\(∀p∈ps,mh H' p)/\ps.map Pr.pair=cI band ws j/\ps.length<=12*j/\ay H H')
  ⟨[],none,none,none,none,rfl,ag,fun _ h=>absurd h UP,rfl,T6 _,ay.upd n1⟩ (fun j σ H' _ ⟨_,_,_,_,_,_,_,_,_,_,h⟩=>cS.of (h _ _ uN)) ?_ ?_
 ·rintro j x σ H1 T hx ⟨ps,cv,wv,pv,lv,rfl,hp,yn,oR,iP,s1⟩ nT
  have hj:j<ws.length:=by
   have:=(GK.mp hx).1
   rwa [dy]at this
  rw[nH hj]at hx
  cases hx
  have HY:ws[j]? =some ws[j]:=GJ hj
  obtain ⟨q0,kA⟩:=hw _ (Vb hj)
  generalize ws[j]=w at HY q0 kA ⊢
  refine ⟨T,_,rfl,cS.of ag,rfl,_,_,rfl,_,_,rfl,rfl,?_⟩
  have sT:=ay.upd (o:= .tup [.int j, .str (S w)]) nT
  refine ⟨_,rfl,w,rfl,?_⟩
  refine AG (l:=w) (fun m σ H'=> ∃(us:List Pr) (pv lv:Option V),σ=[some (.ref wt),some (.str (S [band])),some (.ref p1),some (.int j),some (.str (S w)),pv,lv]/\H' p1=some (.lst (qv us))/\(∀p∈us,mh H' p)/\us.map Pr.pair=cI band ws j++gT band j w m/\us.length<=12*j+m/\ay H H')
   ⟨ps,pv,lv,rfl,sT _ _ hp,fun p vZ=>(yn p vZ).same sT,by rw[oR];show _=_++[];rw[Vh],by omega,s1.trans sT⟩ ?_ ?_
  ·rintro m l σ H2 T2 hm ⟨us,R_,Sa,rfl,xn,zW,zO,HZ,s2⟩ Sb
   have Ua:m<w.length:=(GK.mp hm).1
   have OC:=q0 l (UC hm)
   have es:=wg (band:=band) (c:=j) hm
   have MS:=ay.upd (o:= .tup [.int m, .str (S [l])]) Sb
   refine ⟨T2,_,rfl,cS.of ag,rfl,_,_,rfl,_,_,rfl,rfl,?_⟩
   refine ⟨_,rfl,rfl,l,rfl,rfl,OC.lt,_,rfl,[PyProof.Rows.lo1 l],[band],rfl,rfl,_,rfl,?_⟩
   have ev:decide ([PyProof.Rows.lo1 l]=[band])=we band l:=by rw[<-BE hb OC];simp
   rw[ev]
   have H_:=MS _ _ xn
   refine bY (fun z=>?_) (fun z=>?_)
   ·rw[if_pos z]at es
    refine ⟨_,rfl, .inl ⟨rfl,_,bJ.of H_⟩,_,rfl,_,rfl,by show 2<=sizeLine;decide,fun t nt=>?_⟩
    have zP:=(ay.upd (o:= .tup [.int j, .int m]) nt) _ _ H_
    have s3:=MS.trans (ay.upd (o:= .tup [.int j, .int m]) nt)
    refine ⟨p1,_,_,rfl,rfl,zP,by rw[r9];omega,?_⟩
    refine ⟨us++[⟨t,j,m⟩],_,_,rfl,by rw[ag];exact congrArg (fun x=>some (HO.lst x)) (BA us ⟨t,j,m⟩),fun p vZ=>?_,by rw[Rn,zO,es,VO];rfl,by rw[Rk];show us.length+1<=_;omega,fun a o ea=>by rw[au (aq ea n1)];exact s3 _ _ (s2 a o ea)⟩
    rcases UO.mp vZ with g | g
    ·exact ((zW p g).same s3).ts (du.DI zP)
    ·have e2:=PC.mp g
     subst e2
     exact mh.ts (H:=upd (upd H2 T2 (.tup [.int m, .str (S [l])])) t (.tup [.int j, .int m])) ⟨ag,by show j<1000;omega,by show m<1000;omega⟩ (du.DI zP)
   ·rw[if_neg z,Vh]at es
    exact ⟨us,_,_,rfl,H_,fun p vZ=>(zW p vZ).same MS,by rw[zO,es],by omega,s2.trans MS⟩
  ·rintro σ H2 ⟨us,R_,Sa,rfl,xn,zW,zO,HZ,s2⟩
   exact ⟨us,_,_,_,_,rfl,xn,zW,by rw[zO,ur HY],by omega,s2⟩
 ·rintro σ H1 ⟨ps,cv,wv,pv,lv,rfl,hp,yn,oR,iP,s1⟩
  rw[dy]at oR
  exact ⟨_,rfl,q p1 ps H1 n1 hp yn oR s1⟩
theorem zQ:bA P w K mg base e_ 1 gf ow ["self","strand","way","place"] (qB K aJ):=by
 refine T.HW.ok zN (fun vs H Q E h=>wz h) (fun cB A outer s H vs Q E hr h=>?_)
 refine ⟨_,(ae (hW (pv 0) (pv 1) rfl)
   (ae (hW (pv 0) (pv 2) rfl)
   (ah (hW (pv 0) (pv 3) rfl)))),?_⟩
 obtain ⟨x,dx,t,w',p,rfl,hx,q⟩:=h
 refine ⟨_,rfl,_,rfl,x,aJ,dx,_,rfl,hx,T.c_,T.n_Seen_strand,by show 0<1000;decide,?_⟩
 refine ⟨_,rfl,_,rfl,x,aJ,dx,_,rfl,ag,T.c_,T.n_Seen_way,UX (cJ _ _ _) (by show 0+1<1000;decide),?_⟩
 refine ⟨_,rfl,_,rfl,x,aJ,dx,_,rfl,ag,T.c_,T.n_Seen_place,UX (cJ _ _ _) (UX (VF (cJ _ _ _)) (by show 0+1+1<1000;decide)),?_⟩
 exact q _ ag fun b o e z=>by rw[au z,au z,au z];exact e
theorem oF:bA P w K mg base e_ 3 Jc JH ["words","ways","strand"] (iJ K aP aJ):=by
 have uO:=zQ (P:=P) (w:=w) (base:=base) T
 refine T.MK.fn.ok fG (fun vs H Q E h=>mm h) (fun cB A outer s H vs Q E hr h=>?_)
 refine ⟨_,(ae (ao (i:=3) fG.nd rfl (Or.inl rfl) (aQ (bz K rfl) (pv 0) (aQ (bz K rfl) (pv 2) ai (fun _ _=>rfl)) (fun _ _=>rfl)))
   (ae (ao (i:=4) fG.nd rfl (Or.inl rfl) (aQ (bz K rfl) (pv 2) ai (fun _ _=>rfl)))
   (ae (b5 (g9 (eE K rfl UL WI WH jo (aQ jn (pv 3) (pv 4) (fun _ _=>rfl)))) (ah (aG (mF T.Cs uO (hr.mono (by decide)) rfl T.Cr T.Ct .nil aB (aa (pv 2) (aa (aQ (bz K rfl) (aQ (bK K rfl) (pv 1) (aQ (bz K rfl) (pv 2) ai (fun _ _=>rfl)) (fun _ _=>rfl)) ai (fun _ _=>rfl)) (aa (pv 4) ab)))))) bB)
   (ah (aG (mF T.Cs uO (hr.mono (by decide)) rfl T.Cr T.Ct .nil aB (aa (pv 2) (aa (aQ (bz K rfl) (aQ (bK K rfl) (pv 1) (aQ (bz K rfl) (pv 2) ai (fun _ _=>rfl)) (fun _ _=>rfl)) ai (fun _ _=>rfl)) (aa (ak cA (ak cA (aA aF rfl T.z_len T4 (aa (pv 3) ab)) ai) (pv 4)) ab))))))))),?_⟩
 obtain ⟨y,lg,wt,vt,st,w',ws,kz,p,c,i,rfl,hy,uN,MT,lG,hw,hp,ok,hi,q⟩:=h
 have hs:(100000:Nat)<sizeLine:=by decide
 have kA:=ok.on.uz
 have Qd:=ok.on.lz
 have K4:=ok.on.sw
 have h8:(rd w' i)<128:=(hy.lt _ (K4.rd _)).lt
 have hc:(iR ws)[c]? =some (V.str (S w')):=by
  have hl:=(GK.mp hw).1
  rw[nH hl,(GK.mp hw).2]
 refine ⟨_,rfl,_,rfl,st,_,0,_,rfl,rfl,cS.of lG,rfl,wt,_,_,_,rfl,rfl,cS.of uN,cL hc,?_⟩
 refine ⟨_,rfl,st,_,1,_,rfl,rfl,cS.of lG,rfl,?_⟩
 refine ⟨_,rfl,_,rfl,w',_,_,rfl,rfl,by omega,by rw[nL (by omega) (by omega)],?_⟩
 have made: ∀(x dx:Addr) (H':Hp) (t w2:Addr) (pl:Nat),H x=none->H dx=none->dx≠x->aR x (L2.upd (L2.upd H dx (.own x)) x (.ins aJ dx [])) H'->ay H H':=fun x dx H' t w2 pl nx HH ne sm a o e=>by
  refine sm a o ?_ (aq e nx)
  rw[au (aq e nx),au (aq e HH)]
  exact e
 refine ⟨rfl,_,rfl,rfl,h8,?_⟩
 walk_at "rd"
 refine bY (fun z=>?_) (fun z=>?_)
 ·refine ⟨_,rfl,_,rfl,_,rfl,st,_,0,_,rfl,rfl,cS.of lG,rfl,vt,_,_,_,rfl,rfl,bJ.of MT,cL (B7 hp),p.t,_,0,_,rfl,rfl,cS.of ok.tp,rfl,_,rfl,fun x dx nx HH ne=>⟨x,dx,st,p.a,i,rfl,ag,fun H' hx sm=>⟨rfl,?_⟩⟩⟩
  have Ia:=made x dx H' st p.a i nx HH ne sm
  exact q ⟨x,st,p.a,c,i,w',i,p.r⟩ H' ⟨rfl,rfl,by rw[if_pos z],by rw[if_pos z]⟩ rfl ⟨⟨dx,hx⟩,Ia _ _ lG,ok.on.same Ia,hi⟩ nx Ia
 ·have ei:(w'.length:Int) - 1 - i=((w'.length - 1 - i:Nat):Int):=by omega
  refine ⟨_,rfl,_,rfl,_,rfl,st,_,0,_,rfl,rfl,cS.of lG,rfl,vt,_,_,_,rfl,rfl,bJ.of MT,cL (B7 hp),p.t,_,1,_,rfl,rfl,cS.of ok.tp,rfl,_,rfl,w',rfl,by omega,_,_,rfl,rfl,_,rfl,_,_,rfl,rfl,fun x dx nx HH ne=>⟨x,dx,st,p.b,w'.length - 1 - i,by rw[<-ei];rfl,ag,fun H' hx sm=>⟨rfl,?_⟩⟩⟩
  have Ia:=made x dx H' st p.b 0 nx HH ne sm
  exact q ⟨x,st,p.b,c,i,cT w',w'.length - 1 - i,p.q⟩ H' ⟨rfl,rfl,by rw[if_neg z],by rw[if_neg z]⟩ rfl ⟨⟨dx,hx⟩,Ia _ _ lG,ok.bk.same Ia,by show w'.length - 1 - i<(cT w').length;rw[bN];omega⟩ nx Ia
theorem iO:bA P w K mg base e_ 1 Cp JB ["seen","start","end"] (fB K aP aJ):=by
 refine T.u5.fn.ok iN (fun vs H Q E h=>mj h) (fun cB A outer s H vs Q E hr h=>?_)
 refine ⟨_,(ae (ao (i:=3) iN.nd rfl (Or.inl rfl) (ak aT (bC K rfl (pv 0) rfl) ai))
   (ah (aG (bD jN (bC K rfl (bC K rfl (pv 0) rfl) rfl) (bu (ak aT (pv 3) (pv 1))) (bu (ak aT (pv 3) (pv 2))))))),?_⟩
 obtain ⟨y,lg,s,x,z,rfl,hz,hs,OD,q⟩:=h
 obtain ⟨d1,e1⟩:=hs.ob
 obtain ⟨d2,e2⟩:=hs.wy.ob
 have:=hs.wy.uz
 have:=hs.wy.lz
 have h1:1<=s.u.length:=UX (T6 _) hs.pz
 have rl:=kf (lg:=lg) h1
 have Qe:(100000:Nat)<sizeLine:=by decide
 refine ⟨_,rfl,s.a,aJ,d1,_,_,rfl,e1,T.c_,T.n_Seen_place,ke,?_⟩
 walk_at "rd"
 refine ⟨s.a,aJ,d1,_,_,rfl,e1,T.c_,T.n_Seen_way,kW,s.wy,aP,d2,_,_,rfl,e2,T.fR,T.n_Way_onward,LQ,?_⟩
 walk_at "rd"
 refine ⟨by rw[qC,cN];omega,?_⟩
 rw[show (s.p:Int)+1=((s.p+1:Nat):Int) by omega,x8 OD]
 exact q
theorem jk:bA P w K mg base e_ 1 Cq JC ["seen","start","end"] (fV K aP aJ):=by
 refine T.u6.fn.ok jj (fun vs H Q E h=>nW h) (fun cB A outer s H vs Q E hr h=>?_)
 refine ⟨_,(ae (ao (i:=3) jj.nd rfl (Or.inl rfl) (ak cA (ak cA (bC K rfl (bC K rfl (pv 0) rfl) rfl) ai) (bC K rfl (pv 0) rfl)))
   (ah (aG (bD jN (bC K rfl (bC K rfl (pv 0) rfl) rfl) (bu (ak aT (pv 3) (pv 1))) (bu (ak aT (pv 3) (pv 2))))))),?_⟩
 obtain ⟨y,lg,s,x,z,rfl,hz,hs,OD,q⟩:=h
 obtain ⟨d1,e1⟩:=hs.ob
 obtain ⟨d2,e2⟩:=hs.wy.ob
 have:=hs.wy.uz
 have:=hs.wy.lz
 have hp:=hs.pz
 have h1:1<=s.u.length:=UX (T6 _) hs.pz
 have rl:=kf (lg:=lg) h1
 have Qe:(100000:Nat)<sizeLine:=by decide
 refine ⟨_,rfl,s.a,aJ,d1,_,_,rfl,e1,T.c_,T.n_Seen_way,kW,s.wy,aP,d2,_,_,rfl,e2,T.fR,T.n_Way_size,x6,?_⟩
 walk_at "rd"
 refine ⟨s.a,aJ,d1,_,_,rfl,e1,T.c_,T.n_Seen_place,ke,?_⟩
 walk_at "rd"
 refine ⟨s.a,aJ,d1,_,_,rfl,e1,T.c_,T.n_Seen_way,kW,s.wy,aP,d2,_,_,rfl,e2,T.fR,T.n_Way_backward,Es,?_⟩
 walk_at "rd"
 refine ⟨by rw[qC,UY,cN];omega,?_⟩
 rw[show (s.u.length:Int) - 1 - s.p=((s.u.length - 1 - s.p:Nat):Int) by omega,x8 OD]
 exact q
theorem wU:bA P w K mg base e_ 2 I0 JD ["steps","one","other","enough"] (nX K aP aJ Cp Cq):=by
 have bW:=iO (P:=P) (w:=w) (base:=base) T
 have cq:=jk (P:=P) (w:=w) (base:=base) T
 refine T.HQ.fn.ok da (fun vs H Q E h=>uD h) (fun cB A outer s H vs Q E hr h=>?_)
 refine ⟨_,(ae (ao (i:=4) da.nd rfl (Or.inl rfl) ai)
   (ae (ao (i:=5) da.nd rfl (Or.inl rfl) ai)
   (gD (dc PassesOwn.never (PW.pt (g_ (aL mY (pv 4) (pv 3) (aO _)) (gz (aL gC (jR (pv 0) bW (hr.mono (by decide)) T.u5.fn.kp T.u5.bd cq (hr.mono (by decide)) T.u6.fn.kp T.u6.bd aB (aa (pv 1) (aa (pv 4) (aa (ak aT (pv 4) (pv 5)) ab)))) (jR (pv 0) bW (hr.mono (by decide)) T.u5.fn.kp T.u5.bd cq (hr.mono (by decide)) T.u6.fn.kp T.u6.bd aB (aa (pv 2) (aa (pv 4) (aa (ak aT (pv 4) (pv 5)) ab)))) (aO _))))) (ae (jm (i:=4) da.nd rfl (Or.inl rfl) (pv 5) qS)
   (ah (jm (i:=5) da.nd rfl (Or.inl rfl) ai G8))))
   (gD (dc PassesOwn.never (aL pJ (pv 5) ai (aO _)) (ae (jm (i:=5) da.nd rfl (Or.inl rfl) ai DR)
   (ah (b5 (aL gC (jR (pv 0) bW (hr.mono (by decide)) T.u5.fn.kp T.u5.bd cq (hr.mono (by decide)) T.u6.fn.kp T.u6.bd aB (aa (pv 1) (aa (pv 4) (aa (ak aT (pv 4) (pv 5)) ab)))) (jR (pv 0) bW (hr.mono (by decide)) T.u5.fn.kp T.u5.bd cq (hr.mono (by decide)) T.u6.fn.kp T.u6.bd aB (aa (pv 2) (aa (pv 4) (aa (ak aT (pv 4) (pv 5)) ab)))) (aO _)) (ah (jm (i:=4) da.nd rfl (Or.inl rfl) (pv 5) qS)) bB))))
   (ah (aG (pv 4))))))),?_⟩
 obtain ⟨y,lg,s1,t1,b,en,rfl,hz,hs,ht,Ub,q⟩:=h
 have call: ∀(u:Sn) (x d:Nat) (t:TA) (σ:L2.St) (Q':VK),σ[0]? =some (some (V.ref (if b=true then Cp else Cq)))->iF H aP aJ y lg u->(∀R:List V->Hp->Prop,R [V.ref u.a,V.int x,V.int ((x:Int)+d)] H->t σ H R)->Q' (V.str (S (seg (HD b y lg u) x (x+d)))) H->AV Cp Cq (fB K aP aJ) (fV K aP aJ) E0 (F_ 0) t σ H Q':=by
  intro u x d t σ Q' h0 hu Qf hq
  refine ⟨_,h0,?_⟩
  cases b
  ·exact .inr ⟨rfl,Qf _ ⟨y,lg,u,x,x+d,by rw[U8],hz,hu,by omega,hq⟩⟩
  ·exact .inl ⟨rfl,Qf _ ⟨y,lg,u,x,x+d,by rw[U8],hz,hu,by omega,hq⟩⟩
 generalize (if b=true then Cp else Cq)=fx at call ⊢
 generalize el:HD b y lg s1=l at q
 generalize em:HD b y lg t1=m at q
 walk_at "rd"
 refine ⟨fun σ H'=> ∃(mn sz e:Nat),σ=[some (.ref fx),some (.ref s1.a),some (.ref t1.a),some (.int en),some (.int mn),some (.int sz)]/\H'=H/\sz=2 ^ e/\sz<=1000000/\mn<=1000000/\iG l m mn/\(en<=mn\/ ∃k,mn<=k/\k<mn+sz/\l[k]?≠ m[k]?),?_,?_⟩
 ·refine ⟨fun w σ H'=> ∃(mn sz e:Nat),σ=[some (.ref fx),some (.ref s1.a),some (.ref t1.a),some (.int en),some (.int mn),some (.int sz)]/\H'=H/\w=en - mn/\sz=2 ^ e/\mn+1=sz/\mn<=2*en/\iG l m mn,⟨_,0,1,0,rfl,rfl,rfl,rfl,rfl,T6 _,fun k hk=>absurd hk (WZ _)⟩,?_⟩
  rintro w' σ H2 ⟨mn,sz,e,rfl,rfl,rfl,he,Uc,MA,ha⟩
  walk_at "rd"
  refine bY (fun z=>?_) (fun z=>?_)
  ·have z1:(mn:Int)<en:=of_decide_eq_true z
   refine call s1 mn sz _ _ _ rfl hs (fun R hR=>⟨_,rfl,_,rfl,_,rfl,_,rfl,_,_,rfl,rfl,hR⟩) ?_
   refine call t1 mn sz _ _ _ rfl ht (fun R hR=>⟨_,rfl,_,rfl,_,rfl,_,rfl,_,_,rfl,rfl,hR⟩) ?_
   rw[el,em]
   walk_at "rd"
   refine bY (fun y1=>?_) (fun y1=>?_)
   ·have y2:seg l mn (mn+sz)=seg m mn (mn+sz):=by simpa using of_decide_eq_true y1
    refine ⟨_,rfl,_,rfl,_,_,rfl,rfl,_,rfl,_,_,rfl,rfl, .inl ⟨by omega,by omega⟩,?_⟩
    refine ⟨en - (mn+sz),by omega,mn+sz,sz*2,e+1,by rw[U8,Vr];rfl,rfl,rfl,by rw[he,Nat.pow_succ],by omega,by omega,ha.more y2⟩
   ·have y2:seg l mn (mn+sz)≠seg m mn (mn+sz):=fun w=>y1 (decide_eq_true (by rw[w]))
    exact ⟨mn,sz,e,rfl,rfl,he,by omega,by omega,ha, .inr (B2 y2)⟩
  ·have z1: ¬(mn:Int)<en:=fun w=>z (decide_eq_true w)
   exact ⟨mn,sz,e,rfl,rfl,he,by omega,by omega,ha, .inl (by omega)⟩
 ·rintro σ H2 ⟨mn,sz,e,rfl,rfl,he,hsz,MA,ha,hb⟩
  refine ⟨fun σ H'=> ∃mn:Nat,σ=[some (.ref fx),some (.ref s1.a),some (.ref t1.a),some (.int en),some (.int mn),some (.int 1)]/\H'=H2/\iG l m mn/\(en<=mn\/l[mn]?≠ m[mn]?),?_,?_⟩
  ·refine ⟨fun w σ H'=> ∃(mn sz e:Nat),σ=[some (.ref fx),some (.ref s1.a),some (.ref t1.a),some (.int en),some (.int mn),some (.int sz)]/\H'=H2/\sz=w/\sz=2 ^ e/\sz<=1000000/\mn<=3000000 - 2*sz/\iG l m mn/\(en<=mn\/ ∃k,mn<=k/\k<mn+sz/\l[k]?≠ m[k]?),⟨_,mn,sz,e,rfl,rfl,rfl,he,hsz,by omega,ha,hb⟩,?_⟩
   rintro w' σ H3 ⟨mn,sz,e,rfl,rfl,rfl,he,hsz,MA,ha,hb⟩
   walk_at "rd"
   refine bY (fun z=>?_) (fun z=>?_)
   ·have z1:(1:Int)<sz:=of_decide_eq_true z
    obtain ⟨e',rfl⟩: ∃e',e=e'+1:=⟨e - 1,by
     cases e with
     | zero=>rw[he]at z1;simp at z1
     | succ e=>rfl⟩
    have hh:sz=2*2 ^ e':=by rw[he,Nat.pow_succ,VD]
    have hp:0<2 ^ e':=Nat.pow_pos (by decide)
    generalize LV:2 ^ e'=h2 at hh hp
    have OE:=LV.symm
    have ed:(sz:Int) / 2=(h2:Nat):=by omega
    refine ⟨_,rfl,_,_,rfl,rfl,⟨by decide,by decide⟩,?_⟩
    refine call s1 mn h2 _ _ _ rfl hs (fun R hR=>⟨_,rfl,_,rfl,_,rfl,_,rfl,_,_,rfl,rfl,by rw[ed];exact hR⟩) ?_
    refine call t1 mn h2 _ _ _ rfl ht (fun R hR=>⟨_,rfl,_,rfl,_,rfl,_,rfl,_,_,rfl,rfl,by rw[ed];exact hR⟩) ?_
    rw[el,em]
    walk_at "rd"
    have LU: ∃e2,h2=2 ^ e2:=⟨e',OE⟩
    obtain ⟨e2,Qg⟩:=LU
    refine bY (fun y1=>?_) (fun y1=>?_)
    ·have y2:seg l mn (mn+h2)=seg m mn (mn+h2):=by simpa using of_decide_eq_true y1
     refine ⟨_,rfl,_,rfl,_,_,rfl,rfl,?_⟩
     refine ⟨h2,by omega,mn+h2,h2,e2,by rw[U8, <-ed];rfl,rfl,rfl,Qg,by omega,by omega,ha.more y2,?_⟩
     rcases hb with hb | ⟨k,k1,k2,k3⟩
     ·exact .inl (by omega)
     ·refine .inr ⟨k,Classical.byContradiction fun w=>k3 (wA.mp y2 k k1 (by omega)),by omega,k3⟩
    ·have y2:seg l mn (mn+h2)≠seg m mn (mn+h2):=fun w=>y1 (decide_eq_true (by rw[w]))
     exact ⟨h2,by omega,mn,h2,e2,by rw[<-ed];rfl,rfl,rfl,Qg,by omega,by omega,ha, .inr (B2 y2)⟩
   ·have z1: ¬(1:Int)<sz:=fun w=>z (decide_eq_true w)
    have hp:0<2 ^ e:=Nat.pow_pos (by decide)
    have e1:sz=1:=by omega
    subst e1
    exact ⟨mn,rfl,rfl,ha,hb.imp id fun ⟨k,k1,k2,k3⟩=>by rwa [show k=mn by omega]at k3⟩
  ·rintro σ H3 ⟨mn,rfl,rfl,ha,hb⟩
   exact ⟨_,rfl,q mn ha hb⟩
theorem wV:bA P w K mg base e_ 1 I_ JE ["seen"] (nY K aP aJ):=by
 refine T.HR.fn.ok jD (fun vs H Q E h=>uE h) (fun cB A outer s H vs Q E hr h=>?_)
 refine ⟨_,(ae (ao (i:=1) jD.nd rfl (Or.inl rfl) (bC K rfl (pv 0) rfl))
   (ae (ao (i:=2) jD.nd rfl (Or.inl rfl) (aQ (bz K rfl) (bC K rfl (pv 0) rfl) ai (fun _ _=>rfl)))
   (ae (b5 (g9 (bC K rfl (pv 1) rfl)) (ah (aG (cQ (aa (pv 2) (aa (ak bV (bC K rfl (pv 0) rfl) (bC K rfl (pv 1) rfl)) ab))))) bB)
   (ah (aG (cQ (aa (lH hV (pv 2)) (aa (lH hV (ak bV (ak cA (ak cA (bC K rfl (pv 1) rfl) ai) (bC K rfl (pv 0) rfl)) (bC K rfl (pv 1) rfl))) ab)))))))),?_⟩
 obtain ⟨y,lg,s1,rfl,hs,q⟩:=h
 obtain ⟨d1,e1⟩:=hs.ob
 obtain ⟨d2,e2⟩:=hs.wy.ob
 have hp:=hs.pz
 have rp:=iI hs.wy.sw.ne hs.wy.rt
 have u1:=hs.wy.uz
 have u2:=hs.wy.lz
 refine ⟨_,rfl,s1.a,aJ,d1,_,_,rfl,e1,T.c_,T.n_Seen_way,kW,?_⟩
 refine ⟨_,rfl,s1.a,aJ,d1,_,_,rfl,e1,T.c_,T.n_Seen_strand,qA,s1.t,_,0,_,rfl,rfl,cS.of hs.st,rfl,?_⟩
 refine ⟨_,rfl,s1.wy,aP,d2,_,_,rfl,e2,T.fR,T.n_Way_leads,BZ,?_⟩
 walk_at "rd"
 have Sd:(s1.p:Int) / (s1.r:Int)=((s1.p / s1.r:Nat):Int):=(VQ _ _).symm
 have Se:((s1.u.length:Int) - 1 - s1.p) / (s1.r:Int)=(((s1.u.length - 1 - s1.p) / s1.r:Nat):Int):=by
  rw[VQ];congr 1;omega
 refine bY (fun z=>?_) (fun z=>?_)
 ·refine ⟨_,rfl,_,rfl,s1.a,aJ,d1,_,_,rfl,e1,T.c_,T.n_Seen_place,ke,_,rfl,s1.wy,aP,d2,_,_,rfl,e2,T.fR,T.n_Way_root_size,mR,_,_,rfl,rfl,⟨by omega,by omega⟩,by show 2<=sizeLine;decide,fun p np=>?_⟩
  refine q p _ np ?_ (ay.upd np)
  rw[ag]
  unfold wB
  rw[if_pos z, <-Sd]
 ·refine ⟨_,rfl,_,rfl,_,rfl,s1.wy,aP,d2,_,_,rfl,e2,T.fR,T.n_Way_size,x6,_,_,rfl,rfl,_,rfl,s1.a,aJ,d1,_,_,rfl,e1,T.c_,T.n_Seen_place,ke,_,_,rfl,rfl,_,rfl,s1.wy,aP,d2,_,_,rfl,e2,T.fR,T.n_Way_root_size,mR,_,_,rfl,rfl,⟨by omega,by omega⟩,_,rfl,by show 2<=sizeLine;decide,fun p np=>?_⟩
  refine q p _ np ?_ (ay.upd np)
  rw[ag]
  unfold wB
  rw[if_neg z, <-Se]
theorem oG:bA P w K mg base e_ 3 Ja JF ["one","other"] (iH K aP aJ):=by
 have qM:=wU (P:=P) (w:=w) (base:=base) T
 have qN:=wV (P:=P) (w:=w) (base:=base) T
 have bW:=iO (P:=P) (w:=w) (base:=base) T
 have cq:=jk (P:=P) (w:=w) (base:=base) T
 refine T.MI.fn.ok dF (fun vs H Q E h=>ml h) (fun cB A outer s H vs Q E hr h=>?_)
 refine ⟨_,(ae (ao (i:=2) dF.nd rfl (Or.inl rfl) (ak aT (bC K rfl (bC K rfl (pv 0) rfl) rfl) (bC K rfl (bC K rfl (pv 1) rfl) rfl)))
   (ae (ao (i:=3) dF.nd rfl (Or.inl rfl) (aj qM (hr.mono (by decide)) rfl T.HQ.mg T.HQ.fn.kp T.HQ.bd .nil aB (aa (w_ (v:= .ref Cp) rfl T.u5.mg rfl) (aa (pv 0) (aa (pv 1) (aa (pv 2) ab))))))
   (ae (ao (i:=4) dF.nd rfl (Or.inl rfl) (aj qM (hr.mono (by decide)) rfl T.HQ.mg T.HQ.fn.kp T.HQ.bd .nil aB (aa (w_ (v:= .ref Cq) rfl T.u6.mg rfl) (aa (pv 0) (aa (pv 1) (aa (pv 2) ab))))))
   (ae (b5 (aL Ag (aA (pK rfl) rfl T.z_min boot_min (aa (pv 3) (aa (pv 4) ab))) (pv 2) (aO _)) (ah (aG (fI (G6 K rfl hr) (aj qN (hr.mono (by decide)) rfl T.HR.mg T.HR.fn.kp T.HR.bd .nil aB (aa (pv 0) ab)) (aj qN (hr.mono (by decide)) rfl T.HR.mg T.HR.fn.kp T.HR.bd .nil aB (aa (pv 1) ab)) (aO _)))) bB)
   (ae (b5 (aL E8 (pv 3) (pv 4) (aO _)) (ah (aG (fI ra (aj bW (hr.mono (by decide)) rfl T.u5.mg T.u5.fn.kp T.u5.bd .nil aB (aa (pv 0) (aa (pv 3) (aa (ak aT (pv 3) ai) ab)))) (aj bW (hr.mono (by decide)) rfl T.u5.mg T.u5.fn.kp T.u5.bd .nil aB (aa (pv 1) (aa (pv 3) (aa (ak aT (pv 3) ai) ab)))) (aO _)))) bB)
   (ah (aG (fI ra (aj cq (hr.mono (by decide)) rfl T.u6.mg T.u6.fn.kp T.u6.bd .nil aB (aa (pv 0) (aa (pv 4) (aa (ak aT (pv 4) ai) ab)))) (aj cq (hr.mono (by decide)) rfl T.u6.mg T.u6.fn.kp T.u6.bd .nil aB (aa (pv 1) (aa (pv 4) (aa (ak aT (pv 4) ai) ab)))) (aO _))))))))),?_⟩
 obtain ⟨y,lg,s1,t1,rfl,hy,hz,hs,ht,h0,q⟩:=h
 obtain ⟨d1,e1⟩:=hs.ob
 obtain ⟨d2,e2⟩:=hs.wy.ob
 obtain ⟨d3,e3⟩:=ht.ob
 obtain ⟨d4,e4⟩:=ht.wy.ob
 have rp:=iI hs.wy.sw.ne hs.wy.rt
 have Ud:=iI ht.wy.sw.ne ht.wy.rt
 have u1:=hs.wy.uz
 have Ue:=ht.wy.uz
 have u2:=hs.wy.lz
 have ns:=hs.wy.sw.ne
 have nt:=ht.wy.sw.ne
 have lf:=bg hs.wy.sw (s1.p:Int)
 have MU:=bg ht.wy.sw (t1.p:Int)
 have as:=qD (lg:=lg) (s:=s1) (en:=s1.r+t1.r) hs.pz (by omega)
 have at':=qD (lg:=lg) (s:=t1) (en:=s1.r+t1.r) ht.pz (by omega)
 refine ⟨_,rfl,s1.a,aJ,d1,_,_,rfl,e1,T.c_,T.n_Seen_way,kW,s1.wy,aP,d2,_,_,rfl,e2,T.fR,T.n_Way_root_size,mR,_,rfl,t1.a,aJ,d3,_,_,rfl,e3,T.c_,T.n_Seen_way,kW,t1.wy,aP,d4,_,_,rfl,e4,T.fR,T.n_Way_root_size,mR,_,_,rfl,rfl,?_⟩
 refine ⟨_,rfl,_,rfl,_,rfl,y,lg,s1,t1,true,s1.r+t1.r,by rw[U8];rfl,hz,hs,ht,by omega,fun m Lv DM=>?_⟩
 refine ⟨_,rfl,_,rfl,_,rfl,y,lg,s1,t1,false,s1.r+t1.r,by rw[U8];rfl,hz,hs,ht,by omega,fun n Sf ve=>?_⟩
 have OF:iG (z5 y lg s1) (z5 y lg t1) m:=Lv
 have LW:s1.r+t1.r<=m\/(z5 y lg s1)[m]?≠ (z5 y lg t1)[m]?:= DM
 have OG:iG (z6 y lg s1) (z6 y lg t1) n:=Sf
 have LX:s1.r+t1.r<=n\/(z6 y lg s1)[n]?≠ (z6 y lg t1)[n]?:= ve
 have ga: ∀k,k<s1.r+t1.r->(z5 y lg s1)[k]? =some (uZ (dW y (sq s1.u s1.p) (k+1)))/\(z5 y lg t1)[k]? =some (uZ (dW y (sq t1.u t1.p) (k+1))):=fun k hk=>⟨B3 ns (by omega),B3 nt (by omega)⟩
 have gb: ∀k,k<s1.r+t1.r->(z6 y lg s1)[k]? =some (uZ (dW y (sq s1.u s1.p) (-(k:Int))))/\(z6 y lg t1)[k]? =some (uZ (dW y (sq t1.u t1.p) (-(k:Int)))):=fun k hk=>⟨B4 ns hs.pz (by omega),B4 nt ht.pz (by omega)⟩
 refine ⟨_,rfl,_,rfl,_,_,rfl,?_⟩
 walk_at "rd"
 by_cases par: ∀k,sq s1.u s1.p k=sq t1.u t1.p k
 ·have ef:sq s1.u s1.p=sq t1.u t1.p:=funext par
  have m1:s1.r+t1.r<=m:=yi (fun k hk=>by rw[(ga k hk).1,(ga k hk).2,ef]) LW
  have n1:s1.r+t1.r<=n:=yi (fun k hk=>by rw[(gb k hk).1,(gb k hk).2,ef]) LX
  refine bY (fun z=>?_) (fun z=>absurd (decide_eq_true (show ((s1.r:Int)+t1.r)<=(if (n:Int)<m then (n:Int) else m) by split<;>omega)) z)
  refine ⟨_,rfl,y,lg,s1,rfl,hs,fun p1 H1 Ug wu LY=>⟨_,rfl,y,lg,t1,rfl,ht.same LY,fun p2 H2 OH xn bO=>?_⟩⟩
  refine ⟨p1,p2,_,_,_,_,rfl,rfl,cS.of (bO _ _ wu),cS.of xn,?_⟩
  have e:CY (wB s1).1 (wB s1).2 (wB t1).1 (wB t1).2=bp (i_ y (2*lg) s1) (i_ y (2*lg) t1):=by
   unfold i_
   rw[ef,eN,Eu]
  have kq:=q H2 (LY.trans bO)
  rw[<-e]at kq
  exact kq
 ·have dh: ∃k,sq s1.u s1.p k≠sq t1.u t1.p k:=Classical.byContradiction fun z=>par fun k=>Classical.byContradiction fun w=>z ⟨k,w⟩
  have z0:sq s1.u s1.p 0=sq t1.u t1.p 0:=by unfold sq;rw[WX,WX];exact h0
  obtain ⟨a,b,rn,ha,hb⟩:=cW (p:=s1.r) (q:=t1.r) (by omega) (by omega) (x_ ns hs.wy.rt s1.p) (x_ nt ht.wy.rt t1.p) z0 dh
  have pf:=yg hy lf
  have pg:=yg hy MU
  have key:=kN hy lf MU rn [(wB s1).1,(wB s1).2] [(wB t1).1,(wB t1).2] (2*lg) 0 (T6 _) (T6 _) (by omega) (by omega)
  have sa:dW y (sq s1.u s1.p) (a+1)≠dW y (sq t1.u t1.p) (a+1):=fun w=>rn.hi (by
   unfold dW at w
   rw[show (a:Int)+1 - 1=a by omega, <-rn.mM a (by omega) (by omega)]at w
   exact j7 (hy.cl _ (lf.bL _)) (lf.bL _) (MU.bL _) w)
  have sb:dW y (sq s1.u s1.p) (-(b:Int))≠dW y (sq t1.u t1.p) (-(b:Int)):=fun w=>by
   have c:=wa hy lf MU (rn.mM (-(b:Int)) (by omega) (by omega)) rn.lo
   unfold gx at c
   rw[w]at c
   simp at c
  have em:m=a:=yh ha (fun k hk=>by
   rw[(ga k (by omega)).1,(ga k (by omega)).2]
   unfold dW
   rw[show (k:Int)+1 - 1=k by omega,rn.mM k (by omega) (by omega),rn.mM (k+1) (by omega) (by omega)]) (fun w=>sa (yf (pf _) (pg _) (by rw[(ga a ha).1,(ga a ha).2]at w;exact UE w))) OF LW
  have en:n=b:=yh hb (fun k hk=>by
   rw[(gb k (by omega)).1,(gb k (by omega)).2]
   unfold dW
   rw[rn.mM (-(k:Int)) (by omega) (by omega),rn.mM (-(k:Int) - 1) (by omega) (by omega)]) (fun w=>sb (yf (pf _) (pg _) (by rw[(gb b hb).1,(gb b hb).2]at w;exact UE w))) OG LX
  subst em
  subst en
  refine bY (fun z=>absurd (show ((s1.r:Int)+t1.r)<=(if (n:Int)<m then (n:Int) else m) from of_decide_eq_true z) (by split<;>omega)) (fun z=>?_)
  walk_at "rd"
  have Ay:(m:Int)+1=((m+1:Nat):Int):=by omega
  have Hu:(n:Int)+1=((n+1:Nat):Int):=by omega
  refine bY (fun z2=>?_) (fun z2=>?_)
  ·have z3:m<=n:=by have:=of_decide_eq_true z2;omega
   refine ⟨_,rfl,_,rfl,_,rfl,_,_,rfl,rfl,y,lg,s1,m,m+1,by rw[<-Ay];rfl,hz,hs,by omega,?_⟩
   refine ⟨_,rfl,_,rfl,_,rfl,_,_,rfl,rfl,y,lg,t1,m,m+1,by rw[<-Ay];rfl,hz,ht,by omega,?_⟩
   refine ⟨_,_,rfl,rfl,?_⟩
   rw[if_pos z3]at key
   have e:decide (seg (z5 y lg s1) m (m+1)<seg (z5 y lg t1) m (m+1))=bp (i_ y (2*lg) s1) (i_ y (2*lg) t1):=by
    rw[mS (ga m ha).1,mS (ga m ha).2,B6]
    exact (decide_eq_decide.mpr (B5 (pf _) (pg _))).trans key.symm
   have kq:=q H (ay.refl H)
   rw[<-e]at kq
   exact kq
  ·have z3: ¬m<=n:=fun w=>z2 (decide_eq_true (by omega))
   refine ⟨_,rfl,_,rfl,_,rfl,_,_,rfl,rfl,y,lg,s1,n,n+1,by rw[<-Hu];rfl,hz,hs,by omega,?_⟩
   refine ⟨_,rfl,_,rfl,_,rfl,_,_,rfl,rfl,y,lg,t1,n,n+1,by rw[<-Hu];rfl,hz,ht,by omega,?_⟩
   refine ⟨_,_,rfl,rfl,?_⟩
   rw[if_neg z3]at key
   have e:decide (seg (z6 y lg s1) n (n+1)<seg (z6 y lg t1) n (n+1))=bp (i_ y (2*lg) s1) (i_ y (2*lg) t1):=by
    rw[mS (gb n hb).1,mS (gb n hb).2,B6]
    exact (decide_eq_decide.mpr (B5 (pf _) (pg _))).trans key.symm
   have kq:=q H (ay.refl H)
   rw[<-e]at kq
   exact kq
theorem mw:bA P w K mg base e_ 4 Jb JG ["order","seen"] (gX K aP aJ):=by
 have o_:=oG (P:=P) (w:=w) (base:=base) T
 refine T.MJ.fn.ok bS (fun vs H Q E h=>kY h) (fun cB A outer s H vs Q E hr h=>?_)
 refine ⟨_,(ae (ao (i:=2) bS.nd rfl (Or.inl rfl) ai)
   (ae (ao (i:=3) bS.nd rfl (Or.inl rfl) (aA (bj K rfl) rfl T.z_len T4 (aa (pv 0) ab)))
   (ae (dc PassesOwn.never (aL mY (pv 2) (pv 3) (aO _)) (ae (ao (i:=4) bS.nd rfl (Or.inl rfl) (ak bV (ak aT (pv 2) (pv 3)) ai))
   (ah (b5 (g9 (aj o_ (hr.mono (by decide)) rfl T.MI.mg T.MI.fn.kp T.MI.bd .nil aB (aa (aQ (bK K rfl) (pv 0) (pv 4) (fun _ _=>rfl)) (aa (pv 1) ab)))) (ah (ao (i:=2) bS.nd rfl (Or.inl rfl) (ak aT (pv 4) ai))) (ah (ao (i:=3) bS.nd rfl (Or.inl rfl) (pv 4)))))))
   (ah (aG (pv 2)))))),?_⟩
 obtain ⟨y,lg,a,ss,t1,rfl,hy,hz,ha,Cw,ht,up,hn,q⟩:=h
 have hs:(100000:Nat)<sizeLine:=by decide
 have key:=V8.mp up
 refine ⟨_,rfl,a,_,rfl, .inl (bJ.of ha),?_⟩
 walk_at "rd"
 refine ⟨fun m σ H'=> ∃(lo hi:Nat) (mv:Option V),σ=[some (.ref a),some (.ref t1.a),some (.int lo),some (.int hi),mv]/\m=hi - lo/\lo<=hi/\hi<=ss.length/\(∀k s,ss[k]? =some s->k<lo->bp (i_ y (2*lg) s) (i_ y (2*lg) t1)=true)/\(∀k s,ss[k]? =some s->hi<=k->bp (i_ y (2*lg) s) (i_ y (2*lg) t1)=false)/\ay H H',⟨_,0,ss.length,none,by rw[kg];rfl,rfl,T6 _,Mq _,fun k s _ hk=>absurd hk (WZ _),(fun k s e hk=>by rw[VL hk]at e;cases e),ay.refl H⟩,?_⟩
 rintro m σ H2 ⟨lo,hi,mv,rfl,rfl,h1,h2,h3,h4,s2⟩
 walk_at "rd"
 refine bY (fun z=>?_) (fun z=>?_)
 ·have z1:(lo:Int)<hi:=of_decide_eq_true z
  have em:(((lo:Int)+hi) / 2)=(((lo+hi) / 2:Nat):Int):=by omega
  have hm:(lo+hi) / 2<ss.length:=by omega
  have hg:ss[(lo+hi) / 2]? =some ss[(lo+hi) / 2]:=GJ hm
  obtain ⟨ok,e0⟩:=Cw _ (Vb hm)
  walk_at "rd"
  refine ⟨a,_,((lo:Int)+hi) / 2,_,rfl,rfl,bJ.of (s2 _ _ ha),by rw[em];exact cL (HE hg),_,rfl,y,lg,ss[(lo+hi) / 2],t1,rfl,hy,hz,ok.same s2,ht.same s2,e0,fun H3 s3=>?_⟩
  walk_at "rd"
  refine bY (fun y1=>?_) (fun y1=>?_)
  ·walk_at "rd"
   have e1:((lo:Int)+hi) / 2+1=(((lo+hi) / 2+1:Nat):Int):=by omega
   refine ⟨hi - ((lo+hi) / 2+1),by omega,(lo+hi) / 2+1,hi,_,by rw[<-e1];rfl,rfl,by omega,h2,fun k s e hk=>?_,h4,s2.trans s3⟩
   by_cases q1:k=(lo+hi) / 2
   ·subst q1
    rw[hg]at e
    cases e
    exact y1
   ·obtain ⟨Fc,ek⟩:=GK.mp e
    have LZ:=key k ((lo+hi) / 2) Fc hm (by omega)
    rw[ek]at LZ
    cases r:bp (i_ y (2*lg) s) (i_ y (2*lg) t1)
    ·have:=L2.rA _ _ _ r LZ
     rw[this]at y1
     cases y1
    ·rfl
  ·walk_at "rd"
   have y2:bp (i_ y (2*lg) ss[(lo+hi) / 2]) (i_ y (2*lg) t1)=false:=by simpa using y1
   refine ⟨(lo+hi) / 2 - lo,by omega,lo,(lo+hi) / 2,_,by rw[<-em];rfl,rfl,by omega,by omega,h3,fun k s e hk=>?_,s2.trans s3⟩
   by_cases q1:k=(lo+hi) / 2
   ·subst q1
    rw[hg]at e
    cases e
    exact y2
   ·obtain ⟨Fc,ek⟩:=GK.mp e
    have LZ:=key ((lo+hi) / 2) k hm Fc (by omega)
    rw[ek]at LZ
    exact L2.rA _ _ _ y2 LZ
 ·have z1: ¬(lo:Int)<hi:=fun w=>z (decide_eq_true w)
  walk_at "rd"
  have e:hi=lo:=by omega
  subst e
  exact q hi H2 h2 h3 h4 s2
theorem pb:bA P w K mg base e_ 5 Jd JI ["words","ways","band"] (jg K aP aJ):=by
 have sG:=o9 (P:=P) (w:=w) (base:=base) T
 have ph:=oF (P:=P) (w:=w) (base:=base) T
 have oH:=mw (P:=P) (w:=w) (base:=base) T
 refine T.ML.fn.ok eF (fun vs H Q E h=>n5 h) (fun cB A outer s H vs Q E hr h=>?_)
 refine ⟨_,(ae (ao (i:=3) eF.nd rfl (Or.inl rfl) (eS ab))
   (ae (cG PassesOwn.never rfl (ie K rfl (aj sG (hr.mono (by decide)) rfl T.MC.mg T.MC.fn.kp T.MC.bd .nil aB (aa (pv 0) (aa (pv 2) ab)))) (aU (i:=4) eF.nd rfl (Or.inl rfl)) (ae (ao (i:=5) eF.nd rfl (Or.inl rfl) (aj ph (hr.mono (by decide)) rfl T.MK.mg T.MK.fn.kp T.MK.bd .nil aB (aa (pv 0) (aa (pv 1) (aa (pv 4) ab)))))
   (ah (eA (b6 K rfl UZ PySem.F.slot_list_insert PySem.F.type_list_insert y8 (pv 3) (aa (aj oH (hr.mono (by decide)) rfl T.MJ.mg T.MJ.fn.kp T.MJ.bd .nil aB (aa (pv 3) (aa (pv 5) ab))) (aa (pv 5) ab)))))))
   (ah (aG (dN (fu K rfl) rfl T.z_tuple boot_tuple (aa (eJ ["seen"] [none] (ie K rfl (pv 3)) trivial (fun _ _ _ _=>(aU (i:=0) (by decide+kernel:List.Nodup (["seen"]:List Str)) rfl (Or.inl rfl))) (fun _ _ _ _=>hX) (fun _ _ _ _=>(bC K rfl (pv 0) rfl))) ab)))))),?_⟩
 obtain ⟨y,lg,wt,vt,ws,kz,band,rfl,hy,hz,uN,OI,pj,hb,MT,q0,L0,q⟩:=h
 have hs:(100000:Nat)<sizeLine:=by decide
 walk_at "rd"
 intro a na
 have s0:=ay.upd (o:= .lst []) na
 refine ⟨_,rfl,_,rfl,wt,ws,band,rfl,s0 _ _ uN,OI,fun w hw=>⟨fun c hc=>hy.lt c ((pj w hw).1.bL c hc),(pj w hw).2⟩,hb,fun b ps H1 nb y_ yn oR s1=>?_⟩
 have Ib:=s0.trans s1
 have Sg:b≠a:=fun z=>by rw[z,ag]at nb;cases nb
 have Sh:ps.length<=48:=by
  have h1:(ps.map Pr.pair).length<=48:=by
   rw[oR]
   have:=iK band (fun w hw=>(pj w hw).2) ws.length (Mq _)
   omega
  rwa [Py]at h1
 have pin: ∀p∈ps, ∃w,ws[p.c]? =some w/\p.i<w.length/\we band (rd w p.i)=true:=fun p hp=>by
  have hm:p.pair∈cI band ws ws.length:=by rw[<-oR];exact UQ.mpr ⟨p,hp,rfl⟩
  exact wD hm
 refine ⟨b,rfl,⟨_,bJ.of y_⟩,?_⟩
 refine jH (K:=K) (a:=b) (xs:=qv ps) (fun k σ H'=> ∃(ss:List Sn) (sv nv:Option V),σ=[some (.ref wt),some (.ref vt),some (.str (S [band])),some (.ref a),sv,nv]/\H' a=some (.lst (yj ss))/\(∀s∈ss,iF H' aP aJ y lg s/\rd s.u s.p=band/\ ∃w,ws[s.c]? =some w/\wC w s.c s.i s/\s.i<w.length)/\(ss.map fun s=>(s.c,s.i)).Perm ((ps.take k).map Pr.pair)/\zG y (2*lg) ss/\aR a H1 H')
  ⟨[],none,none,rfl,s1 _ _ ag,fun _ h=>absurd h UP, .nil,List.Pairwise.nil,aR.refl _ _⟩ (fun k σ H' _ ⟨_,_,_,_,_,_,_,_,h⟩=>bJ.of (h _ _ y_ Sg)) ?_ ?_
 ·rintro k x σ H2 hx ⟨ss,sv,nv,rfl,ha,Cw,sF,JZ,s2⟩
  obtain ⟨p,hp,rfl⟩:=BB hx
  have hk:k<ps.length:=(GK.mp hp).1
  have L1:=UC hp
  obtain ⟨w,hw,hi,ho⟩:=pin p L1
  have Si:=UC hw
  have Qh:p.c<kz.length:=by rw[q0];exact (GK.mp hw).1
  have bR:=L0 p.c w kz[p.c] hw (GJ Qh)
  have go: ∀c o,H c=some o->H2 c=some o:=fun c o e=>s2 _ _ (Ib c o e) (aq e na)
  have OJ:=(yn p L1).tp
  have Sj:p.t≠a:=fun z=>by rw[z,s1 _ _ ag]at OJ;cases OJ
  have OK:=s2 _ _ OJ Sj
  have Sk:ss.length=k:=by
   have:=sF.length_eq
   rw[Py,Py,UB]at this
   omega
  refine ⟨_,rfl,_,rfl,_,rfl,y,lg,wt,vt,p.t,w,ws,kz,kz[p.c],p.c,p.i,rfl,hy,go _ _ uN,go _ _ MT,OK,hw,GJ Qh,bR.same go,hi,fun s H3 FL lG Qi Uh s3=>?_⟩
  have Qj:=FL.band hy (pj w Si).1 hi hb ho
  refine ⟨_,rfl, .inl ⟨rfl,_,bJ.of (s3 _ _ ha)⟩,_,rfl,_,rfl,y,lg,a,ss,s,rfl,hy,hz,s3 _ _ ha,fun t ht=>⟨(Cw t ht).1.same s3,by rw[(Cw t ht).2.1,Qj]⟩,Qi,JZ,by omega,fun n H4 hn h1 h2 s4=>?_⟩
  have Qk:=s4 _ _ (s3 _ _ ha)
  refine ⟨_,rfl,a,_,n,_,rfl,rfl,Qk,by rw[kg];exact hn,by rw[kg];omega,?_⟩
  have e1:(yj ss).take n++V.ref s.a::(yj ss).drop n=yj (ss.take n++s::ss.drop n):=by
   unfold yj
   rw[Rn,Xd,UK,Xe]
  rw[e1]
  have su: ∀t,iF H4 aP aJ y lg t->iF (L2.upd H4 a (.lst (yj (ss.take n++s::ss.drop n)))) aP aJ y lg t:=fun t ot=>by
   have ne: ∀{c:Addr} {o:HO},H4 c=some o->(∀l,o≠ .lst l)->c≠a:=fun {c o} e no z=>by rw[z,Qk]at e;exact no _ (UE e).symm
   obtain ⟨dx,eo⟩:=ot.ob
   obtain ⟨dw,ew⟩:=ot.wy.ob
   exact ⟨⟨dx,by rw[au (ne eo (fun l z=>by cases z))];exact eo⟩,by rw[au (ne ot.st (fun l z=>by cases z))];exact ot.st,⟨⟨dw,by rw[au (ne ew (fun l z=>by cases z))];exact ew⟩,ot.wy.sw,ot.wy.uz,ot.wy.lz,ot.wy.rt⟩,ot.pz⟩
  refine ⟨ss.take n++s::ss.drop n,_,_,rfl,ag,fun t ht=>?_,?_,HG JZ h1 h2,fun c o e z=>by rw[au z];exact s4 _ _ (s3 _ _ (s2 c o e z))⟩
  ·have:t=s\/t∈ss:=by
    rcases UO.mp ht with r | r
    ·exact .inr (V2 r)
    ·rcases T3.mp r with r | r
     ·exact .inl r
     ·exact .inr (W8 r)
   rcases this with r | r
   ·subst r
    refine ⟨su _ (Qi.same s4),Qj,w,?_,?_,?_⟩
    ·rw[FL.ec];exact hw
    ·rw[FL.ec,FL.ei];exact FL
    ·rw[FL.ei];exact hi
   ·exact ⟨su _ (((Cw t r).1.same s3).same s4),(Cw t r).2⟩
  ·rw[Rn,UK, <-take_snoc hp,Rn,FL.ec,FL.ei]
   have p1:(ss.take n).map (fun s=>(s.c,s.i))++(p.c,p.i)::(ss.drop n).map (fun s=>(s.c,s.i)) |>.Perm ((p.c,p.i)::ss.map fun s=>(s.c,s.i)):=by
    refine List.perm_middle.trans (List.Perm.cons _ ?_)
    rw[<-Rn,Vz]
   exact p1.trans ((List.Perm.cons _ sF).trans (List.perm_append_singleton _ _).symm)
 ·rintro σ H2 ⟨ss,sv,nv,rfl,ha,Cw,sF,JZ,s2⟩
  rw[r9,VA,oR]at sF
  have Sk:ss.length<=48:=by
   have:=sF.length_eq
   rw[Py, <-oR,Py]at this
   omega
  have u7:ay H H2:=fun c o e=>s2 _ _ (Ib c o e) (aq e na)
  refine ⟨_,rfl,a,rfl,⟨_,bJ.of ha⟩,?_⟩
  refine yU (K:=K) (a:=a) (xs:=yj ss) (fun i acc H'=>H'=H2/\acc=(ss.take i).map fun s=>V.ref s.t) (by rw[kg];omega) (fun i acc H' h=>by rw[h.1];exact bJ.of ha) ⟨rfl,rfl⟩ ?_ ?_
  ·rintro i x acc H3 Nx hi hx hl ⟨rfl,rfl⟩ nx
   obtain ⟨t,ht,rfl⟩:=Ew hx
   obtain ⟨dx,e⟩:=(Cw t (UC ht)).1.ob
   refine ⟨trivial,fL ⟨_,rfl,t.a,aJ,dx,_,_,rfl,e,T.c_,T.n_Seen_strand,qA,nx _ _ (by simpa using hl) ⟨rfl,?_⟩⟩⟩
   rw[<-take_snoc ht,Rn]
   rfl
  ·rintro acc H3 D hl ⟨rfl,rfl⟩ hD
   rw[kg,VA]
   refine ⟨D,_,rfl, .inl ⟨bJ.of ag,fun t nt=>?_⟩⟩
   have sA:=(ay.upd (o:= .lst (ss.map fun s=>V.ref s.t)) hD).trans (ay.upd (o:= .tup (ss.map fun s=>V.ref s.t)) nt)
   have ep:(ss.map fun s=>(⟨s.t,s.c,s.i⟩:Pr)).map Pr.pair=ss.map fun s=>(s.c,s.i):=by rw[Vj];rfl
   refine q t (ss.map fun s=>(⟨s.t,s.c,s.i⟩:Pr)) _ (ay.free (u7.trans (ay.upd hD)) nt) (by rw[ag];unfold qv;rw[Vj];rfl) (fun p hp=>?_) (by rw[ep];exact sF) ?_ (u7.trans sA)
   ·obtain ⟨s,K2,rfl⟩:=UQ.mp hp
    obtain ⟨ok,_,w,hw,_,hi⟩:=Cw s K2
    have h1:=(GK.mp hw).1
    have h2:=(pj w (UC hw)).2
    exact ⟨sA _ _ ok.st,by show s.c<1000;omega,by show s.i<1000;omega⟩
   ·rw[ep]
    unfold Cb
    rw[Vo]
    refine WJ (fun {s t} h1 h2 h=>?_) JZ
    obtain ⟨o1,_,w1,e1,i1,l1⟩:=Cw s h1
    obtain ⟨o2,_,w2,e2,i2,l2⟩:=Cw t h2
    have g1:ws.getD s.c []=w1:=by rw[Ro,e1];rfl
    have g2:ws.getD t.c []=w2:=by rw[Ro,e2];rfl
    rw[<-yk hy (pj w1 (UC e1)).1 l1 g1 i1 o1.wy.rt, <-yk hy (pj w2 (UC e2)).1 l2 g2 i2 o2.wy.rt]
    exact h
theorem sH:bA P w K mg base e_ 2 IU Jw ["word"] (jV K):=by
 have cn:=eR (P:=P) (w:=w) (base:=base) T
 refine T.ME.fn.ok gO (fun vs H Q E h=>o5 h) (fun cB A outer s H vs Q E hr h=>?_)
 refine ⟨_,(ae (ao (i:=1) gO.nd rfl (Or.inl rfl) (eS ab))
   (ae (cG PassesOwn.never rfl (q8 (pv 0)) (aU (i:=2) gO.nd rfl (Or.inl rfl)) (ah (b5 (PW.pt (g_ (DE K rfl (pv 1)) (gz (aL gC (aQ (bK K rfl) (pv 1) (lH hV ai) (fun _ _=>rfl)) (aj cn (hr.mono (by decide)) rfl T.F0.mg T.F0.fn.kp T.F0.bd .nil aB (aa (pv 2) ab)) (aO _))))) (ah (eA (eE K rfl UZ Wl Wj GD (pv 1)))) (ah (eA (b6 K rfl UZ VC VB fk (pv 1) (aa (pv 2) ab)))))))
   (ah (aG (b6 K rfl UL VZ VY (h_ K rfl) (lW [] (by decide+kernel)) (aa (pv 1) ab)))))),?_⟩
 obtain ⟨l,rfl,hl,hz,q⟩:=h
 have hs:(100000:Nat)<sizeLine:=by decide
 walk_at "rd"
 intro p1 n1
 refine ⟨_,rfl,l,rfl,?_⟩
 refine xj (xs:=dj l) (fun i σ H'=> ∃lv,σ=[some (.str (S l)),some (.ref p1),lv]/\H' p1=some (.lst (dj (red (l.take i))))/\aR p1 H H') ⟨none,rfl,ag,aR.of (ay.upd n1)⟩ ?_ ?_
 ·rintro i x σ H1 hx ⟨lv,rfl,hp,s1⟩
  obtain ⟨c,hc,rfl⟩:=iQ hx
  have hi:i<l.length:=(GK.mp hc).1
  have h8:c<128:=(hl c (UC hc)).lt
  have Ql:(red (l.take i)).length<=1000:=UW (jT _) (by rw[UB];omega)
  have fin: ∀st,st=eV (red (l.take i)) c-> ∃lv,[some (V.str (S l)),some (V.ref p1),some (V.str (S [c]))]=[some (V.str (S l)),some (.ref p1),lv]/\(upd H1 p1 (.lst (dj st))) p1=some (.lst (dj (red (l.take (i+1)))))/\aR p1 H (upd H1 p1 (.lst (dj st))):=fun st e=>
   ⟨_,rfl,by rw[ag,A0 hc,e],fun b o e z=>by rw[au z];exact s1 b o e z⟩
  refine ⟨_,rfl,p1,_,rfl,bJ.of hp,?_⟩
  rcases snoc_cases (red (l.take i)) with e | ⟨m,a,e⟩
  ·rw[e]at hp ⊢
   refine zh rfl ?_
   refine yR ?_
   refine ⟨_,rfl, .inl ⟨rfl,_,bJ.of hp⟩,_,rfl,p1,_,_,rfl,rfl,hp,by rw[aW];exact (by decide:(0:Nat)<sizeLine),?_⟩
   rw[eL]
   refine fin _ ?_
   rw[e]
   unfold eV
   rw[if_neg (by simp)]
  ·rw[e]at hp Ql ⊢
   have Qm:m.length<=1000:=by simp at Ql;omega
   rw[<-eL]at hp ⊢
   refine Ot (by simp) ?_
   refine ⟨_,rfl,_,rfl,p1,_,_,_,rfl,rfl,bJ.of hp,Ak _ _,_,rfl,c,rfl,h8,[a],[aD c],rfl,rfl,_,rfl,bY (fun z=>?_) (fun z=>?_)⟩
   ·have ea:a=aD c:=by simpa using of_decide_eq_true z
    refine ⟨_,rfl, .inl ⟨rfl,_,bJ.of hp⟩,p1,_,V.str (S [a]),rfl,rfl,hp,by simp,?_⟩
    rw[W9]
    refine fin _ ?_
    rw[e]
    unfold eV
    rw[if_pos (by simp[ea]),W9]
   ·have ea:a≠aD c:=fun w=>z (decide_eq_true (by rw[w]))
    refine ⟨_,rfl, .inl ⟨rfl,_,bJ.of hp⟩,_,rfl,p1,_,_,rfl,rfl,hp,by rw[Rk,aW];show m.length+1<sizeLine;omega,?_⟩
    rw[eL,eL]
    refine fin _ ?_
    rw[e]
    unfold eV
    rw[if_neg (by simpa using ea)]
 ·rintro σ H1 ⟨lv,rfl,hp,s1⟩
  rw[t9]at hp
  refine ⟨rfl,_,rfl,p1,(red l).map fun c=>[c],rfl,rfl,bJ.of (by rw[<-gi];exact hp),?_,?_⟩
  ·rw[ze]
   have:=jT l
   omega
  ·rw[qc]
   exact q _ (fun b o e=>s1 b o e (aq e n1))
theorem uQ:bA P w K mg base e_ 3 IV Jx ["word"] (lN K):=by
 have uR:=sH (P:=P) (w:=w) (base:=base) T
 have cn:=eR (P:=P) (w:=w) (base:=base) T
 refine T.MF.fn.ok di (fun vs H Q E h=>rE h) (fun cB A outer s H vs Q E hr h=>?_)
 refine ⟨_,(ae (ao (i:=1) di.nd rfl (Or.inl rfl) (aj uR (hr.mono (by decide)) rfl T.ME.mg T.ME.fn.kp T.ME.bd .nil aB (aa (pv 0) ab)))
   (ae (ao (i:=2) di.nd rfl (Or.inl rfl) ai)
   (ae (ao (i:=3) di.nd rfl (Or.inl rfl) (aA aF rfl T.z_len T4 (aa (pv 1) ab)))
   (ae (dc PassesOwn.never (PW.pt (g_ (aL Ag (ak cA (pv 3) (pv 2)) ai (aO _)) (gz (aL gC (aQ jn (pv 1) (pv 2) (fun _ _=>rfl)) (aj cn (hr.mono (by decide)) rfl T.F0.mg T.F0.fn.kp T.F0.bd .nil aB (aa (aQ jn (pv 1) (ak cA (pv 3) ai) (fun _ _=>rfl)) ab)) (aO _))))) (ae (jm (i:=2) di.nd rfl (Or.inl rfl) ai qS)
   (ah (jm (i:=3) di.nd rfl (Or.inl rfl) ai Gh))))
   (ah (aG (bD jN (pv 1) (bu (pv 2)) (bu (pv 3))))))))),?_⟩
 obtain ⟨l,rfl,hl,hz,q⟩:=h
 have hs:(100000:Nat)<sizeLine:=by decide
 refine ⟨_,rfl,l,rfl,hl,hz,fun H1 s1=>?_⟩
 have Fm:=jT l
 have dk:=G_ hl
 generalize red l=r at Fm dk q ⊢
 have Qn:r.length<=sizeLine:=by omega
 walk_at "rd"
 refine ⟨fun m σ H'=> ∃(a e:Nat),σ=[some (.str (S l)),some (.str (S r)),some (.int a),some (.int e)]/\m=e - a/\a<=e/\e<=r.length/\core (zY r a e)=core r/\H'=H1,⟨_,0,r.length,rfl,rfl,T6 _,Mq _,by rw[DX],rfl⟩,?_⟩
 rintro m σ H2 ⟨a,e,rfl,rfl,h1,h2,hc,rfl⟩
 have fin:core (zY r a e)=zY r a e->Q (.str (S (cut r (some (a:Int)) (some (e:Int))))) H2:=fun z=>by
  have e1:cut r (some (a:Int)) (some (e:Int))=zY r a e:=by
   unfold cut zY
   rw[HT.fJ,HT.fJ]
   have e1:min a r.length=a:=by omega
   have e2:min e r.length=e:=by omega
   rw[e1,e2]
  rw[e1, <-z,hc]
  exact q H2 s1
 walk_at "rd"
 refine bY (fun z=>?_) (fun z=>?_)
 ·have z1:(2:Int)<=(e:Int) - (a:Int):=of_decide_eq_true z
  have ha:a<r.length:=by omega
  have he:e - 1<r.length:=by omega
  have g0:pR r (a:Int)=some r[a]:=cL (GJ ha)
  have g1:pR r ((e:Int) - 1)=some r[e - 1]:=by
   have:(e:Int) - 1=((e - 1:Nat):Int):=by omega
   rw[this];exact cL (GJ he)
  have h8:r[e - 1]<128:=(dk _ (Vb he)).lt
  have hw:=Ha (l:=r) (s:=a) (e:=e) (by omega) h2
  refine ⟨_,rfl,_,rfl,r,_,_,rfl,rfl,Qn,g0,?_⟩
  walk_at "rd"
  refine ⟨r,_,_,rfl,rfl,Qn,g1,?_⟩
  walk_at "rd"
  refine bY (fun y=>?_) (fun y=>?_)
  ·have ey:r[a]=aD r[e - 1]:=by simpa using of_decide_eq_true y
   walk_at "rd"
   refine ⟨(e - 1) - (a+1),by omega,a+1,e - 1,?_,rfl,by omega,by omega,?_,rfl⟩
   ·have e1:(a:Int)+1=((a+1:Nat):Int):=by omega
    have e2:(e:Int) - 1=((e - 1:Nat):Int):=by omega
    rw[<-e1, <-e2]
    rfl
   ·rw[<-hc,hw,xw ey]
  ·have ey:r[a]≠aD r[e - 1]:=fun w=>y (decide_eq_true (by rw[w]))
   walk_at "rd"
   exact fin (by rw[hw,kJ ey])
 ·have z1: ¬(2:Int)<=(e:Int) - (a:Int):=fun w=>z (decide_eq_true w)
  walk_at "rd"
  exact fin (gE (by rw[DW h2];omega))
theorem yo:bA P w K mg base e_ 4 IW Jy ["word"] (xx K):=by
 have wW:=uQ (P:=P) (w:=w) (base:=base) T
 refine T.C5.fn.ok i5 (fun vs H Q E h=>A3 h) (fun cB A outer s H vs Q E hr h=>?_)
 refine ⟨_,(ae (ao (i:=1) i5.nd rfl (Or.inl rfl) (aj wW (hr.mono (by decide)) rfl T.MF.mg T.MF.fn.kp T.MF.bd .nil aB (aa (pv 0) ab)))
   (ae (ao (i:=2) i5.nd rfl (Or.inl rfl) (pv 1))
   (ae (cG PassesOwn.never rfl (kC rfl T.z_range (aa ai (aa (aA aF rfl T.z_len T4 (aa (pv 1) ab)) ab))) (aU (i:=3) i5.nd rfl (Or.inl rfl)) (ae (ao (i:=4) i5.nd rfl (Or.inl rfl) (ak gB (bD jN (pv 1) (bu (pv 3)) cK) (bD jN (pv 1) cK (bu (pv 3)))))
   (ah (b5 (aL ra (pv 4) (pv 2) (aO _)) (ah (ao (i:=2) i5.nd rfl (Or.inl rfl) (pv 4))) bB))))
   (ah (aG (pv 2)))))),?_⟩
 obtain ⟨l,rfl,hl,hz,q⟩:=h
 have hs:(100000:Nat)<sizeLine:=by decide
 refine ⟨_,rfl,l,rfl,hl,hz,fun H1 s1=>?_⟩
 have Sl:(core (red l)).length<=1000:=UW (ub _) (UW (jT l) hz)
 unfold de eW at q
 generalize core (red l)=c at Sl q ⊢
 have Sm:c.length<=sizeLine:=by omega
 walk_at "rd"
 refine ⟨_,_,rfl,⟨by decide,by decide,by omega,by omega⟩,?_⟩
 refine dJ (fun i σ H'=>H'=H1/\ ∃sv bv,σ=[some (.str (S l)),some (.str (S c)),some (.str (S (bU c (jW c i)))),sv,bv]) ⟨rfl,none,none,rfl⟩ ?_ ?_
 ·rintro i σ H2 hi ⟨rfl,sv,bv,rfl⟩
  have e1:(1:Int)+(i:Int)=((i+1:Nat):Int):=by omega
  rw[e1]
  have hlen:(cut c (some ((i+1:Nat):Int)) none).length+(cut c none (some ((i+1:Nat):Int))).length<=sizeLine:=by rw[cZ,fz,US,UB];omega
  have Cy:cut c (some ((i+1:Nat):Int)) none++cut c none (some ((i+1:Nat):Int))=cw c (i+1):=by rw[cZ,fz];rfl
  walk_at "rd"
  rw[Cy]
  refine bY (fun z=>?_) (fun z=>?_)
  ·have z':cw c (i+1)<bU c (jW c i):=of_decide_eq_true z
   have hle:bU c (jW c (i+1))=cw c (i+1):=by rw[qe,gF];unfold cC;rw[if_pos z']
   refine ⟨_,rfl,?_⟩
   rw[hle]
   exact ⟨rfl,_,_,rfl⟩
  ·have z': ¬cw c (i+1)<bU c (jW c i):=fun y=>z (decide_eq_true y)
   have hle:bU c (jW c (i+1))=bU c (jW c i):=by rw[qe,gF];unfold cC;rw[if_neg z']
   rw[hle]
   exact ⟨rfl,_,_,rfl⟩
 ·rintro σ H2 ⟨rfl,sv,bv,rfl⟩
  have e:((c.length:Int) - 1).toNat=c.length - 1:=by omega
  rw[e]
  exact ⟨_,rfl,q _ s1⟩
theorem EG:bA P w K mg base e_ 5 IX Jz ["word"] (xA K):=by
 have sI:=yo (P:=P) (w:=w) (base:=base) T
 refine T.MG.fn.ok mU (fun vs H Q E h=>A5 h) (fun cB A outer s H vs Q E hr h=>?_)
 refine ⟨_,(ae (ao (i:=1) mU.nd rfl (Or.inl rfl) (aj sI (hr.mono (by decide)) rfl T.C5.mg T.C5.fn.kp T.C5.bd .nil aB (aa (pv 0) ab)))
   (ae (cG PassesOwn.never rfl (kC rfl T.z_range (aa ai (aa (ak aT (aA aF rfl T.z_len T4 (aa (pv 1) ab)) ai) ab))) (aU (i:=2) mU.nd rfl (Or.inl rfl)) (ae (ao (i:=3) mU.nd rfl (Or.inl rfl) (ak bV (aA aF rfl T.z_len T4 (aa (pv 1) ab)) (pv 2)))
   (ah (b5 (aL gC (ak jQ (bD jN (pv 1) cK (bu (pv 2))) (pv 3)) (pv 1) (aO _)) (ah (aG (cQ (aa (bD jN (pv 1) cK (bu (pv 2))) (aa (pv 3) ab))))) bB))))
   (ah (aG (cQ (aa (lW [] (by decide+kernel)) (aa ai ab))))))),?_⟩
 obtain ⟨l,rfl,hl,hz,q⟩:=h
 have hs:(100000:Nat)<sizeLine:=by decide
 walk_at "wk"
 intro H1 s1
 have hw:(de l).length<=1000:=UW (zk l) hz
 generalize de l=c at hw q ⊢
 have Sm:c.length<=sizeLine:=by omega
 walk_at "wk"
 refine ⟨_,_,rfl,⟨by decide,by decide,by omega,by omega⟩,?_⟩
 refine dJ (fun i σ H'=>H'=H1/\(∀j,1<=j->j<=i-> ¬dA c j)/\ ∃sv tv,σ=[some (.str (S l)),some (.str (S c)),sv,tv]) ⟨rfl,fun j h1 h2=>by omega,none,none,rfl⟩ ?_ ?_
 ·rintro i σ H2 hi ⟨rfl,EH,sv,tv,rfl⟩
  have e1:(1:Int)+(i:Int)=((i+1:Nat):Int):=by omega
  rw[e1]
  have e2:(c.length:Int) / ((i+1:Nat):Int)=((c.length / (i+1):Nat):Int):=(VQ _ _).symm
  have hd:=Wt c.length (i+1)
  have hmul:(c.take (i+1)).length*(c.length / (i+1))<=sizeLine:=by
   have h1:(c.take (i+1)).length<=i+1:=by rw[UB];omega
   have h2:=Nat.mul_div_le c.length (i+1)
   have h3:=Nat.mul_le_mul_right (c.length / (i+1)) h1
   omega
  walk_at "wk"
  refine ⟨⟨by rw[e2];exact WC _,by rw[e2];exact Int.ofNat_le.mpr (UW hd (by omega:c.length<=1000000))⟩,by rw[e2,cZ,PB];exact hmul,?_⟩
  walk_at "wk"
  refine bY (fun z=>?_) (fun z=>?_)
  ·have z1:dA c (i+1):=by
    have:=of_decide_eq_true z
    rw[e2,cZ,PB]at this
    exact this
   walk_at "wk"
   intro p np
   refine q p (i+1) _ (ay.free s1 np) ?_ (.inr ⟨by omega,by omega,z1,fun j j1 j2=>EH j j1 (by omega)⟩) (s1.trans (ay.upd np))
   rw[ag]
   unfold Fp
   rw[<-cZ, <-e2]
  ·have z1: ¬dA c (i+1):=fun y=>z (decide_eq_true (by
    rw[e2,cZ,PB]
    exact y))
   refine ⟨rfl,fun j j1 j2=>?_,_,_,rfl⟩
   by_cases y:j=i+1
   ·rw[y];exact z1
   ·exact EH j j1 (by omega)
 ·rintro σ H2 ⟨rfl,EH,sv,tv,rfl⟩
  have hc:c=[]:=by
   by_cases z:c=[]
   ·exact z
   ·have hl:0<c.length:=IC.mpr z
    exact absurd (qh c z) (EH _ hl (by omega))
  subst hc
  walk_at "wk"
  intro p np
  exact q p 0 _ (ay.free s1 np) (by rw[ag];rfl) (.inl ⟨rfl,rfl⟩) (s1.trans (ay.upd np))
theorem oI:bA P w K mg base e_ 2 IT Jv ["word","place"] (ir K):=by
 have cn:=eR (P:=P) (w:=w) (base:=base) T
 refine T.MD.fn.ok oA (fun vs H Q E h=>me h) (fun cB A outer s H vs Q E hr h=>?_)
 refine ⟨_,(ah (aG (cQ (aa (aj cn (hr.mono (by decide)) rfl T.F0.mg T.F0.fn.kp T.F0.bd .nil aB (aa (aQ jn (pv 0) (ak cA (pv 1) ai) (fun _ _=>rfl)) ab)) (aa (aQ jn (pv 0) (pv 1) (fun _ _=>rfl)) ab))))),?_⟩
 obtain ⟨w,i,rfl,hl,hz,hi,q⟩:=h
 have hs:(100000:Nat)<sizeLine:=by decide
 have dh:w≠[]:=fun z=>by rw[z]at hi;simp at hi
 refine ⟨_,rfl,_,rfl,_,_,rfl,rfl,w,_,_,rfl,rfl,by omega,nL (by omega) (by omega),_,rfl,(hl _ (kK dh _)).lt,?_⟩
 refine ⟨_,rfl,_,rfl,w,_,_,rfl,rfl,by omega,nL (by omega) (by omega),by show 2<=sizeLine;decide,fun t nt=>?_⟩
 exact q t _ nt ag (ay.upd nt)
theorem oJ:bA P w K mg base e_ 1 f3 d3 ["yard","start","end"] (il K):=by
 refine T.F3.fn.ok oz (fun vs H Q E h=>md h) (fun cB A outer s H vs Q E hr h=>?_)
 refine ⟨_,(ah (aG (ak dM (ak cA (b6 K rfl UL PySem.F.slot_str_find PySem.F.type_str_find tH (pv 0) (aa (pv 2) ab)) (b6 K rfl UL PySem.F.slot_str_find PySem.F.type_str_find tH (pv 0) (aa (pv 1) ab))) (aA aF rfl T.z_len T4 (aa (pv 0) ab))))),?_⟩
 obtain ⟨y,a,b,rfl,ha,hb,hz,q⟩:=h
 have hs:(1000:Nat)<sizeLine:=by decide
 have hp:(0:Int)<(y.length:Int):=by have:=List.length_pos_of_mem ha;omega
 refine ⟨_,rfl,rfl,_,rfl,y,b,rfl,rfl,?_⟩
 rw[if_pos hb]
 refine ⟨_,rfl,rfl,_,rfl,y,a,rfl,rfl,?_⟩
 rw[if_pos ha]
 exact ⟨_,_,rfl,rfl,_,rfl,y,rfl,by omega,_,_,rfl,rfl,hp,q⟩
theorem mz:bA P w K mg base e_ 3 IZ JA ["yard","word","place"] (gW K):=by
 have pq:=oI (P:=P) (w:=w) (base:=base) T
 have pA:=oJ (P:=P) (w:=w) (base:=base) T
 refine T.MH.fn.ok gY (fun vs H Q E h=>kX h) (fun cB A outer s H vs Q E hr h=>?_)
 refine ⟨_,(ae (ao (i:=3) gY.nd rfl (Or.inl rfl) (aj pq (hr.mono (by decide)) rfl T.MD.mg T.MD.fn.kp T.MD.bd .nil aB (aa (pv 1) (aa (pv 2) ab))))
   (ah (aG (aj pA (hr.mono (by decide)) rfl T.F3.mg T.F3.fn.kp T.F3.bd .nil aB (aa (pv 0) (aa (aQ (bz K rfl) (pv 3) ai (fun _ _=>rfl)) (aa (aQ (bz K rfl) (pv 3) ai (fun _ _=>rfl)) ab))))))),?_⟩
 obtain ⟨y,w,i,rfl,hy,hz,hw,kA,hi,q⟩:=h
 refine ⟨_,rfl,_,rfl,w,i,rfl,fun c hc=>hy.lt c (hw.bL c hc),kA,hi,fun p H1 np hp s1=>?_⟩
 refine ⟨_,rfl,_,rfl,p,_,0,_,rfl,rfl,cS.of hp,rfl,_,rfl,p,_,1,_,rfl,rfl,cS.of hp,rfl,y,_,_,rfl,hy.cl _ (hw.rd _),hw.rd _,by omega,?_⟩
 have rg:=dX (hy.cl _ (hw.rd ((i:Int) - 1))) (hw.rd i) (Ne.symm (hw.red i))
 obtain ⟨n,hn⟩: ∃n:Nat,cst y w i=n:=⟨(cst y w i).toNat,by have:=rg.1;unfold cst;omega⟩
 have:=rg.2.1
 have e:uh y (aD (rd w ((i:Int) - 1))) (rd w i)=n:=hn
 have key:=q n H1 hn (by omega) s1
 rw[<-e]at key
 exact key
theorem Cz:bA P w K mg base e_ 6 jh uK ["self","yard","word","longest"] (uC K aP):=by
 have Ic:=EG (P:=P) (w:=w) (base:=base) T
 have sI:=yo (P:=P) (w:=w) (base:=base) T
 have oK:=qL (P:=P) (w:=w) (base:=base) T
 have oM:=mz (P:=P) (w:=w) (base:=base) T
 refine T.LS.ok oE (fun vs H Q E h=>zF h) (fun cB A outer s H vs Q E hr h=>?_)
 refine ⟨_,(ae (hW (pv 0) (aA aF rfl T.z_len T4 (aa (pv 2) ab)) rfl)
   (ae (hW (pv 0) (aA aF rfl T.z_len T4 (aa (aQ (bz K rfl) (aj Ic (hr.mono (by decide)) rfl T.MG.mg T.MG.fn.kp T.MG.bd .nil aB (aa (pv 2) ab)) ai (fun _ _=>rfl)) ab)) rfl)
   (ae (hW (pv 0) (fI ra (aj sI (hr.mono (by decide)) rfl T.C5.mg T.C5.fn.kp T.C5.bd .nil aB (aa (pv 2) ab)) (aj sI (hr.mono (by decide)) rfl T.C5.mg T.C5.fn.kp T.C5.bd .nil aB (aa (aj oK (hr.mono (by decide)) rfl T.F1.mg T.F1.fn.kp T.F1.bd .nil aB (aa (pv 2) ab)) ab)) (aO _)) rfl)
   (ae (ao (i:=4) oE.nd rfl (Or.inl rfl) (b6 K rfl UL VZ VY (h_ K rfl) (lW [] (by decide+kernel)) (aa (eJ ["place","yard","word"] [none,some 1,some 2] (fj rfl T.z_range (aa (aA aF rfl T.z_len T4 (aa (pv 2) ab)) ab)) ⟨⟨rfl,rfl,by first | exact .inl rfl | exact .inr rfl⟩,⟨⟨rfl,rfl,by first | exact .inl rfl | exact .inr rfl⟩,trivial⟩⟩ (fun _ _ _ _=>(aU (i:=0) (by decide+kernel:List.Nodup (["place","yard","word"]:List Str)) rfl (Or.inl rfl))) (fun _ _ _ _=>hX) (fun _ _ _ _=>(dN y7 rfl T.z_str boot_str (aa (aj oM (hr.mono (by decide)) rfl T.MH.mg T.MH.fn.kp T.MH.bd .nil aB (aa (pv 1) (aa (pv 2) (aa (pv 0) ab)))) ab)))) ab)))
   (ae (ao (i:=5) oE.nd rfl (Or.inl rfl) (ak aT ai (ak bV (pv 3) (aA (yF rfl) rfl T.z_max boot_max (aa (aA aF rfl T.z_len T4 (aa (pv 2) ab)) (aa ai ab))))))
   (ae (hW (pv 0) (ak jQ (pv 4) (pv 5)) rfl)
   (ah (hW (pv 0) (ak jQ (DO (pv 4) (bu (lH hV ai))) (pv 5)) rfl)))))))),?_⟩
 obtain ⟨x,dx,y,w',lg,rfl,hx,hy,hz,hw,q0,MV,q⟩:=h
 have hs:(100000:Nat)<sizeLine:=by decide
 have dk: ∀c∈w',Lt c:=fun c hc=>hy.lt c (hw.bL c hc)
 have h8: ∀c∈w',c<128:=fun c hc=>(dk c hc).lt
 have ht:=hw.cT hy
 have So: ∀c∈cT w',Lt c:=fun c hc=>hy.lt c (ht.bL c hc)
 have h1:1<=w'.length:=IC.mpr hw.ne
 have rl:=kf (lg:=lg) h1
 obtain ⟨rt,MW⟩:=xF hw.ne
 refine ⟨_,rfl,w',rfl,by omega,_,rfl,x,aP,dx,_,rfl,hx,T.fR,T.n_Way_size,by show 0<1000;decide,?_⟩
 refine ⟨_,rfl,w',rfl,dk,by omega,fun p1 s1 H1 n1 wu Fm LY=>?_⟩
 obtain ⟨er,el⟩:=zt hy hw Fm MW
 subst er
 have et:((de w').take s1).length=s1:=by
  rw[UB,el]
  rcases MW with ⟨z,_⟩ | ⟨_,h2,_⟩
  ·exact absurd z hw.ne
  ·omega
 have Sq:s1<=w'.length:=by
  rcases MW with ⟨z,_⟩ | ⟨_,h2,_⟩
  ·exact absurd z hw.ne
  ·exact h2
 have Sr:=LY _ _ (ag (H:=H) (a:=x))
 refine ⟨p1,_,0,_,rfl,rfl,cS.of wu,rfl,_,rfl,by rw[et];omega,_,rfl,x,aP,dx,_,rfl,Sr,T.fR,T.n_Way_root_size,UX (cJ _ _ _) (by show 0+1<1000;decide),?_⟩
 rw[et]
 refine ⟨_,rfl,w',rfl,dk,by omega,fun H2 s2=>⟨_,rfl,w',rfl,h8,by omega,fun H3 s3=>⟨cT w',rfl,So,by rw[bN];omega,fun H4 s4=>?_⟩⟩⟩
 have L3:=s2.trans (s3.trans s4)
 have Ss:=L3 _ _ (ag (a:=x))
 refine ⟨_,_,rfl,rfl,_,rfl,x,aP,dx,_,rfl,Ss,T.fR,T.n_Way_leads,UX (cJ _ _ _) (UX (VF (cJ _ _ _)) (by show 0+1+1<1000;decide)),?_⟩
 have Su:decide (de w'<de (cT w'))=leads w':=by
  unfold leads
  rw[hw.de hy,ht.de hy]
 refine ⟨rfl,_,rfl,w',rfl,by omega,_,rfl,by omega,by omega,?_⟩
 rw[PB]
 refine tI (fun i acc H'=>ay _ H'/\acc=dj ((stx y w').take i)) (by omega) ⟨ay.refl _,rfl⟩ ?_ ?_
 ·rintro i acc H5 Nx hi hl ⟨s5,rfl⟩ nx
  refine ⟨⟨rfl,rfl,trivial⟩,fL ⟨_,rfl,_,rfl,_,rfl,y,w',i,by rw[Vy];rfl,hy,hz,hw,by omega,hi,fun n H6 hn Ui s6=>⟨n,rfl,by omega,nx _ _ (by simpa using hl) ⟨s5.trans s6,?_⟩⟩⟩⟩
  have eg:(stx y w')[i]? =some (48+n):=by
   unfold stx
   rw[UI,List.getElem?_range hi]
   show some (uZ (cst y w' i))=_
   rw[hn]
   unfold uZ
   congr 1
  rw[HC n (by omega),eL,take_snoc eg]
 ·rintro acc H5 D hl ⟨s5,rfl⟩ hD
  have L4:(stx y w').take w'.length=stx y w':=UR (by rw[cN];exact Mq _)
  rw[L4]at hl ⊢
  refine ⟨D,(stx y w').map fun c=>[c],rfl,rfl,bJ.of (by rw[ag, <-gi]),by rw[ze,cN];omega,?_⟩
  rw[qc]
  have Qo:=s5.trans (ay.upd (o:= .lst (dj (stx y w'))) hD)
  have OL:=Qo _ _ (ag (a:=x))
  have OM:(if (1:Int)>(w'.length:Int) then (1:Int) else (w'.length:Int))=(max w'.length 1:Nat):=by split<;>omega
  have Ie:(3:Int)+(lg:Int) / (if (1:Int)>(w'.length:Int) then (1:Int) else (w'.length:Int))=(iE lg w'.length:Nat):=by
   rw[OM]
   unfold iE
   rw[U8,VQ]
   rfl
  have rb:iE lg w'.length<=1003:=by unfold iE;have:=Wt lg (max w'.length 1);omega
  refine ⟨_,rfl,_,rfl,w',rfl,by omega,_,_,rfl,_,_,rfl,rfl,⟨by rw[OM];omega,by rw[OM];omega⟩,_,_,rfl,rfl,?_⟩
  have l3: ∀(a b c:V),(dm "leads" a (dm "root_size" b (dm "size" c []))).length<=3:=fun a b c=>UW (cJ _ _ _) (VF (UW (cJ _ _ _) (VF (cJ _ _ _))))
  refine ⟨_,rfl,_,rfl,stx y w',_,rfl,rfl,⟨by rw[Ie];omega,by rw[Ie];omega⟩,by rw[Ie,PB,cN];omega,_,rfl,x,aP,dx,_,rfl,OL,T.fR,T.n_Way_onward,UX (l3 _ _ _) (by decide),?_⟩
  refine ⟨_,rfl,1,rfl,_,rfl,rfl,stx y w',rfl,by rw[cN];omega,_,rfl,(stx y w').reverse,_,rfl,rfl,⟨by rw[Ie];omega,by rw[Ie];omega⟩,by rw[Ie,PB,UY,cN];omega,_,rfl,x,aP,dx,_,rfl,ag,T.fR,T.n_Way_backward,UX (cJ _ _ _) (UX (VF (l3 _ _ _)) (by decide)),?_⟩
  refine q s1 _ MW ?_ fun b o eb zb=>?_
  ·rw[ag]
   unfold kU
   rw[<-Su,Ie,PB]
  ·rw[au zb,au zb]
   refine Qo _ _ ?_
   rw[au zb]
   refine L3 _ _ ?_
   rw[au zb]
   refine LY _ _ ?_
   rw[au zb]
   exact eb
theorem yp:bA P w K mg base e_ 8 Je JJ ["yard","words"] (yl K):=by
 have oK:=qL (P:=P) (w:=w) (base:=base) T
 have sJ:=uM (P:=P) (w:=w) (base:=base) T
 have sL:=pb (P:=P) (w:=w) (base:=base) T
 have yq:=Cz (P:=P) (w:=w) (base:=base) T
 refine T.HS.fn.ok sE (fun vs H Q E h=>Cc h) (fun cB A outer s H vs Q E hr h=>?_)
 refine ⟨_,(ae (ao (i:=2) sE.nd rfl (Or.inr rfl) (DQ K rfl rfl rfl T.z_max (aa (eJ ["word"] [none] (xk K rfl (pv 1)) trivial (fun _ _ _ _=>(aU (i:=0) (by decide+kernel:List.Nodup (["word"]:List Str)) rfl (Or.inl rfl))) (fun _ _ _ _=>hX) (fun _ _ _ _=>(aA aF rfl T.z_len T4 (aa (pv 0) ab)))) ab)))
   (ae (ao (i:=3) sE.nd rfl (Or.inr rfl) (eJ ["word","yard","longest"] [none,some 0,some 2] (xk K rfl (pv 1)) ⟨⟨rfl,rfl,by first | exact .inl rfl | exact .inr rfl⟩,⟨⟨rfl,rfl,by first | exact .inl rfl | exact .inr rfl⟩,trivial⟩⟩ (fun _ _ _ _=>(aU (i:=0) (by decide+kernel:List.Nodup (["word","yard","longest"]:List Str)) rfl (Or.inl rfl))) (fun _ _ _ _=>hX) (fun _ _ _ _=>(cQ (aa (mF T.FJ yq (hr.mono (by decide)) rfl T.FI T.FK .nil aB (aa (pv 1) (aa (pv 0) (aa (pv 2) ab)))) (aa (mF T.FJ yq (hr.mono (by decide)) rfl T.FI T.FK .nil aB (aa (pv 1) (aa (aj oK (hr.mono (by decide)) rfl T.F1.mg T.F1.fn.kp T.F1.bd .nil aB (aa (pv 0) ab)) (aa (pv 2) ab)))) ab))))))
   (ah (aG (cQ (aa (dN (fu K rfl) rfl T.z_tuple boot_tuple (aa (pv 1) ab)) (aa (dN (fu K rfl) rfl T.z_tuple boot_tuple (aa (eJ ["band","words","ways"] [none,some 1,some 3] (q8 (aj sJ (hr.mono (by decide)) rfl T.F2.mg T.F2.fn.kp T.F2.bd .nil aB (aa (pv 0) ab))) ⟨⟨rfl,rfl,by first | exact .inl rfl | exact .inr rfl⟩,⟨⟨rfl,rfl,by first | exact .inl rfl | exact .inr rfl⟩,trivial⟩⟩ (fun _ _ _ _=>(aU (i:=0) (by decide+kernel:List.Nodup (["band","words","ways"]:List Str)) rfl (Or.inl rfl))) (fun _ _ _ _=>hX) (fun _ _ _ _=>(aj sL (hr.mono (by decide)) rfl T.ML.mg T.ML.fn.kp T.ML.bd .nil aB (aa (pv 1) (aa (pv 2) (aa (pv 0) ab)))))) ab)) ab))))))),?_⟩
 obtain ⟨y,wt,ws,rfl,hy,hz,uN,OI,pj,q⟩:=h
 have hs:(100000:Nat)<sizeLine:=by decide
 have MX: ∀c∈y,c<128:=Fn hy.lt
 have Sv:=iC hy
 obtain ⟨lg,Sw,Sx,MV⟩:=wF fun w hw=>(pj w hw).2
 refine ⟨_,rfl,wt,rfl,⟨_,cS.of uN⟩,?_⟩
 refine tQ (K:=K) (a:=wt) (xs:=iR ws) (fun i acc H'=>H'=H/\acc=(Ex (ws.take i)).map V.int) (by rw[dy];omega) (fun i acc H' h=>by rw[h.1];exact cS.of uN) ⟨rfl,rfl⟩ ?_ ?_
 ·rintro i x acc H1 Nx hi hx hl ⟨rfl,rfl⟩ nx
  rw[dy]at hi
  rw[nH hi]at hx
  cases hx
  have Ig:=pj ws[i] (Vb hi)
  refine ⟨trivial,fL ⟨_,rfl,ws[i],rfl,by omega,nx _ _ (by simpa using hl) ⟨rfl,?_⟩⟩⟩
  rw[<-take_snoc (GJ hi)]
  unfold Ex
  rw[Rn,Rn]
  rfl
 ·rintro acc H1 D hl ⟨rfl,rfl⟩ hD
  rw[dy,VA]
  refine ⟨D,Ex ws,rfl,bJ.of ag,?_⟩
  rw[Sw]
  have sD:=ay.upd (o:= .lst ((Ex ws).map V.int)) hD
  refine ⟨_,rfl,wt,rfl,⟨_,cS.of (sD _ _ uN)⟩,?_⟩
  refine tQ (K:=K) (a:=wt) (xs:=iR ws) (fun i acc H'=>ay H1 H'/\ ∃kz:List Wp,acc=C3 kz/\kz.length=i/\ ∀(c:Nat) (w:List Nat) (p:Wp),ws[c]? =some w->kz[c]? =some p->si H' aP y lg w p) (by rw[dy];omega) (fun i acc H' h=>cS.of (h.1 _ _ uN)) ⟨sD,[],rfl,rfl,fun c w p _ h=>by simp at h⟩ ?_ ?_
  ·rintro i x acc H2 Nx hi hx Fb ⟨s2,kz,rfl,q0,L0⟩ nx
   rw[dy]at hi
   rw[nH hi]at hx
   cases hx
   have Ig:=pj ws[i] (Vb hi)
   have Qp:ws[i]? =some ws[i]:=GJ hi
   have L5:=MV ws[i] (Vb hi)
   generalize ws[i]=w' at Ig Qp L5 ⊢
   have h8: ∀c∈w',c<128:=fun c hc=>(hy.lt c (Ig.1.bL c hc)).lt
   refine ⟨⟨rfl,rfl,trivial⟩,fL ?_⟩
   refine ⟨_,rfl,_,rfl,_,rfl,fun x1 Qq Sy ON ne1=>⟨x1,Qq,y,w',lg,rfl,ag,hy,hz,Ig.1,L5,by omega,fun r H3 hr OO Sz=>⟨rfl,?_⟩⟩⟩
   have SA:=qE Sy ON Sz
   refine ⟨_,rfl,_,rfl,w',rfl,h8,by omega,fun H4 L6=>⟨_,rfl,fun x2 Qr SD OP ne2=>⟨x2,Qr,y,cT w',lg,rfl,ag,hy,hz,Ig.1.cT hy,by rw[bN];exact L5,by omega,fun r2 H5 Ly OL SE=>⟨rfl,?_⟩⟩⟩⟩
   have SF:=qE SD OP SE
   refine ⟨by show 2<=sizeLine;decide,fun t nt=>?_⟩
   have Qs:=ay.upd (o:= .tup [.ref x1, .ref x2]) nt
   have J0:=L6.trans (SF.trans Qs)
   have all:=SA.trans J0
   refine nx _ _ (by simpa using Fb) ⟨s2.trans all,kz++[⟨t,x1,x2,r,r2⟩],B8 kz ⟨t,x1,x2,r,r2⟩,by rw[Rk,q0];rfl,Ez q0 (fun c w p a b=>(L0 c w p a b).same all) Qp ⟨ag,⟨⟨Qq,J0 _ _ OO⟩,Ig.1,L5,by omega,hr⟩,⟨⟨Qr,Qs _ _ OL⟩,Ig.1.cT hy,by rw[bN];exact L5,by omega,Ly⟩⟩⟩
  ·rintro acc H2 D2 Fb ⟨s2,kz,rfl,q0,L0⟩ SG
   rw[dy]at q0
   have Qt:=ay.upd (o:= .lst (C3 kz)) SG
   have u7:=s2.trans Qt
   refine ⟨_,rfl,wt,_,rfl, .inr ⟨cS.of (u7 _ _ uN),?_⟩⟩
   refine ⟨_,rfl,y,rfl,MX,by omega,fun l' H3 w6 OQ s3=>?_⟩
   have el:=xW w6 OQ
   subst el
   refine ⟨_,rfl,?_⟩
   have MY:=u7.trans s3
   have SH:=s3 _ _ (ag (H:=H2) (a:=D2) (o:=HO.lst (C3 kz)))
   refine jO (xs:=dj (fi y)) (fun i acc H'=>ay H3 H'/\ ∃os:List Od,acc=Ek os/\(∀o∈os,zx H' o)/\os.length=i/\(∀(j:Nat) (o:Od) (b:Nat),os[j]? =some o->(fi y)[j]? =some b->(o.ps.map Pr.pair).Perm (cI b ws ws.length))/\ ∀o∈os,Cb y ws (2*lg) (o.ps.map Pr.pair)) (by rw[aW];omega) ⟨ay.refl _,[],rfl,fun _ h=>absurd h UP,rfl,fun j o b h=>by simp at h,fun _ h=>absurd h UP⟩ ?_ ?_
   ·rintro i x acc H4 Nx hi hx JY ⟨s4,os,rfl,Ls,Hs,OR,OS⟩ nx
    obtain ⟨b,hb,rfl⟩:=iQ hx
    have SI:=uF hy (UC hb)
    refine ⟨⟨rfl,rfl,trivial⟩,fL ?_⟩
    refine ⟨_,rfl,_,rfl,_,rfl,y,lg,wt,D2,ws,kz,b,rfl,hy,hz,s4 _ _ (MY _ _ uN),OI,pj,SI,s4 _ _ SH,q0,fun c w p a1 a2=>(L0 c w p a1 a2).same (Qt.trans (s3.trans s4)),fun t ps H5 nt ht yn sF JZ s5=>?_⟩
    have Qd:ps.length<=100:=by
     have h1:=sF.length_eq
     have h2:=iK b (fun w hw=>(pj w hw).2) ws.length (Mq _)
     rw[Py]at h1
     omega
    refine nx _ _ (by simpa using JY) ⟨s4.trans s5,os++[⟨t,ps⟩],BC os ⟨t,ps⟩,fun o ho=>?_,by rw[Rk,Hs];rfl,fun j o b' ho Ft=>?_,fun o ho=>?_⟩
    ·rcases UO.mp ho with g | g
     ·exact (Ls o g).same s5
     ·rw[PC.mp g]
      exact ⟨ht,yn,Qd⟩
    ·by_cases z:j<os.length
     ·rw[Va z]at ho
      exact OR j o b' ho Ft
     ·rw[Vl (by omega)]at ho
      have:j=i:=by
       have:=(GK.mp ho).1
       simp at this
       omega
      subst this
      rw[Hs,Nat.sub_self]at ho
      cases ho
      rw[hb]at Ft
      cases Ft
      exact sF
    ·rcases UO.mp ho with g | g
     ·exact OS o g
     ·rw[PC.mp g]
      exact JZ
   ·rintro acc H4 D3 JY ⟨s4,os,rfl,Ls,Hs,OR,OS⟩ SJ
    rw[aW]at Hs
    refine ⟨D3,_,rfl, .inl ⟨bJ.of ag,fun t nt=>?_⟩⟩
    refine ⟨by show 2<=sizeLine;decide,fun dr OT=>?_⟩
    have sA:=(ay.upd (o:= .lst (Ek os)) SJ).trans ((ay.upd (o:= .tup (Ek os)) nt).trans (ay.upd (o:= .tup [.ref wt, .ref t]) OT))
    have SK:t≠dr:=fun z=>by rw[<-z,ag]at OT;cases OT
    have L7:=MY.trans s4
    exact q dr os _ ⟨⟨wt,t,ag,sA _ _ (L7 _ _ uN),by rw[au SK,ag]⟩,fun o ho=>(Ls o ho).same sA⟩ ⟨2*lg,fun w hw v hv=>by have:=MV w hw;have:=MV v hv;omega,⟨Hs,OR⟩,OS⟩ (L7.trans sA)
theorem ku:bA P w K mg base e_ 1 Jj JO ["_law_box_here","_law_many"] (t5 K):=by
 refine T.i3.fn.ok oB (fun vs H Q E h=>zc h) (fun cB A outer s H vs Q E hr h=>?_)
 refine ⟨_,(ae (b5 (aL pJ (aQ (bK K rfl) (pv 0) ai (fun _ _=>rfl)) ai (aO _)) (ae (ao (i:=2) oB.nd rfl (Or.inl rfl) (ak dM (aQ (bK K rfl) (pv 0) ai (fun _ _=>rfl)) (pv 1)))
   (ae (Aa (ak bV (aQ (bK K rfl) (pv 0) ai (fun _ _=>rfl)) (pv 1)) (z_ (pv 0) ai set_list))
   (ah (aG (pv 2))))) bB)
   (ae (ao (i:=3) oB.nd rfl (Or.inl rfl) (ak dM (ak b_ (aQ (bK K rfl) (pv 0) ai (fun _ _=>rfl)) ai) ai))
   (ae (Aa (ak aT (ak dM (ak aT (ak b_ (pv 3) ai) ai) ai) ai) (z_ (pv 0) ai set_list))
   (ah (aG (ak dM (ak bV (ak aT (ak b_ (pv 3) ai) (aQ (bK K rfl) (pv 0) ai (fun _ _=>rfl))) ai) (pv 1))))))),?_⟩
 obtain ⟨b,m,rfl,⟨x,y,hb⟩,h1,h2,q⟩:=h
 have fin: ∀(r x' y':Int),0<=r->r<m->Q (.int r) (upd H b (.lst [.int x', .int y'])):=fun r x' y' h3 h4=>by
  have e:r=((r.toNat:Nat):Int):=by omega
  rw[e]
  exact q r.toNat _ (by omega) ⟨x',y',ag⟩ (aR.upd b H _)
 refine ⟨_,rfl,b,_,0,_,rfl,rfl,bJ.of hb,rfl,_,_,rfl,rfl,_,rfl,bY (fun e=>?_) (fun e=>?_)⟩
 ·refine ⟨_,rfl,b,_,0,_,rfl,rfl,bJ.of hb,rfl,_,rfl,_,_,rfl,rfl,(by omega:0<m),?_⟩
  refine ⟨_,rfl,b,_,0,_,rfl,rfl,bJ.of hb,rfl,_,rfl,_,_,rfl,rfl,⟨by omega,by omega⟩,_,rfl,b,_,0,0,rfl,rfl,hb,rfl,_,rfl,?_⟩
  exact fin (x%m) (x / m) y (Vs _ (by omega)) (Vm _ (by omega))
 ·refine ⟨_,rfl,b,_,1,_,rfl,rfl,bJ.of hb,rfl,_,_,rfl,rfl, .inr ⟨by decide,by decide⟩,_,_,rfl,rfl,(by decide:(0:Int)<2147483647),?_⟩
  refine ⟨_,rfl,_,_,rfl,rfl, .inr ⟨by decide,by decide⟩,_,_,rfl,rfl,_,_,rfl,rfl,(by decide:(0:Int)<2147483629),_,_,rfl,rfl,_,rfl,b,_,1,1,rfl,rfl,hb,rfl,?_⟩
  refine ⟨_,rfl,_,_,rfl,rfl, .inr ⟨by decide,by decide⟩,_,rfl,b,_,1,_,rfl,rfl,bJ.of ag,rfl,_,_,rfl,rfl,_,_,rfl,rfl,⟨by decide,by decide⟩,_,rfl,_,_,rfl,rfl,(by omega:0<m),?_⟩
  exact fin _ _ _ (Vs _ (by omega)) (Vm _ (by omega))
theorem lB:bA P w K mg base e_ 1 Jk JP ["_law_letter"] (qa K):=by
 refine T.zL.fn.ok lA (fun vs H Q E h=>vR h) (fun cB A outer s H vs Q E hr h=>?_)
 refine ⟨_,(ae (ao (i:=1) lA.nd rfl (Or.inl rfl) (lW [97,98,99,100,101,102,103,104,105,106,107,108,109,110,111,112,113,114,115,116,117,118,119,120,121,122] (by decide+kernel)))
   (ae (ao (i:=2) lA.nd rfl (Or.inl rfl) (lW [65,66,67,68,69,70,71,72,73,74,75,76,77,78,79,80,81,82,83,84,85,86,87,88,89,90] (by decide+kernel)))
   (ae (b5 (aL GQ (pv 0) (pv 1) (by with_unfolding_all rfl)) (ah (aG (aQ jn (pv 2) (b6 K rfl UL WU WS kH (pv 1) (aa (pv 0) ab)) (fun _ _=>rfl)))) bB)
   (ah (aG (aQ jn (pv 1) (b6 K rfl UL WU WS kH (pv 2) (aa (pv 0) ab)) (fun _ _=>rfl))))))),?_⟩
 obtain ⟨c,rfl,hc,q⟩:=h
 refine ⟨_,rfl,_,rfl,c,aX,rfl,rfl,_,rfl,bY (fun e=>?_) (fun e=>?_)⟩
 ·have hm:c∈aX:=of_decide_eq_true e
  exact ⟨_,rfl,_,rfl,rfl,_,rfl,aX,c,rfl,rfl,hm,jq,_,aD c,rfl,rfl,by decide,tZ c hm,q⟩
 ·have hm:c∈jq:=hc.resolve_left fun z=>e (decide_eq_true z)
  exact ⟨_,rfl,_,rfl,rfl,_,rfl,jq,c,rfl,rfl,hm,aX,_,aD c,rfl,rfl,by decide,za c hm,q⟩
theorem oN:bA P w K mg base e_ 2 Jo JT ["_law_word"] (oa K):=by
 have gv:=lB (P:=P) (w:=w) (base:=base) T
 refine T.HV.fn.ok wR (fun vs H Q E h=>uJ h) (fun cB A outer s H vs Q E hr h=>?_)
 refine ⟨_,(ah (aG (b6 K rfl UL VZ VY (h_ K rfl) (lW [] (by decide+kernel)) (aa (eJ ["_law_letter"] [none] (AA rfl T.z_reversed (aa (pv 0) ab)) trivial (fun _ _ _ _=>(aU (i:=0) (by decide+kernel:List.Nodup (["_law_letter"]:List Str)) rfl (Or.inl rfl))) (fun _ _ _ _=>hX) (fun _ _ _ _=>(aj gv (hr.mono (by decide)) rfl T.zL.mg T.zL.fn.kp T.zL.bd .nil aB (aa (pv 0) ab)))) ab)))),?_⟩
 obtain ⟨l,rfl,hc,hz,q⟩:=h
 have hs:(1000:Nat)<sizeLine:=by decide
 refine ⟨rfl,_,rfl,l,rfl,by omega,?_⟩
 rw[xu]
 refine jO (xs:=dj l.reverse) (fun i acc H'=>ay H H'/\acc=dj ((l.reverse.take i).map aD)) (by rw[aW,UY];omega) ⟨ay.refl H,rfl⟩ ?_ ?_
 ·rintro i x acc H1 Nx hi hx hl ⟨s1,rfl⟩ nx
  obtain ⟨c,oT,rfl⟩:=iQ hx
  refine ⟨trivial,fL ⟨_,rfl,c,rfl,hc c (WM.mp (UC oT)),nx _ _ (by simpa using hl) ⟨s1,?_⟩⟩⟩
  rw[eL, <-take_snoc oT,Rn]
  rfl
 ·rintro acc H1 D hl ⟨s1,rfl⟩ hD
  refine ⟨D,(cT l).map fun c=>[c],rfl,rfl,bJ.of ?_,?_,?_⟩
  ·rw[ag, <-gi,aW,UR (Mq _),V7]
   rfl
  ·rw[ze]
   unfold cT
   rw[UY,Py]
   omega
  ·rw[qc]
   exact q _ (s1.trans (ay.upd hD))
theorem kx:bA P w K mg base e_ 3 Jp JU ["_law_box_here","_law_word","_law_many"] (fQ K):=by
 have cF:=ku (P:=P) (w:=w) (base:=base) T
 have lC:=oN (P:=P) (w:=w) (base:=base) T
 refine T.C7.fn.ok dG (fun vs H Q E h=>jA h) (fun cB A outer s H vs Q E hr h=>?_)
 refine ⟨_,(ae (ao (i:=3) dG.nd rfl (Or.inl rfl) (aj cF (hr.mono (by decide)) rfl T.i3.mg T.i3.fn.kp T.i3.bd .nil aB (aa (pv 0) (aa (aA aF rfl T.z_len T4 (aa (pv 1) ab)) ab))))
   (ae (ao (i:=4) dG.nd rfl (Or.inl rfl) (ak jQ (ak gB (bD jN (pv 1) (bu (pv 3)) cK) (bD jN (pv 1) cK (bu (pv 3)))) (pv 2)))
   (ah (aG (aQ (bK K rfl) (eS (aa (pv 4) (aa (aj lC (hr.mono (by decide)) rfl T.HV.mg T.HV.fn.kp T.HV.bd .nil aB (aa (pv 4) ab)) ab))) (aj cF (hr.mono (by decide)) rfl T.i3.mg T.i3.fn.kp T.i3.bd .nil aB (aa (pv 0) (aa ai ab))) (fun _ _=>rfl)))))),?_⟩
 obtain ⟨b,y,w',p,rfl,hb,hy,sw,hp,iP,q⟩:=h
 have hs:(100000:Nat)<sizeLine:=by decide
 have nG:=IC.mpr sw.ne
 have SM:w'.length<=12:=UW (Nat.le_mul_of_pos_left _ hp) iP
 have SN:p<=12:=UW (Nat.le_mul_of_pos_right _ nG) iP
 have kA:w'.length<=sizeLine:=by omega
 refine ⟨_,rfl,_,rfl,w',rfl,kA,b,_,rfl,hb,by omega,by omega,fun k H1 hk y_ s1=>?_⟩
 have Fc:k<=w'.length:=by omega
 have hlen:(cut w' (some (k:Int)) none).length+(cut w' none (some (k:Int))).length<=sizeLine:=by rw[cZ,fz,US,UB];omega
 have Cy:cut w' (some (k:Int)) none++cut w' none (some (k:Int))=cw w' k:=by rw[cZ,fz];rfl
 refine ⟨_,rfl,_,rfl,_,rfl,w',rfl,kA,_,rfl,_,rfl,_,rfl,w',rfl,kA,_,_,rfl,rfl,hlen,?_⟩
 rw[Cy]
 have Qm:(cw w' k).length*p<=sizeLine:=by rw[km Fc,VD];omega
 refine ⟨_,rfl,_,_,rfl,rfl,⟨by omega,by omega⟩,by rw[PB];exact Qm,?_⟩
 rw[PB]
 obtain ⟨r1,r2⟩:=HP hy sw hp Fc
 have ul:(bP p (cw w' k)).length<=12:=by rw[r1.len];exact iP
 have lt: ∀c∈bP p (cw w' k),Lt c:=fun c hc=>hy.lt c (r1.sw.bL c hc)
 have ee:cM p (cw w' k)=bP p (cw w' k):=rfl
 rw[ee]
 generalize bP p (cw w' k)=u at r1 r2 ul lt ⊢
 refine ⟨_,rfl,_,rfl,u,rfl,lt,by omega,fun H2 s2=>?_⟩
 refine ⟨by show 2<=sizeLine;decide,fun t nt=>?_⟩
 have mI:=y_.same s2
 have tb:=mI.ne nt
 have ht:upd H2 t (.lst [.str (S u), .str (S (cT u))]) t=some (.lst [.str (S u), .str (S (cT u))]):=ag
 have u9:=mI.js (o:= .lst [.str (S u), .str (S (cT u))]) tb
 have s3:aR b H (upd H2 t (.lst [.str (S u), .str (S (cT u))])):=(s1.after s2).js ((s1.after s2).none nt tb)
 generalize upd H2 t (.lst [.str (S u), .str (S (cT u))])=H3 at ht u9 s3 ⊢
 refine ⟨_,rfl,b,2,rfl,u9,by decide,by decide,fun r H4 hr CA s4=>?_⟩
 have Qu:=s4 _ _ ht tb
 rcases (show r=0\/r=1 by omega) with rfl | rfl
 ·exact ⟨t,_,_,_,rfl,rfl,bJ.of Qu,rfl,q u H4 r1 CA (s3.trans s4)⟩
 ·exact ⟨t,_,_,_,rfl,rfl,bJ.of Qu,rfl,q _ H4 r2 CA (s3.trans s4)⟩
theorem sM:bA P w K mg base e_ 1 f9 d9 ["rising","point"] (kc K):=by
 refine T.F9.fn.ok cO (fun vs H Q E h=>o8 h) (fun cB A outer s H vs Q E hr h=>?_)
 refine ⟨_,(ae (ao (i:=2) cO.nd rfl (Or.inl rfl) ai)
   (ae (ao (i:=3) cO.nd rfl (Or.inl rfl) (ak cA (aA (bj K rfl) rfl T.z_len T4 (aa (pv 0) ab)) ai))
   (ae (dc PassesOwn.never (aL mY (pv 2) (pv 3) (aO _)) (ae (ao (i:=4) cO.nd rfl (Or.inl rfl) (ak bV (ak aT (pv 2) (pv 3)) ai))
   (ah (b5 (aL mY (aQ (bK K rfl) (pv 0) (pv 4) (fun _ _=>rfl)) (pv 1) (aO _)) (ah (ao (i:=2) cO.nd rfl (Or.inl rfl) (ak aT (pv 4) ai))) (ah (ao (i:=3) cO.nd rfl (Or.inl rfl) (pv 4)))))))
   (ah (aG (pv 2)))))),?_⟩
 obtain ⟨a,l,p,rfl,ha,up,hp,hn,q⟩:=h
 have hs:(100000:Nat)<sizeLine:=by decide
 have hi:=Rm hp
 have OU:l[l.idxOf p]=p:=Vt hi
 have key:=V8.mp up
 refine ⟨_,rfl,a,_,rfl, .inl (bJ.of ha),?_⟩
 rw[ka]
 walk_at "wk"
 refine ⟨fun m σ H'=> ∃(lo hi:Nat) (mv:Option V),σ=[some (.ref a),some (.int p),some (.int lo),some (.int hi),mv]/\m=hi - lo/\lo<=l.idxOf p/\l.idxOf p<=hi/\hi<l.length/\H'=H,⟨_,0,l.length - 1,none,?_,rfl,T6 _,by omega,by omega,rfl⟩,?_⟩
 ·have:((l.length:Int) - 1)=((l.length - 1:Nat):Int):=by omega
  rw[<-this];rfl
 rintro m σ H2 ⟨lo,lX,mv,rfl,rfl,h1,h2,h3,rfl⟩
 walk_at "wk"
 refine bY (fun z=>?_) (fun z=>?_)
 ·have z1:(lo:Int)<lX:=of_decide_eq_true z
  have em:(((lo:Int)+lX) / 2)=(((lo+lX) / 2:Nat):Int):=by omega
  have hm:(lo+lX) / 2<l.length:=by omega
  walk_at "rd"
  refine ⟨a,_,((lo:Int)+lX) / 2,_,rfl,rfl,bJ.of ha,by rw[em];exact cL (BU (GJ hm)),?_⟩
  walk_at "rd"
  refine bY (fun y=>?_) (fun y=>?_)
  ·have y1:((l[(lo+lX) / 2]:Nat):Int)<p:=of_decide_eq_true y
   have lt:(lo+lX) / 2<l.idxOf p:=by
    refine Classical.byContradiction fun w=>?_
    by_cases e:(lo+lX) / 2=l.idxOf p
    ·have:l[(lo+lX) / 2]=p:=by simp only[e];exact OU
     omega
    ·have:=key (l.idxOf p) ((lo+lX) / 2) hi hm (by omega)
     rw[OU]at this
     omega
   walk_at "rd"
   have e1:((lo:Int)+lX) / 2+1=(((lo+lX) / 2+1:Nat):Int):=by omega
   refine ⟨lX - ((lo+lX) / 2+1),by omega,(lo+lX) / 2+1,lX,_,by rw[<-e1];rfl,rfl,by omega,h2,h3,rfl⟩
  ·have y1: ¬((l[(lo+lX) / 2]:Nat):Int)<p:=fun w=>y (decide_eq_true w)
   have le:l.idxOf p<=(lo+lX) / 2:=by
    refine Classical.byContradiction fun w=>?_
    have:=key ((lo+lX) / 2) (l.idxOf p) hm hi (by omega)
    rw[OU]at this
    omega
   walk_at "rd"
   refine ⟨(lo+lX) / 2 - lo,by omega,lo,(lo+lX) / 2,_,by rw[<-em];rfl,rfl,h1,le,by omega,rfl⟩
 ·have z1: ¬(lo:Int)<lX:=fun w=>z (decide_eq_true w)
  have e:lo=l.idxOf p:=by omega
  walk_at "rd"
  rw[e]
  exact q
theorem mB:bA P w K mg base e_ 1 f8 d8 ["some"] (gU K):=by
 refine T.F8.fn.ok cY (fun vs H Q E h=>kT h) (fun cB A outer s H vs Q E hr h=>?_)
 refine ⟨_,(ae (ao (i:=1) cY.nd rfl (Or.inl rfl) AR)
   (ae (cG PassesOwn.never rfl (ie K rfl (pv 0)) (aU (i:=2) cY.nd rfl (Or.inl rfl)) (ae (ao (i:=3) cY.nd rfl (Or.inl rfl) (aA (pK rfl) rfl T.z_min boot_min (aa (aQ (bz K rfl) (pv 2) ai (fun _ _=>rfl)) (aa (aQ (bz K rfl) (pv 2) ai (fun _ _=>rfl)) ab))))
   (ae (rm (m_ hr) (pv 1) (aQ (bz K rfl) (pv 2) ai (fun _ _=>rfl)) (pv 3) rfl)
   (ah (rm (m_ hr) (pv 1) (aQ (bz K rfl) (pv 2) ai (fun _ _=>rfl)) (pv 3) rfl)))))
   (ah (aG (pv 1))))),?_⟩
 obtain ⟨a,qs,rfl,ha,hq,hn,nd,q⟩:=h
 have hs:(100000:Nat)<sizeLine:=by decide
 walk_at "wk"
 intro d MZ
 have Qv:a≠d:=aq ha MZ
 refine ⟨_,rfl,a,rfl,⟨_,bJ.of (by rw[au Qv];exact ha)⟩,?_⟩
 refine jH (K:=K) (a:=a) (xs:=mi qs) (fun k σ H'=> ∃(cv fv:Option V),σ=[some (.ref a),some (.ref d),cv,fv]/\H' d=some (.dK (fH ((qs.take k).map Q4.v)))/\aR d H H')
  ⟨none,none,rfl,ag,fun b o e z=>by rw[au z];exact e⟩ (fun k σ H' _ ⟨_,_,_,_,h⟩=>bJ.of (h _ _ ha Qv)) ?_ ?_
 ·rintro k x σ H1 hx ⟨cv,fv,rfl,hd,s1⟩
  obtain ⟨c,hc,rfl⟩:=Ht hx
  have hk:k<qs.length:=(GK.mp hc).1
  have tc:=hq c (UC hc)
  have lT:c.t≠d:=fun z=>by have h9:H c.t=_:=tc;rw[z,MZ]at h9;cases h9
  have M0:o7 H1 c:=s1 _ _ tc lT
  have lc:(fH ((qs.take k).map Q4.v)).length<=2000:=by rw[uA,Py,UB];omega
  have e:(qs.take (k+1)).map Q4.v=(qs.take k).map Q4.v++[c.v]:=by rw[<-take_snoc hc,Rn];rfl
  have Qw:(cX ((qs.take k).map Q4.v++[c.v])).Nodup:=by
   rw[<-e]
   have:qs.map Q4.v=(qs.take (k+1)).map Q4.v++(qs.drop (k+1)).map Q4.v:=by rw[<-Rn,Vz]
   rw[this]at nd
   unfold cX at nd ⊢
   rw[Vc,Vw]at nd
   exact nd.1
  refine ⟨_,rfl,c.t,_,2,_,rfl,rfl,cS.of M0,rfl,_,rfl,c.t,_,3,_,rfl,rfl,cS.of M0,rfl,_,_,rfl,?_⟩
  refine ⟨_,rfl,_,rfl,_,rfl,c.t,_,2,_,rfl,rfl,cS.of M0,rfl,d,_,rfl,rk.k (k:=Sum.inl (c.v.2.2.1:Int)) hd (by omega),?_⟩
  have SO: ∀o,o7 (L2.upd H1 d o) c:=fun o=>by show L2.upd H1 d o c.t=_;rw[au lT];exact M0
  refine ⟨_,rfl,_,rfl,_,rfl,c.t,_,3,_,rfl,rfl,cS.of (SO _),rfl,d,_,rfl,rk.k (k:=Sum.inl (c.v.2.2.2:Int)) ag (UX (fK _ _ _) (by omega)),?_⟩
  refine ⟨_,_,rfl,?_,fun b o eb z=>by rw[au z,au z];exact s1 b o eb z⟩
  rw[ag,e, <-Ep Qw]
  rfl
 ·rintro σ H1 ⟨cv,fv,rfl,hd,s1⟩
  rw[xZ,VA]at hd
  exact ⟨_,rfl,q d H1 MZ hd fun b o eb=>s1 b o eb (aq eb MZ)⟩
theorem fS:bA P w K mg base e_ 2 IQ Jt ["some"] (fP K):=by
 have oO:=mB (P:=P) (w:=w) (base:=base) T
 have uS:=sM (P:=P) (w:=w) (base:=base) T
 refine T.zK.fn.ok bo (fun vs H Q E h=>jy h) (fun cB A outer s H vs Q E hr h=>?_)
 refine ⟨_,(ae (ao (i:=1) bo.nd rfl (Or.inl rfl) (aj oO (hr.mono (by decide)) rfl T.F8.mg T.F8.fn.kp T.F8.bd .nil aB (aa (pv 0) ab)))
   (ae (ao (i:=2) bo.nd rfl (Or.inl rfl) (eS ab))
   (ae (ao (i:=3) bo.nd rfl (Or.inl rfl) ai)
   (ae (cG PassesOwn.never rfl (ie K rfl (aA (o4 rfl) rfl T.z_sorted boot_sorted (aa (pv 1) ab))) (aU (i:=4) bo.nd rfl (Or.inl rfl)) (ah (b5 (aL nA (mJ (m_ hr) (pv 1) (pv 4) (fun _ _=>rfl)) (pv 4) (aO _)) (ah (eA (b6 K rfl UZ VC VB fk (pv 2) (aa (pv 4) ab)))) (ae (ao (i:=5) bo.nd rfl (Or.inl rfl) (aj uS (hr.mono (by decide)) rfl T.F9.mg T.F9.fn.kp T.F9.bd .nil aB (aa (pv 2) (aa (mJ (m_ hr) (pv 1) (pv 4) (fun _ _=>rfl)) ab))))
   (ae (eA (b6 K rfl UZ Wl Wj m9 (pv 2) (aa (pv 5) ab)))
   (ah (jm (i:=3) bo.nd rfl (Or.inl rfl) (ak cA (aA (bj K rfl) rfl T.z_len T4 (aa (pv 2) ab)) (pv 5)) qS)))))))
   (ah (aG (pv 3))))))),?_⟩
 obtain ⟨a,qs,rfl,ha,hq,hn,nd,q⟩:=h
 have hs:(100000:Nat)<sizeLine:=by decide
 refine ⟨_,rfl,a,qs,rfl,ha,hq,by omega,nd,fun d H1 Qw hd s1=>?_⟩
 have SQ:(qs.map Q4.v).length<=24:=by rw[Py];exact hn
 generalize qs.map Q4.v=cs at nd hd q SQ
 have kl:=uA cs
 have Uj:(cX cs).length=2*cs.length:=by
  have:=congrArg List.length (gq cs)
  rw[Py,Py]at this
  omega
 walk_at "wk"
 intro b nb
 have Qx:d≠b:=aq hd nb
 have hd2:L2.upd H1 b (.lst []) d=some (.dK (fH cs)):=by rw[au Qx];exact hd
 have sb:=ay.upd (o:= .lst []) nb
 refine ⟨_,rfl,d,_,(cX cs).map fun n:Nat=>(n:Int),rfl,hd2,by rw[gq,Vj];rfl,by rw[Py];omega,fun p2 ms n2 sF LU=>?_⟩
 obtain ⟨P,eP,pP,uP⟩:=wx nd sF LU
 rw[eP]
 have ch:=Hz nd pP uP
 have lP:P.length<=2000:=by rw[pP.length_eq];omega
 have Qy:p2≠b:=fun z=>by rw[z,ag]at n2;cases n2
 have s2:=sb.trans (ay.upd (o:= .lst (ins P)) n2)
 refine ⟨p2,rfl,⟨_,bJ.of ag⟩,?_⟩
 refine jH (K:=K) (a:=p2) (xs:=ins P) (fun k σ H'=> ∃(m:Nat) (pv nv:Option V),σ=[some (.ref a),some (.ref d),some (.ref b),some (.int m),pv,nv]/\H' b=some (.lst (ins (mQ (cj cs) (P.take k) (P.drop k))))/\m+C2 (cj cs) (P.take k) (P.drop k)=C2 (cj cs) [] P/\aR b (L2.upd (L2.upd H1 b (.lst [])) p2 (.lst (ins P))) H')
  ⟨0,none,none,rfl,by rw[au (Ne.symm Qy),ag];rfl,by rw[WW];rfl,aR.refl _ _⟩ (fun k σ H' _ ⟨_,_,_,_,_,_,h⟩=>bJ.of (h _ _ ag Qy)) ?_ ?_
 ·rintro k x σ H3 hx ⟨m,pv,nv,rfl,hb,hm,s3⟩
  obtain ⟨p,hp,rfl⟩: ∃p,P[k]? =some p/\x=V.int (p:Nat):=by
   unfold ins at hx
   rw[UI]at hx
   cases e:P[k]? with
   | none=>rw[e]at hx;cases hx
   | some p=>rw[e]at hx;cases hx;exact ⟨p,rfl,rfl⟩
  have hk:k<P.length:=(GK.mp hp).1
  have SR:p∈cX cs:=pP.mem_iff.mp (UC hp)
  have Qz:=HB nd SR
  have QA:H3 d=some (.dK (fH cs)):=s3 _ _ (s2 _ _ hd) Qx
  have QB:P=P.take k++p::P.drop (k+1):=by
   have:=Vz k P
   rw[Vf hk,(GK.mp hp).2]at this
   exact this.symm
  have OV:P.drop k=p::P.drop (k+1):=by rw[Vf hk,(GK.mp hp).2]
  have L4:P.take (k+1)=P.take k++[p]:=(take_snoc hp).symm
  have bl:(mQ (cj cs) (P.take k) (P.drop k)).length<=2000:=UW Er (by rw[UB];omega)
  have uh:=BX (st:=cj cs) hp
  refine ⟨_,rfl,_,rfl,d,_,rfl,by rw[<-Qz];exact nF.k (k:=Sum.inl (p:Int)) QA,?_⟩
  walk_at "rd"
  refine bY (fun z=>?_) (fun z=>?_)
  ·have z1:cj cs p=p:=by have:=of_decide_eq_true z;omega
   refine ⟨_,rfl, .inl ⟨rfl,_,bJ.of hb⟩,_,rfl,b,_,_,rfl,rfl,hb,by rw[ka];omega,?_⟩
   refine ⟨m,_,_,rfl,?_,?_,s3.trans (aR.upd _ _ _)⟩
   ·rw[ag,BS,L4,BO ch QB z1, <-OV]
   ·have e0:zA (cj cs) (P.take k) (P.drop (k+1)) p=0:=by unfold zA;rw[if_pos z1]
    omega
  ·have z1:cj cs p≠p:=fun w=>z (decide_eq_true (by rw[w]))
   obtain ⟨en,em⟩:=Hw ch QB z1
   rw[<-OV]at en em
   have up:=HA (st:=cj cs) uP (Vz k P).symm (P.drop k)
   have vB:=Rm em
   refine ⟨_,rfl,_,rfl,_,rfl,d,_,rfl,by rw[<-Qz];exact nF.k (k:=Sum.inl (p:Int)) QA,b,_,cj cs p,rfl,hb,up,em,by omega,?_⟩
   refine ⟨_,rfl, .inl ⟨rfl,_,bJ.of hb⟩,_,rfl,b,_,_,_,_,rfl,rfl,hb,by omega,by omega,?_,BU (GJ vB),?_⟩
   ·rw[ka]
    exact LP vB
   have ee:(ins (mQ (cj cs) (P.take k) (P.drop k))).eraseIdx ((mQ (cj cs) (P.take k) (P.drop k)).idxOf (cj cs p))=ins (mQ (cj cs) (P.take (k+1)) (P.drop (k+1))):=by
    rw[L4,en, <-BW em]
    exact qz _ _
   rw[ee]
   refine ⟨_,rfl,_,rfl,b,_,rfl, .inl (bJ.of ag),?_⟩
   walk_at "rd"
   have bh:=behind up em
   have lb:(mQ (cj cs) (P.take (k+1)) (P.drop (k+1))).length=((mQ (cj cs) (P.take k) (P.drop k)).erase (cj cs p)).length:=by rw[L4,en]
   have le:((mQ (cj cs) (P.take k) (P.drop k)).erase (cj cs p)).length+1=(mQ (cj cs) (P.take k) (P.drop k)).length:=by rw[List.length_erase_of_mem em];omega
   have ec:zA (cj cs) (P.take k) (P.drop (k+1)) p=((mQ (cj cs) (P.take k) (P.drop k)).filter fun x=>decide (cj cs p<x)).length:=by unfold zA;rw[if_neg z1,OV]
   have ei:(m:Int)+(((ins (mQ (cj cs) (P.take (k+1)) (P.drop (k+1)))).length:Nat) - ((mQ (cj cs) (P.take k) (P.drop k)).idxOf (cj cs p):Nat))=((m+zA (cj cs) (P.take k) (P.drop (k+1)) p:Nat):Int):=by rw[ka];omega
   exact ⟨m+zA (cj cs) (P.take k) (P.drop (k+1)) p,some (.int p),some (.int ((mQ (cj cs) (P.take k) (P.drop k)).idxOf (cj cs p):Nat)),by rw[<-ei];rfl,ag,by omega,s3.trans (aR.upd _ _ _)⟩
 ·rintro σ H3 ⟨m,pv,nv,rfl,hb,hm,s3⟩
  rw[ka,List.drop_length,VA]at hm
  have DM:m=C2 (cj cs) [] P:=hm
  refine ⟨_,rfl,?_⟩
  rw[DM,LO ch]
  exact q H3 fun c o e=>s3 c o (s2 c o (s1 c o e)) (aq e (ay.free s1 nb))
theorem pB:bA P w K mg base e_ 2 f4 d4 ["yard","drawing","end"] (jd K):=by
 have sJ:=uM (P:=P) (w:=w) (base:=base) T
 refine T.F4.fn.ok ji (fun vs H Q E h=>nS h) (fun cB A outer s H vs Q E hr h=>?_)
 refine ⟨_,(ae (ao (i:=3) ji.nd rfl (Or.inl rfl) (dN (oZ K rfl) rfl T.z_list boot_list (aa (aQ (bz K rfl) (aQ (bz K rfl) (pv 1) ai (fun _ _=>rfl)) (b6 K rfl UL WU WS kH (aj sJ (hr.mono (by decide)) rfl T.F2.mg T.F2.fn.kp T.F2.bd .nil aB (aa (pv 0) ab)) (aa (eE K rfl UL WT WR ni (pv 2)) ab)) (fun _ _=>rfl)) ab)))
   (ae (b5 (g9 (eE K rfl UL PySem.F.slot_str_isupper PySem.F.type_str_isupper vG (pv 2))) (ah (eA (eE K rfl UZ PySem.F.slot_list_reverse PySem.F.type_list_reverse vy (pv 3)))) bB)
   (ah (aG (pv 3))))),?_⟩
 obtain ⟨y,dr,ws,os,e,rfl,hy,hz,he,ho,hd,q⟩:=h
 have hs:(100000:Nat)<sizeLine:=by decide
 have MX: ∀c∈y,c<128:=Fn hy.lt
 have QC:=MX e he
 obtain ⟨⟨wt,ot,d1,d2,d3⟩,dO⟩:=hd
 obtain ⟨o,o1,o2,o3⟩:=iD hy he ho
 refine ⟨_,rfl,dr,_,1,_,rfl,rfl,cS.of d1,rfl,?_⟩
 refine ⟨_,rfl,y,rfl,MX,by omega,fun l' H1 w6 OQ s1=>?_⟩
 have el:=xW w6 OQ
 subst el
 refine ⟨rfl,_,rfl,rfl,e,rfl,rfl,QC,?_⟩
 refine ⟨fi y,_,rfl,rfl,Bz hy he,?_⟩
 refine ⟨ot,_,_,_,rfl,rfl,cS.of (s1 _ _ d3),cL (Hr o2),?_⟩
 refine ⟨o.o,_,rfl, .inr (cS.of (s1 _ _ (dO o o1).tp)),fun p1 n1=>?_⟩
 refine ⟨_,rfl,rfl,e,rfl,rfl,QC,_,rfl,bY (fun z=>?_) (fun z=>?_)⟩
 ·refine ⟨_,rfl, .inl ⟨rfl,_,bJ.of ag⟩,p1,_,rfl,rfl,ag,?_⟩
  refine ⟨_,rfl,q p1 _ (ay.free s1 n1) ?_ ?_⟩
  ·rw[ag,Ej]
   unfold mP
   rw[if_pos z,o3]
  ·exact fun a u ea=>by rw[au (aq ea (ay.free s1 n1)),au (aq ea (ay.free s1 n1))];exact s1 a u ea
 ·refine ⟨_,rfl,q p1 _ (ay.free s1 n1) ?_ (s1.trans (ay.upd n1))⟩
  rw[ag]
  unfold mP
  rw[if_neg z,o3]
theorem zR:bA P w K mg base e_ 3 f5 d5 ["yard","drawing"] (qw K):=by
 have sN:=pB (P:=P) (w:=w) (base:=base) T
 refine T.F5.fn.ok i4 (fun vs H Q E h=>wj h) (fun cB A outer s H vs Q E hr h=>?_)
 refine ⟨_,(ae (ao (i:=2) i4.nd rfl (Or.inl rfl) (eS ab))
   (ae (cG PassesOwn.never rfl (q8 (pv 0)) (aU (i:=3) i4.nd rfl (Or.inl rfl)) (ah (cG PassesOwn.never rfl (ie K rfl (aj sN (hr.mono (by decide)) rfl T.F4.mg T.F4.fn.kp T.F4.bd .nil aB (aa (pv 0) (aa (pv 1) (aa (pv 3) ab))))) (aU (i:=4) i4.nd rfl (Or.inl rfl)) (ah (eA (b6 K rfl UZ VC VB fk (pv 2) (aa (cQ (aa (aQ (bz K rfl) (pv 4) ai (fun _ _=>rfl)) (aa (aQ (bz K rfl) (pv 4) ai (fun _ _=>rfl)) (aa (pv 3) ab)))) ab)))))))
   (ah (aG (pv 2))))),?_⟩
 obtain ⟨y,dr,ws,os,rfl,hy,hz,ho,hd,q⟩:=h
 have hs:(100000:Nat)<sizeLine:=by decide
 walk_at "wk"
 intro p1 n1
 refine ⟨_,rfl,y,rfl,?_⟩
 refine xj (xs:=dj y) (fun i σ H'=> ∃(ps:List Pt) (ev sv:Option V),σ=[some (.str (S y)),some (.ref dr),some (.ref p1),ev,sv]/\H' p1=some (.lst (C0 ps))/\(∀p∈ps,o6 H' p/\p.t≠p1)/\ps.map Pt.is=(y.take i).flatMap (eY y os)/\ps.length<=100*i/\aR p1 H H') ⟨[],none,none,rfl,ag,fun _ h=>absurd h UP,rfl,T6 _,aR.of (ay.upd n1)⟩ ?_ ?_
 ·rintro i x σ H1 hx ⟨ps,ev,sv,rfl,hp,yn,oR,iP,s1⟩
  obtain ⟨e,he,rfl⟩:=iQ hx
  have C1:=UC he
  have hi:i<y.length:=(GK.mp he).1
  have Ib:ay H H1:=fun a u ea=>s1 a u ea (aq ea n1)
  refine ⟨_,rfl,_,rfl,_,rfl,y,dr,ws,os,e,rfl,hy,hz,C1,ho,hd.same Ib,fun p2 H2 n2 xn s2=>?_⟩
  have Qe:=Em (H:=H) hy C1 ho hd.od
  refine ⟨p2,rfl,⟨_,bJ.of xn⟩,?_⟩
  have SU:p2≠p1:=fun z=>by rw[z,hp]at n2;cases n2
  refine jH (K:=K) (a:=p2) (xs:=qv (mP y os e)) (fun j σ H'=> ∃(us:List Pt) (sv:Option V),σ=[some (.str (S y)),some (.ref dr),some (.ref p1),some (.str (S [e])),sv]/\H' p1=some (.lst (C0 us))/\H' p2=some (.lst (qv (mP y os e)))/\(∀p∈us,o6 H' p/\p.t≠p1)/\us.map Pt.is=ps.map Pt.is++((mP y os e).take j).map (fun p=>(p.c,p.i,e))/\us.length<=100*i+j/\aR p1 H1 H')
   ⟨ps,sv,rfl,s2 _ _ hp,xn,fun p vZ=>⟨(yn p vZ).1.same s2,(yn p vZ).2⟩,by simp,by omega,aR.of s2⟩ (fun j σ H' _ ⟨_,_,_,_,h,_⟩=>bJ.of h) ?_ ?_
  ·rintro j x σ H3 OO ⟨us,SV,rfl,zP,L8,L9,zO,HZ,s3⟩
   obtain ⟨p,OW,rfl⟩:=BB OO
   obtain ⟨o,oo,po⟩:=El hy C1 ho (UC OW)
   have hj:j<(mP y os e).length:=(GK.mp OW).1
   have MY:ay H H3:=fun a u ea=>s3 a u (Ib a u ea) (aq ea n1)
   have pk:=(hd.od o oo).pr p po
   have tp:=MY _ _ pk.tp
   refine ⟨_,rfl, .inl ⟨rfl,_,bJ.of zP⟩,?_⟩
   refine ⟨_,rfl,p.t,_,0,_,rfl,rfl,cS.of tp,rfl,_,rfl,p.t,_,1,_,rfl,rfl,cS.of tp,rfl,?_⟩
   walk_at "wk"
   intro t nt
   have L_:t≠p1:=fun z=>by rw[z,zP]at nt;cases nt
   refine ⟨p1,_,_,rfl,rfl,(ay.upd nt) _ _ zP,by rw[xX];omega,?_⟩
   refine ⟨us++[⟨t,p.c,p.i,e⟩],_,rfl,by rw[ag];exact congrArg (fun x=>some (HO.lst x)) (BD us ⟨t,p.c,p.i,e⟩),by rw[au SU];exact (ay.upd nt) _ _ L8,fun r hr=>?_,?_,by rw[Rk];show us.length+1<=_;omega,fun a u ea z=>by rw[au z];exact (ay.upd nt) _ _ (s3 a u ea z)⟩
   ·rcases UO.mp hr with z | z
    ·exact ⟨((L9 r z).1.same (ay.upd nt)).upd (L9 r z).2,(L9 r z).2⟩
    ·have e2:=PC.mp z
     subst e2
     exact ⟨o6.upd ⟨ag,pk.cz,pk.iz,(hy.lt e C1).lt⟩ L_,L_⟩
   ·rw[Rn,zO, <-take_snoc OW,Rn,VO]
    rfl
  ·rintro σ H3 ⟨us,SV,rfl,zP,L8,L9,zO,HZ,s3⟩
   rw[r9]at HZ zO
   refine ⟨us,_,_,rfl,zP,L9,?_,by omega,fun a u ea z=>s3 a u (s1 a u ea z) z⟩
   rw[zO,oR, <-take_snoc he,Vc,VA,U2,Xw,Vh]
   rfl
 ·rintro σ H1 ⟨ps,ev,sv,rfl,hp,yn,oR,iP,s1⟩
  rw[aW]at iP oR
  rw[VA]at oR
  exact ⟨_,rfl,q p1 ps H1 n1 hp yn oR (by omega) (fun a u ea=>s1 a u ea (aq ea n1))⟩
theorem lD:bA P w K mg base e_ 2 f6 d6 ["word","cord","place"] (gp K):=by
 have cn:=eR (P:=P) (w:=w) (base:=base) T
 refine T.F6.fn.ok gu (fun vs H Q E h=>j_ h) (fun cB A outer s H vs Q E hr h=>?_)
 refine ⟨_,(ae (ao (i:=3) gu.nd rfl (Or.inl rfl) (ak dM (ak cA (pv 2) ai) (aA aF rfl T.z_len T4 (aa (pv 0) ab))))
   (ah (aG (cQ (aa (cQ (aa (pv 1) (aa (pv 3) (aa (aj cn (hr.mono (by decide)) rfl T.F0.mg T.F0.fn.kp T.F0.bd .nil aB (aa (aQ jn (pv 0) (pv 3) (fun _ _=>rfl)) ab)) ab)))) (aa (cQ (aa (pv 1) (aa (pv 2) (aa (aQ jn (pv 0) (pv 2) (fun _ _=>rfl)) ab)))) ab)))))),?_⟩
 obtain ⟨w,c,i,rfl,OX,hi,hz,q⟩:=h
 have hs:(100000:Nat)<sizeLine:=by decide
 have hp:(0:Int)<(w.length:Int):=by omega
 have SX:=xY hi
 have iP:=wo hi
 have e1:w.getD (uY w.length i) 0=w[uY w.length i]:=by rw[Ro,GJ iP];rfl
 have e2:w.getD i 0=w[i]:=by rw[Ro,GJ hi];rfl
 rw[e1,e2]at q
 refine ⟨_,rfl,_,_,rfl,rfl,_,rfl,w,rfl,by omega,_,_,rfl,rfl,hp,?_⟩
 show s_ 3 (V.int (((i:Int) - 1)%(w.length:Int))) _ _ _
 rw[SX]
 refine ⟨_,rfl,_,rfl,_,rfl,_,rfl,w,_,_,rfl,rfl,by omega,cL (GJ iP),_,rfl,OX _ (Vb iP),by show 3<=sizeLine;decide,fun t1 n1=>?_⟩
 refine ⟨_,rfl,_,rfl,_,rfl,_,rfl,w,_,_,rfl,rfl,by omega,cL (GJ hi),by show 3<=sizeLine;decide,fun t2 n2=>?_⟩
 refine ⟨by show 2<=sizeLine;decide,fun t nt=>?_⟩
 have OY:=(ay.upd (o:= .tup [.ref t1, .ref t2]) nt)
 refine q t t1 t2 _ ag (OY _ _ ((ay.upd n2) _ _ ag)) (OY _ _ ag) ((ay.upd n1).trans ((ay.upd n2).trans OY))
theorem oP:bA P w K mg base e_ 4 f7 d7 ["yard","drawing"] (nV K):=by
 have CB:=zR (P:=P) (w:=w) (base:=base) T
 have mC:=lD (P:=P) (w:=w) (base:=base) T
 refine T.F7.fn.ok ck (fun vs H Q E h=>uw h) (fun cB A outer s H vs Q E hr h=>?_)
 refine ⟨_,(ae (ao (i:=2) ck.nd rfl (Or.inl rfl) AS)
   (ae (cG PassesOwn.never rfl (AJ K rfl rfl T.z_enumerate (aa (aj CB (hr.mono (by decide)) rfl T.F5.mg T.F5.fn.kp T.F5.bd .nil aB (aa (pv 0) (aa (pv 1) ab))) ab)) (mH (n:=2) K rfl rfl (eG (aU (i:=3) ck.nd rfl (Or.inl rfl)) (eG (aU (i:=4) ck.nd rfl (Or.inl rfl)) mE))) (ah (rm (m_ hr) (pv 2) (pv 4) (pv 3) rfl)))
   (ae (ao (i:=5) ck.nd rfl (Or.inl rfl) (eS ab))
   (ae (cG PassesOwn.never rfl (tP K rfl rfl T.z_enumerate (aa (aQ (bz K rfl) (pv 1) ai (fun _ _=>rfl)) ab)) (mH (n:=2) K rfl rfl (eG (aU (i:=6) ck.nd rfl (Or.inl rfl)) (eG (aU (i:=7) ck.nd rfl (Or.inl rfl)) mE))) (ah (cG PassesOwn.never rfl (fj rfl T.z_range (aa (aA aF rfl T.z_len T4 (aa (pv 7) ab)) ab)) (aU (i:=8) ck.nd rfl (Or.inl rfl)) (ae (ao (i:=9) ck.nd rfl (Or.inl rfl) (aj mC (hr.mono (by decide)) rfl T.F6.mg T.F6.fn.kp T.F6.bd .nil aB (aa (pv 7) (aa (pv 6) (aa (pv 8) ab)))))
   (ah (eA (b6 K rfl UZ VC VB fk (pv 5) (aa (cQ (aa (pv 6) (aa (pv 8) (aa (mJ (m_ hr) (pv 2) (aQ (bz K rfl) (pv 9) ai (fun _ _=>rfl)) (fun _ _=>rfl)) (aa (mJ (m_ hr) (pv 2) (aQ (bz K rfl) (pv 9) ai (fun _ _=>rfl)) (fun _ _=>rfl)) ab))))) ab))))))))
   (ah (aG (pv 5))))))),?_⟩
 obtain ⟨y,dr,ws,os,rfl,hy,hz,pj,M1,hd,q⟩:=h
 have hs:(100000:Nat)<sizeLine:=by decide
 have SY:=BG hy M1
 have Sv:=iC hy
 have Hs:=M1.1
 have Uk:=pj.xt
 obtain ⟨⟨wt,ot,d1,d2,d3⟩,dO⟩:=id hd
 walk_at "wk"
 intro d nd
 refine ⟨_,rfl,_,rfl,y,dr,ws,os,rfl,hy,hz,by omega,hd.same (ay.upd nd),fun p1 ps H1 n1 wu yn oR Ox s1=>?_⟩
 have OZ:=s1 _ _ (ag (H:=H) (a:=d) (o:=HO.dT []))
 have Ib:ay H H1:=(ay.upd nd).trans s1
 have iP:ps.length=(jF y os).length:=by rw[<-oR,Py]
 refine ⟨p1,rfl,⟨_,bJ.of wu⟩,?_⟩
 have S0:p1≠d:=fun z=>by rw[z,ag]at n1;cases n1
 refine yX (K:=K) (a:=p1) (xs:=C0 ps) (fun i σ H'=> ∃(aK:List (List Key×V)) (nv pv:Option V),σ=[some (.str (S y)),some (.ref dr),some (.ref d),nv,pv,none,none,none,none,none]/\H' d=some (.dT aK)/\Nums (jF y os) aK i/\aK.length<=i/\aR d H1 H')
  ⟨[],none,none,rfl,OZ,fun p hp=>absurd hp (by simp),T6 _,aR.refl _ _⟩ (fun i σ H' _ ⟨_,_,_,_,_,_,_,h⟩=>bJ.of (h _ _ wu S0)) ?_ ?_
 ·rintro i x σ H2 T hx ⟨aK,nv,pv,rfl,hd2,EI,S3,s2⟩ nT
  obtain ⟨p,hp,rfl⟩: ∃p,ps[i]? =some p/\x=V.ref p.t:=by
   unfold C0 at hx
   rw[UI]at hx
   cases e:ps[i]? with
   | none=>rw[e]at hx;cases hx
   | some p=>rw[e]at hx;cases hx;exact ⟨p,rfl,rfl⟩
  have hi:i<ps.length:=(GK.mp hp).1
  have pk:=(yn p (UC hp)).1.tp
  have S4:p.t≠d:=fun z=>by rw[z,OZ]at pk;cases pk
  have S5:d≠T:=aq hd2 nT
  refine ⟨T,_,rfl,cS.of ag,rfl,_,_,rfl,_,_,rfl,rfl,?_⟩
  refine ⟨_,rfl,_,rfl,_,rfl,d,_,rfl,rk.t (k:=r_ p.is) (by rw[au S5];exact hd2) ((ay.upd nT) _ _ (s2 _ _ pk S4)) (by omega),?_⟩
  exact ⟨_,_,_,rfl,ag,EI.put SY (LN oR hp),UW (fK _ _ _) (by omega),fun a o ea z=>by rw[au z];exact (ay.upd nT) _ _ (s2 a o ea z)⟩
 ·rintro σ H2 ⟨aK,nv,pv,rfl,hd2,EI,S3,s2⟩
  rw[xX,iP]at EI
  have FN: ∀p∈jF y os,cV aK (r_ p)=some (.int ((jF y os).idxOf p:Nat)):=fun p hp=>EI p (by rw[VA];exact hp)
  have u7:ay H H2:=fun a o ea=>s2 a o (Ib a o ea) (aq ea nd)
  walk_at "wk"
  intro p2 n2
  have O0:=ay.upd (o:= .lst []) n2
  have S6:H p2=none:=ay.free u7 n2
  refine ⟨_,rfl,dr,_,0,_,rfl,rfl,cS.of (O0 _ _ (u7 _ _ d1)),rfl,?_⟩
  refine ⟨wt,rfl,⟨_,cS.of (O0 _ _ (u7 _ _ d2))⟩,?_⟩
  refine p8 (K:=K) (a:=wt) (xs:=iR ws) (fun j σ H'=> ∃(qs:List Q4) (cv wv iv av:Option V),σ=[some (.str (S y)),some (.ref dr),some (.ref d),nv,pv,some (.ref p2),cv,wv,iv,av]/\H' p2=some (.lst (mi qs))/\(∀x∈qs,o7 H' x)/\qs.map Q4.v=fO (jF y os) ws j/\qs.length<=12*j/\ay H2 H')
   ⟨[],none,none,none,none,rfl,ag,fun _ h=>absurd h UP,rfl,T6 _,O0⟩ (fun j σ H' _ ⟨_,_,_,_,_,_,_,_,_,_,h⟩=>cS.of (h _ _ (u7 _ _ d2))) ?_ ?_
  ·rintro j x σ H3 T hx ⟨qs,cv,wv,iv,av,rfl,zP,EJ,yr,M3,s3⟩ nT
   have hj:j<ws.length:=by
    have:=(GK.mp hx).1
    rwa [dy]at this
   rw[nH hj]at hx
   cases hx
   have HY:ws[j]? =some ws[j]:=GJ hj
   obtain ⟨M4,kA⟩:=pj.all _ (Vb hj)
   generalize ws[j]=w at HY M4 kA ⊢
   have OX: ∀l∈w,l<128:=fun l hl=>(hy.lt l (M4 l hl)).lt
   have sT:=ay.upd (o:= .tup [.int j, .str (S w)]) nT
   refine ⟨T,_,rfl,cS.of ag,rfl,_,_,rfl,_,_,rfl,rfl,?_⟩
   refine ⟨_,rfl,w,rfl,by omega,_,rfl,by omega,by omega,?_⟩
   rw[PB]
   refine dJ (fun i σ H'=> ∃(us:List Q4) (iv av:Option V),σ=[some (.str (S y)),some (.ref dr),some (.ref d),nv,pv,some (.ref p2),some (.int j),some (.str (S w)),iv,av]/\H' p2=some (.lst (mi us))/\(∀x∈us,o7 H' x)/\us.map Q4.v=fO (jF y os) ws j++kR (jF y os) j w i/\us.length<=12*j+i/\ay H2 H')
    ⟨qs,iv,av,rfl,sT _ _ zP,fun x hx=>(EJ x hx).ts (du.of sT),by rw[yr];show _=_++[];rw[Vh],by omega,s3.trans sT⟩ ?_ ?_
   ·rintro i σ H4 hi ⟨us,S7,S8,rfl,M5,zW,zO,HZ,s4⟩
    have e1:w[uY w.length i]? =some (w.getD (uY w.length i) 0):=by rw[Ro,GJ (wo hi)];rfl
    have e2:w[i]? =some (w.getD i 0):=by rw[Ro,GJ hi];rfl
    have m1:=FN _ (BH hy M1 HY e1 (M4 _ (UC e1)) (.inr rfl))
    have m2:=FN _ (BH hy M1 HY e2 (M4 _ (UC e2)) (.inl rfl))
    refine ⟨_,rfl,_,rfl,_,rfl,w,j,i,by rw[Vy];rfl,OX,hi,by omega,fun t t1 t2 H5 ht L_ QD s5=>?_⟩
    have S9:=s5 _ _ M5
    have QE:=s5 _ _ (s4 _ _ hd2)
    refine ⟨_,rfl, .inl ⟨rfl,_,bJ.of S9⟩,_,rfl,_,rfl,?_⟩
    refine ⟨_,rfl,_,rfl,t,_,0,_,rfl,rfl,cS.of ht,rfl,d,_,rfl,by rw[<-m1];exact nF.t QE L_,?_⟩
    refine ⟨_,rfl,_,rfl,t,_,1,_,rfl,rfl,cS.of ht,rfl,d,_,rfl,by rw[<-m2];exact nF.t QE QD,?_⟩
    rw[Vy]
    refine ⟨by show 4<=sizeLine;decide,fun tq S_=>?_⟩
    have s6:=s5.trans (ay.upd (o:= .tup [.int j, .int i, .int ((jF y os).idxOf (j,uY w.length i,aD (w.getD (uY w.length i) 0)):Nat), .int ((jF y os).idxOf (j,i,w.getD i 0):Nat)]) S_)
    have O1:=s6 _ _ M5
    refine ⟨p2,_,_,rfl,rfl,O1,by rw[xZ];omega,?_⟩
    refine ⟨us++[⟨tq,gn (jF y os) j w i⟩],_,_,rfl,by rw[ag];exact congrArg (fun x=>some (HO.lst x)) (BJ us ⟨tq,gn (jF y os) j w i⟩),fun x hx=>?_,by rw[Rn,zO,uv,VO];rfl,by rw[Rk];show us.length+1<=_;omega,fun a o ea=>by rw[au (aq ea n2)];exact s6 _ _ (s4 a o ea)⟩
    rcases UO.mp hx with g | g
    ·exact (zW x g).ts ((du.of s6).trans (du.DI O1))
    ·have e3:=PC.mp g
     subst e3
     exact (du.DI O1) _ _ ag
   ·rintro σ H4 ⟨us,S7,S8,rfl,M5,zW,zO,HZ,s4⟩
    exact ⟨us,_,_,_,_,rfl,M5,zW,by rw[zO,sd HY],by omega,s4⟩
  ·rintro σ H3 ⟨qs,cv,wv,iv,av,rfl,zP,EJ,yr,M3,s3⟩
   rw[dy]at yr
   exact ⟨_,rfl,q p2 qs H3 S6 zP EJ yr (u7.trans s3)⟩
theorem uT:bA P w K mg base e_ 9 Jf JK ["yard","words"] (uH K):=by
 have b8:=fS (P:=P) (w:=w) (base:=base) T
 have lE:=oP (P:=P) (w:=w) (base:=base) T
 have wX:=yp (P:=P) (w:=w) (base:=base) T
 refine T.HU.fn.ok Cv (fun vs H Q E h=>zJ h) (fun cB A outer s H vs Q E hr h=>?_)
 refine ⟨_,(ah (aG (aj b8 (hr.mono (by decide)) rfl T.zK.mg T.zK.fn.kp T.zK.bd .nil aB (aa (aj lE (hr.mono (by decide)) rfl T.F7.mg T.F7.fn.kp T.F7.bd .nil aB (aa (pv 0) (aa (aj wX (hr.mono (by decide)) rfl T.HS.mg T.HS.fn.kp T.HS.bd .nil aB (aa (pv 0) (aa (pv 1) ab))) ab))) ab)))),?_⟩
 obtain ⟨y,wt,ws,rfl,hy,hz,hk,uN,q⟩:=h
 refine ⟨_,rfl,_,rfl,_,rfl,y,wt,ws,rfl,hy,hz,uN,hk.xt,hk.sw,fun dr os H1 IG ht s1=>?_⟩
 obtain ⟨nd,e⟩:=zI hy (fun w hw=>(hk.sw w hw).1) ht
 obtain ⟨M,_,ok,_⟩:=id ht
 refine ⟨y,dr,ws,os,rfl,hy,hz,hk.ok,ok,IG,fun p qs H2 np hp EJ yr s2=>?_⟩
 have hl:=qF (os:=os) hk
 have M3:qs.length<=24:=by rw[<-yr,Py]at hl;omega
 refine ⟨p,qs,rfl,hp,EJ,M3,by rw[yr];exact nd,fun H3 s3=>?_⟩
 rw[yr]
 exact q _ H3 (s1.trans (s2.trans s3)) e
theorem Ih:bA P w K mg base e_ 10 Jg JL ["yard","word"] (Ck K):=by
 have sO:=uT (P:=P) (w:=w) (base:=base) T
 refine T.mr.fn.ok HX (fun vs H Q E h=>len_own h) (fun cB A outer s H vs Q E hr h=>?_)
 refine ⟨_,(ah (aG (aj sO (hr.mono (by decide)) rfl T.HU.mg T.HU.fn.kp T.HU.bd .nil aB (aa (pv 0) (aa (cQ (aa (pv 1) ab)) ab))))),?_⟩
 obtain ⟨y,w',rfl,hy,hz,hw,kA,q⟩:=h
 refine ⟨_,rfl,_,rfl,by show 1<=sizeLine;decide,fun t nt=>?_⟩
 refine ⟨y,t,[w'],rfl,hy,hz,EF hw kA,ag,fun n H1 s1 e=>?_⟩
 exact q n H1 ((ay.upd nt).trans s1) (e.trans (Ci y w'))
theorem wY:bA P w K mg base e_ 9 Jh JM ["yard","one","other"] (n_ K):=by
 have lE:=oP (P:=P) (w:=w) (base:=base) T
 have wX:=yp (P:=P) (w:=w) (base:=base) T
 have b8:=fS (P:=P) (w:=w) (base:=base) T
 refine T.C6.fn.ok gP (fun vs H Q E h=>uI h) (fun cB A outer s H vs Q E hr h=>?_)
 refine ⟨_,(ae (ao (i:=3) gP.nd rfl (Or.inl rfl) (aj lE (hr.mono (by decide)) rfl T.F7.mg T.F7.fn.kp T.F7.bd .nil aB (aa (pv 0) (aa (aj wX (hr.mono (by decide)) rfl T.HS.mg T.HS.fn.kp T.HS.bd .nil aB (aa (pv 0) (aa (cQ (aa (pv 1) (aa (pv 2) ab))) ab))) ab))))
   (ae (ao (i:=4) gP.nd rfl (Or.inl rfl) (bD (nB K rfl) (pv 3) cK (bu (aA aF rfl T.z_len T4 (aa (pv 1) ab)))))
   (ae (ao (i:=5) gP.nd rfl (Or.inl rfl) (bD (nB K rfl) (pv 3) (bu (aA aF rfl T.z_len T4 (aa (pv 1) ab))) cK))
   (ah (aG (ak cA (ak cA (aj b8 (hr.mono (by decide)) rfl T.zK.mg T.zK.fn.kp T.zK.bd .nil aB (aa (pv 3) ab)) (aj b8 (hr.mono (by decide)) rfl T.zK.mg T.zK.fn.kp T.zK.bd .nil aB (aa (pv 4) ab))) (aj b8 (hr.mono (by decide)) rfl T.zK.mg T.zK.fn.kp T.zK.bd .nil aB (aa (pv 5) ab)))))))),?_⟩
 obtain ⟨y,w',v,rfl,hy,hz,hw,kA,hv,Ta,q⟩:=h
 have hs:(100000:Nat)<sizeLine:=by decide
 have hk:=xG hw hv kA Ta
 refine ⟨_,rfl,_,rfl,_,rfl,_,rfl,by show 2<=sizeLine;decide,fun t nt=>?_⟩
 have st:=ay.upd (o:= .tup [.str (S w'), .str (S v)]) nt
 refine ⟨y,t,[w',v],rfl,hy,hz,ag,hk.xt,hk.sw,fun dr os H1 IG ht s1=>?_⟩
 obtain ⟨e,n0,n1,n2⟩:=EE hy hw hv ht
 obtain ⟨M,_,ok,_⟩:=id ht
 refine ⟨y,dr,[w',v],os,rfl,hy,hz,hk.ok,ok,IG,fun p qs H2 np hp EJ yr s2=>?_⟩
 have hl:=qF (os:=os) hk
 have M3:qs.length<=24:=by rw[<-yr,Py]at hl;exact hl
 have c1:m6 (mi qs) none (some (w'.length:Int))=mi (qs.take w'.length):=by
  show cut (mi qs) none (some ((w'.length:Nat):Int))=_
  rw[cZ]
  unfold mi
  rw[Xd]
 have c2:m6 (mi qs) (some (w'.length:Int)) none=mi (qs.drop w'.length):=by
  show cut (mi qs) (some ((w'.length:Nat):Int)) none=_
  rw[fz]
  unfold mi
  rw[Xe]
 refine ⟨_,rfl,_,rfl,w',rfl,by omega,_,rfl,p,_,rfl,bJ.of hp,fun p1 Tb=>?_⟩
 rw[c1]
 have s3:=ay.upd (o:= .lst (mi (qs.take w'.length))) Tb
 refine ⟨_,rfl,_,rfl,w',rfl,by omega,_,rfl,p,_,rfl,bJ.of (s3 _ _ hp),fun p2 Tc=>?_⟩
 rw[c2]
 have s4:=ay.upd (o:= .lst (mi (qs.drop w'.length))) Tc
 have L6:=s3.trans s4
 refine ⟨_,rfl,p,qs,rfl,L6 _ _ hp,fun x hx=>(EJ x hx).ts (du.of L6),by omega,by rw[yr];exact n0,fun H5 s5=>?_⟩
 have wu:H5 p1=some (.lst (mi (qs.take w'.length))):=s5 _ _ (s4 _ _ ag)
 have xn:H5 p2=some (.lst (mi (qs.drop w'.length))):=s5 _ _ ag
 have J0:=L6.trans s5
 refine ⟨_,rfl,p1,qs.take w'.length,rfl,wu,fun x hx=>(EJ x (V2 hx)).ts (du.of J0),by rw[UB];omega,by rw[Xd,yr];exact n1,fun H6 s6=>?_⟩
 refine ⟨_,_,rfl,rfl,?_⟩
 refine ⟨_,rfl,p2,qs.drop w'.length,rfl,s6 _ _ xn,fun x hx=>(EJ x (W8 hx)).ts (du.of (J0.trans s6)),by rw[US];omega,by rw[Xe,yr];exact n2,fun H7 s7=>?_⟩
 refine ⟨_,_,rfl,rfl,?_⟩
 rw[Xd,Xe,yr]
 have kq:=q H7 (st.trans (s1.trans (s2.trans (J0.trans (s6.trans s7)))))
 rw[<-e]at kq
 exact kq
theorem zS:bA P w K mg base e_ 3 Jq JV ["_law_one","_law_other_here"] (qH K):=by
 have lC:=oN (P:=P) (w:=w) (base:=base) T
 refine T.MQ.fn.ok qK (fun vs H Q E h=>wJ h) (fun cB A outer s H vs Q E hr h=>?_)
 refine ⟨_,(ae (AB (i:=2) ["_law_k","_law_one"] [none,some 0] qK.nd rfl (Or.inl rfl) (fj rfl T.z_range (aa (aA aF rfl T.z_len T4 (aa (pv 0) ab)) ab)) ⟨⟨rfl,rfl,by first | exact .inl rfl | exact .inr rfl⟩,trivial⟩ (fun _ _ _ _=>(aU (i:=0) (by decide+kernel:List.Nodup (["_law_k","_law_one"]:List Str)) rfl (Or.inl rfl))) (fun _ _ _ _=>hX) (fun _ _ _ _=>(ak gB (bD jN (pv 1) (bu (pv 0)) cK) (bD jN (pv 1) cK (bu (pv 0))))))
   (ah (aG (Kc (fI (AD K rfl) (pv 1) (pv 2) (by with_unfolding_all rfl)) (Ge (fI (AD K rfl) (aj lC (hr.mono (by decide)) rfl T.HV.mg T.HV.fn.kp T.HV.bd .nil aB (aa (pv 1) ab)) (pv 2) (by with_unfolding_all rfl))))))),?_⟩
 obtain ⟨y,w',v,rfl,hy,sw,sv,Ii,Ul,q⟩:=h
 have hs:(100000:Nat)<sizeLine:=by decide
 have kA:w'.length<=sizeLine:=by omega
 refine ⟨_,rfl,w',rfl,kA,_,rfl,by omega,by omega,?_⟩
 rw[PB]
 refine tI (fun i acc H'=>H'=H/\acc=iR ((List.range i).map fun k=>cw w' k)) (by omega) ⟨rfl,rfl⟩ ?_ ?_
 ·rintro i acc H1 Nx hi hl ⟨rfl,rfl⟩ nx
  have hlen:(cut w' (some (i:Int)) none).length+(cut w' none (some (i:Int))).length<=sizeLine:=by rw[cZ,fz,US,UB];omega
  have Cy:cut w' (some (i:Int)) none++cut w' none (some (i:Int))=cw w' i:=by rw[cZ,fz];rfl
  rw[Vy]
  refine ⟨⟨rfl,trivial⟩,fL ?_⟩
  refine ⟨_,rfl,_,rfl,_,rfl,w',rfl,kA,_,rfl,_,rfl,_,rfl,w',rfl,kA,_,_,rfl,rfl,hlen,?_⟩
  rw[Cy]
  refine nx _ _ (by simpa using hl) ⟨rfl,?_⟩
  rw[Vq,Rn]
  unfold iR
  rw[Rn]
  rfl
 ·rintro acc H1 D hl ⟨rfl,rfl⟩ hD
  have ht:upd H1 D (.lst (iR ((List.range w'.length).map fun k=>cw w' k))) D=some (.lst (iR ((List.range w'.length).map fun k=>cw w' k))):=ag
  have s0:=ay.upd (o:= .lst (iR ((List.range w'.length).map fun k=>cw w' k))) hD
  generalize upd H1 D (.lst (iR ((List.range w'.length).map fun k=>cw w' k)))=H2 at ht s0 ⊢
  have fl: ∀l:List (List Nat),(iR l).all jI=true:=fun l=>WO.mpr fun x hx=>by
   obtain ⟨z,_,rfl⟩:=UQ.mp hx
   rfl
  have key: ∀u,SW y u->u∈(List.range w'.length).map (fun k=>cw w' k)->SS y w' u=SS y w' w':=fun u su hu=>by
   obtain ⟨k,hk,rfl⟩:=UQ.mp hu
   rw[kQ hy sw su,Bx sw.ne (U0 (Vp.mp hk))]
  refine ⟨_,rfl,_,rfl,D,_,rfl, .inl (bJ.of ht),rfl,fl _,?_⟩
  rw[show (if false=true then !CU (V.str (S v)) (iR ((List.range w'.length).map fun k=>cw w' k)) else CU (V.str (S v)) (iR ((List.range w'.length).map fun k=>cw w' k)))=decide (v∈(List.range w'.length).map fun k=>cw w' k) from wL _ _]
  refine ⟨_,rfl,bY (fun c=>?_) (fun c=>?_)⟩
  ·exact q true H2 s0 fun _=>key v sv (of_decide_eq_true c)
  ·refine ⟨_,rfl,v,rfl,fun c hc=>hy.lt c (sv.bL c hc),by omega,fun H3 s3=>?_⟩
   refine ⟨_,rfl,D,_,rfl, .inl (bJ.of (s3 _ _ ht)),rfl,fl _,?_⟩
   rw[show (if false=true then !CU (V.str (S (cT v))) (iR ((List.range w'.length).map fun k=>cw w' k)) else CU (V.str (S (cT v))) (iR ((List.range w'.length).map fun k=>cw w' k)))=decide (cT v∈(List.range w'.length).map fun k=>cw w' k) from wL _ _]
   refine q _ H3 (s0.trans s3) fun c=>?_
   have e:=key (cT v) (sv.cT hy) (of_decide_eq_true c)
   rw[kQ hy sw (sv.cT hy),By hy sv sw,kQ hy sv sw]at e
   exact e
theorem zT:bA P w K mg base e_ 11 Jr JW ["_law_box_here","_law_yard_here","_law_one","_law_other_here"] (qI K):=by
 have cF:=ku (P:=P) (w:=w) (base:=base) T
 have eh:=kx (P:=P) (w:=w) (base:=base) T
 have lR:=Ih (P:=P) (w:=w) (base:=base) T
 have lF:=wY (P:=P) (w:=w) (base:=base) T
 have CC:=zS (P:=P) (w:=w) (base:=base) T
 have sO:=uT (P:=P) (w:=w) (base:=base) T
 refine T.MR.fn.ok d_ (fun vs H Q E h=>wK h) (fun cB A outer s H vs Q E hr h=>?_)
 refine ⟨_,(ae (Ab (i:=4) (j:=5) rfl d_.nd rfl rfl (by decide) rfl rfl (aa (ak aT ai (aj cF (hr.mono (by decide)) rfl T.i3.mg T.i3.fn.kp T.i3.bd .nil aB (aa (pv 0) (aa (ak bV ai (aA aF rfl T.z_len T4 (aa (pv 2) ab))) ab)))) (aa (ak aT ai (aj cF (hr.mono (by decide)) rfl T.i3.mg T.i3.fn.kp T.i3.bd .nil aB (aa (pv 0) (aa (ak bV ai (aA aF rfl T.z_len T4 (aa (pv 3) ab))) ab)))) ab)) rfl)
   (ae (Ab (i:=6) (j:=7) rfl d_.nd rfl rfl (by decide) rfl rfl (aa (aj eh (hr.mono (by decide)) rfl T.C7.mg T.C7.fn.kp T.C7.bd .nil aB (aa (pv 0) (aa (pv 2) (aa (pv 4) ab)))) (aa (aj eh (hr.mono (by decide)) rfl T.C7.mg T.C7.fn.kp T.C7.bd .nil aB (aa (pv 0) (aa (pv 3) (aa (pv 5) ab)))) ab)) rfl)
   (ae (b5 (PW.pt (E1 (aL q_ (aj lR (hr.mono (by decide)) rfl T.mr.mg T.mr.fn.kp T.mr.bd .nil aB (aa (pv 1) (aa (pv 6) ab))) (ak cA (ak aT (ak b_ (ak b_ (pv 4) (pv 4)) (aj lR (hr.mono (by decide)) rfl T.mr.mg T.mr.fn.kp T.mr.bd .nil aB (aa (pv 1) (aa (pv 2) ab)))) (pv 4)) ai) (aO _)) (z9 (aL q_ (aj lR (hr.mono (by decide)) rfl T.mr.mg T.mr.fn.kp T.mr.bd .nil aB (aa (pv 1) (aa (pv 7) ab))) (ak cA (ak aT (ak b_ (ak b_ (pv 5) (pv 5)) (aj lR (hr.mono (by decide)) rfl T.mr.mg T.mr.fn.kp T.mr.bd .nil aB (aa (pv 1) (aa (pv 3) ab)))) (pv 5)) ai) (aO _))))) (ah (aG sY)) bB)
   (ae (ao (i:=8) d_.nd rfl (Or.inl rfl) (ak b_ (ak b_ (pv 4) (pv 5)) (aj lF (hr.mono (by decide)) rfl T.C6.mg T.C6.fn.kp T.C6.bd .nil aB (aa (pv 1) (aa (pv 2) (aa (pv 3) ab))))))
   (gD (b5 (g9 (aj CC (hr.mono (by decide)) rfl T.MQ.mg T.MQ.fn.kp T.MQ.bd .nil aB (aa (pv 2) (aa (pv 3) ab)))) (ah (ao (i:=8) d_.nd rfl (Or.inl rfl) (ak b_ (ak b_ (ak b_ ai (pv 4)) (pv 5)) (aj lR (hr.mono (by decide)) rfl T.mr.mg T.mr.fn.kp T.mr.bd .nil aB (aa (pv 1) (aa (pv 2) ab)))))) bB)
   (ae (b5 (aL q_ (aj lF (hr.mono (by decide)) rfl T.C6.mg T.C6.fn.kp T.C6.bd .nil aB (aa (pv 1) (aa (pv 6) (aa (pv 7) ab)))) (pv 8) (aO _)) (ah (aG sY)) bB)
   (ae (ao (i:=9) d_.nd rfl (Or.inl rfl) (ak aT ai (aj cF (hr.mono (by decide)) rfl T.i3.mg T.i3.fn.kp T.i3.bd .nil aB (aa (pv 0) (aa (ak bV ai (aA aF rfl T.z_len T4 (aa (pv 2) ab))) ab)))))
   (ae (ao (i:=10) d_.nd rfl (Or.inl rfl) (aj eh (hr.mono (by decide)) rfl T.C7.mg T.C7.fn.kp T.C7.bd .nil aB (aa (pv 0) (aa (pv 2) (aa (pv 9) ab)))))
   (ae (b5 (aL q_ (aj lF (hr.mono (by decide)) rfl T.C6.mg T.C6.fn.kp T.C6.bd .nil aB (aa (pv 1) (aa (pv 6) (aa (pv 10) ab)))) (ak b_ (ak b_ (ak b_ ai (pv 4)) (pv 9)) (aj lR (hr.mono (by decide)) rfl T.mr.mg T.mr.fn.kp T.mr.bd .nil aB (aa (pv 1) (aa (pv 2) ab)))) (aO _)) (ah (aG sY)) bB)
   (ah (aG (fI nA (aj sO (hr.mono (by decide)) rfl T.HU.mg T.HU.fn.kp T.HU.bd .nil aB (aa (pv 1) (aa (cQ (aa (pv 6) (aa (pv 7) ab))) ab))) (ak aT (ak aT (pv 8) (aj lR (hr.mono (by decide)) rfl T.mr.mg T.mr.fn.kp T.mr.bd .nil aB (aa (pv 1) (aa (pv 6) ab)))) (aj lR (hr.mono (by decide)) rfl T.mr.mg T.mr.fn.kp T.mr.bd .nil aB (aa (pv 1) (aa (pv 7) ab)))) (aO _))))))))))))),?_⟩
 obtain ⟨b,y,w',v,rfl,hb,hy,hz,sw,Td,kw,sv,Te,kv,q⟩:=h
 have hs:(100000:Nat)<sizeLine:=by decide
 have pw:=IC.mpr sw.ne
 have pv:=IC.mpr sv.ne
 have dv: ∀n:Nat,(12:Int) / (n:Int)=((12 / n:Nat):Int):=fun n=>(VQ 12 n).symm
 have d1: ∀{n:Nat},0<n->n<=4->1<=12 / n/\12 / n<=12:=fun {n} h1 h2=>⟨Nat.div_pos (by omega) h1,Wt _ _⟩
 have d2: ∀{n p:Nat},0<n->p<=12 / n->p*n<=12:=fun {n p} h1 h2=>(Nat.le_div_iff_mul_le h1).mp h2
 have cm: ∀{i:Int} (j:Int),0<=i->i<=100000->Ad i j:=fun _ h1 h2=> .inl ⟨by omega,by omega⟩
 have dw:=d1 pw Td
 have dz:=d1 pv Te
 refine ⟨_,rfl,_,rfl,w',rfl,by omega,_,_,rfl,rfl,⟨by omega,by omega⟩,b,_,rfl,hb,by rw[dv];omega,by rw[dv];omega,fun p0 H1 QF y_ s1=>?_⟩
 refine ⟨_,_,rfl,rfl,_,rfl,_,rfl,v,rfl,by omega,_,_,rfl,rfl,⟨by omega,by omega⟩,b,_,rfl,y_,by rw[dv];omega,by rw[dv];omega,fun r0 H2 QG mI s2=>?_⟩
 refine ⟨_,_,rfl,rfl,_,_,rfl,?_⟩
 rw[dv]at QF QG
 obtain ⟨p,ep⟩: ∃p:Nat,1+(p0:Int)=p:=⟨1+p0,by omega⟩
 obtain ⟨r,er⟩: ∃r:Nat,1+(r0:Int)=r:=⟨1+r0,by omega⟩
 show Dd _ _ _ [some (.ref b),some (.str (S y)),some (.str (S w')),some (.str (S v)),some (.int (1+(p0:Int))),some (.int (1+(r0:Int))),none,none,none,none,none] H2
 rw[ep,er]
 have p1:0<p:=by omega
 have r1:0<r:=by omega
 have p2:=d2 (p:=p) pw (by omega)
 have r2:=d2 (p:=r) pv (by omega)
 have p3:p<=12:=by omega
 have r3:r<=12:=by omega
 clear ep er QF QG
 have u7:=s1.trans s2
 refine ⟨_,rfl,_,rfl,_,rfl,b,y,w',p,rfl,mI,hy,sw,p1,p2,fun u H3 ru u9 s3=>?_⟩
 refine ⟨_,rfl,_,rfl,_,rfl,b,y,v,r,rfl,u9,hy,sv,r1,r2,fun t H4 rt CA s4=>?_⟩
 refine ⟨_,_,rfl,?_⟩
 have ul:u.length<=12:=by rw[ru.len];exact p2
 have tl:t.length<=12:=by rw[rt.len];exact r2
 have L7:=u7.trans (s3.trans s4)
 clear s1 s2 s3 s4 u7 hb y_ mI u9
 show Dd _ _ _ [some (.ref b),some (.str (S y)),some (.str (S w')),some (.str (S v)),some (.int p),some (.int r),some (.str (S u)),some (.str (S t)),none,none,none] H4
 refine ⟨_,rfl,_,rfl,y,u,rfl,hy,hz,ru.sw,ul,fun n1 H5 s5 e1=>?_⟩
 have pp:((p:Int)*p)=((p*p:Nat):Int):=(Vr p p).symm
 have rr:((r:Int)*r)=((r*r:Nat):Int):=(Vr r r).symm
 have tp:((2:Int)*p)=((2*p:Nat):Int):=(Vr 2 p).symm
 have Um:((2:Int)*p*r)=((2*p*r:Nat):Int):=by rw[Vr, <-tp]
 have Tf:2*p*r<=24*12:=WB (by omega) r3
 have pr:((p:Int)*r)=((p*r:Nat):Int):=(Vr p r).symm
 have Uo:p*p<=12*12:=WB p3 p3
 have Up:r*r<=12*12:=WB r3 r3
 have Uq:p*r<=12*12:=WB p3 r3
 refine ⟨_,rfl,_,rfl,_,_,rfl,rfl,cm _ (by omega) (by omega),_,rfl,_,rfl,y,w',rfl,hy,hz,sw,by omega,fun m1 H6 s6 f1=>?_⟩
 refine ⟨_,_,rfl,rfl,cm _ (by omega) (by omega),_,rfl,_,_,rfl,rfl,_,_,rfl,rfl,_,_,rfl,rfl,_,rfl,zh ?_ ?_⟩
 ·rw[decide_eq_true (ru.own hy sw kw e1 f1)];rfl
 refine ⟨_,rfl,_,rfl,y,t,rfl,hy,hz,rt.sw,tl,fun n2 H7 s7 e2=>?_⟩
 refine ⟨_,rfl,_,rfl,_,_,rfl,rfl,cm _ (by omega) (by omega),_,rfl,_,rfl,y,v,rfl,hy,hz,sv,by omega,fun m2 H8 s8 f2=>?_⟩
 refine ⟨_,_,rfl,rfl,cm _ (by omega) (by omega),_,rfl,_,_,rfl,rfl,_,_,rfl,rfl,_,_,rfl,rfl,_,rfl,zh ?_ ?_⟩
 ·rw[decide_eq_true (rt.own hy sv kv e2 f2)];rfl
 have O2:=s5.trans (s6.trans (s7.trans s8))
 have Tg:=CA.same O2
 have Th:=L7.after O2
 clear s5 s6 s7 s8 O2 CA L7
 have ew:2*(m1:Int)=SS y w' w':=by unfold mq at f1;omega
 have two:SS y u t=p*(r*SS y w' v):=ru.two hy sw sv rt
 have Ma: ∀(a c m:Int),2*a*c*m=a*(c*(2*m)):=fun a c m=>by
  rw[Xt 2 a,Xg,Xg,Xs 2 c m]
 refine ⟨_,rfl,_,rfl,_,_,rfl,rfl,cm _ (by omega) (by omega),_,rfl,_,rfl,_,rfl,y,w',v,rfl,hy,hz,sw,by omega,sv,by omega,fun H9 s9=>?_⟩
 refine ⟨_,_,rfl,rfl,cm _ (by omega) (by omega),?_⟩
 show Lq _ _ _ [some (.ref b),some (.str (S y)),some (.str (S w')),some (.str (S v)),some (.int p),some (.int r),some (.str (S u)),some (.str (S t)),some (.int (p*r*SS y w' v)),none,none] H9
 have Ti:=Tg.same s9
 have Tj:=Th.after s9
 refine ⟨fun σ H'=>σ=[some (.ref b),some (.str (S y)),some (.str (S w')),some (.str (S v)),some (.int p),some (.int r),some (.str (S u)),some (.str (S t)),some (.int (SS y u t)),none,none]/\ay H9 H',?_,?_⟩
 ·refine ⟨_,rfl,_,rfl,y,w',v,rfl,hy,sw,sv,by omega,by omega,fun c Tn Mb hc=>?_⟩
  refine ⟨_,rfl,bY (fun c1=>?_) (fun c1=>?_)⟩
  ·refine ⟨_,rfl,_,_,rfl,rfl,cm _ (by omega) (by omega),_,rfl,_,_,rfl,rfl,cm _ (by omega) (by omega),_,rfl,_,rfl,y,w',rfl,hy,hz,sw,by omega,fun m3 To M6 f3=>?_⟩
   refine ⟨_,_,rfl,rfl,cm _ (by omega) (by omega),?_,Mb.trans M6⟩
   have e3:m3=m1:=by omega
   subst e3
   rw[two,hc c1, <-ew, <-Ma]
   rfl
  ·refine ⟨?_,Mb⟩
   rw[two, <-Xg]
 rintro σ Tn ⟨rfl,Mb⟩
 have O3:=Ti.same Mb
 have O4:=Tj.after Mb
 refine ⟨_,rfl,_,rfl,_,rfl,y,u,t,rfl,hy,hz,ru.sw,ul,rt.sw,tl,fun To M6=>?_⟩
 refine ⟨_,rfl,_,_,rfl,rfl,_,rfl,zh (by rw[decide_eq_true rfl];rfl) ?_⟩
 have O5:=O3.same M6
 refine ⟨_,rfl,_,rfl,w',rfl,by omega,_,_,rfl,rfl,⟨by omega,by omega⟩,b,_,rfl,O5,by rw[dv];omega,by rw[dv];omega,fun x0 Tp Ow O6 Tq=>?_⟩
 refine ⟨_,_,rfl,rfl,?_⟩
 rw[dv]at Ow
 obtain ⟨x,ex⟩: ∃x:Nat,1+(x0:Int)=x:=⟨1+x0,by omega⟩
 show Dd _ _ _ [some (.ref b),some (.str (S y)),some (.str (S w')),some (.str (S v)),some (.int p),some (.int r),some (.str (S u)),some (.str (S t)),some (.int (SS y u t)),some (.int (1+(x0:Int))),none] Tp
 rw[ex]
 have x1:0<x:=by omega
 have x2:=d2 (p:=x) pw (by omega)
 have x3:x<=12:=by omega
 refine ⟨_,rfl,_,rfl,_,rfl,b,y,w',x,rfl,O6,hy,sw,x1,x2,fun z Ur rz O7 Tr=>?_⟩
 have zl:z.length<=12:=by rw[rz.len];exact x2
 have O8:=(O4.after M6).trans (Tq.trans Tr)
 refine ⟨_,rfl,_,rfl,_,rfl,y,u,z,rfl,hy,hz,ru.sw,ul,rz.sw,zl,fun Us Ts=>?_⟩
 have px:((2:Int)*p)=((2*p:Nat):Int):=(Vr 2 p).symm
 have Ut:((2:Int)*p*x)=((2*p*x:Nat):Int):=by rw[Vr, <-px]
 have Uu:2*p*x<=24*12:=WB (by omega) x3
 refine ⟨_,rfl,_,_,rfl,rfl,cm _ (by omega) (by omega),_,rfl,_,_,rfl,rfl,cm _ (by omega) (by omega),_,rfl,_,rfl,y,w',rfl,hy,hz,sw,by omega,fun m4 Uv Tt f4=>?_⟩
 have e4:m4=m1:=by omega
 subst e4
 refine ⟨_,_,rfl,rfl,cm _ (by omega) (by omega),_,_,rfl,rfl,_,rfl,zh ?_ ?_⟩
 ·rw[decide_eq_true (by rw[ru.two hy sw sw rz, <-ew, <-Ma])];rfl
 refine ⟨_,rfl,_,rfl,_,rfl,by show 2<=sizeLine;decide,fun g ng=>?_⟩
 have Tu:=ay.upd (o:= .tup [.str (S u), .str (S t)]) ng
 refine ⟨y,g,[u,t],rfl,hy,hz,xG ru.sw rt.sw ul tl,ag,fun n Uw Tv e=>?_⟩
 refine ⟨_,rfl,_,rfl,_,rfl,y,u,rfl,hy,hz,ru.sw,ul,fun n3 Ux Tw g3=>?_⟩
 refine ⟨_,_,rfl,rfl,_,rfl,_,rfl,y,t,rfl,hy,hz,rt.sw,tl,fun n4 QH Tx g4=>?_⟩
 refine ⟨_,_,rfl,rfl,_,_,rfl,rfl,?_⟩
 rw[Cj]at e
 have FO:=Ts.trans (Tt.trans (Tu.trans (Tv.trans (Tw.trans Tx))))
 show Q (.bl (decide ((n:Int)=SS y u t+n3+n4))) QH
 rw[decide_eq_true (by omega)]
 exact q QH (O7.same FO) (O8.after FO)
theorem EK:bA P w K mg base e_ 1 Ji JN ["_law_script","_law_k"] (xr K):=by
 refine T.MM.fn.ok ko (fun vs H Q E h=>AX h) (fun cB A outer s H vs Q E hr h=>?_)
 refine ⟨_,(ae (ao (i:=2) ko.nd rfl (Or.inl rfl) (ak aT (ak b_ ai (pv 1)) ai))
   (ae (b5 (aL mY (pv 1) (aA (bj K rfl) rfl T.z_len T4 (aa (pv 0) ab)) (aO _)) (ah (ao (i:=2) ko.nd rfl (Or.inl rfl) (aQ (bK K rfl) (pv 0) (pv 1) (fun _ _=>rfl)))) (ah (b5 (aL pJ (aA (bj K rfl) rfl T.z_len T4 (aa (pv 0) ab)) ai (aO _)) (ah (ao (i:=2) ko.nd rfl (Or.inl rfl) (ak aT (pv 2) (ak b_ (ak dM (aQ (bK K rfl) (pv 0) (ak dM (pv 1) (aA (bj K rfl) rfl T.z_len T4 (aa (pv 0) ab))) (fun _ _=>rfl)) ai) ai)))) bB)))
   (ae (ao (i:=3) ko.nd rfl (Or.inl rfl) (ak dM (ak Ae (ak aT (ak aT (ak dM (pv 2) ai) (ak b_ ai (pv 1))) ai) ai) ai))
   (ah (aG (eS (aa (aQ (bK K rfl) (eS (aa ai (aa (pv 2) ab))) (dN yG rfl T.z_int boot_int (aa (fI Ag (pv 2) (ak Ae ai ai) (aO _)) ab)) (fun _ _=>rfl)) (aa (ak aT (ak dM (pv 3) ai) ai) ab)))))))),?_⟩
 obtain ⟨a,ns,k,rfl,hS,hk,q⟩:=h
 have hp:(0:Int)<2147483629:=by decide
 walk_at "rd"
 refine ⟨a,_,rfl, .inl hS,?_⟩
 walk_at "rd"
 refine bY (fun e=>?_) (fun e=>?_)
 ·have e':(k:Int)<((ns.map V.int).length:Nat):=of_decide_eq_true e
  rw[Py]at e'
  obtain ⟨z,hz⟩:=xv (ns:=ns) (i:=k) (by omega)
  walk_at "rd"
  refine ⟨a,_,k,_,rfl,rfl,hS,cL hz,?_⟩
  walk_at "rd"
  refine fun p1 n1=>?_
  walk_at "rd"
  refine .inr ⟨_,rfl,?_⟩
  obtain ⟨y,hy⟩:=vT _ z
  refine ⟨p1,_,_,_,rfl,rfl,bJ.of ag,hy,?_⟩
  walk_at "rd"
  exact fun p2 n2=>q p2 _ (ay.free (ay.upd n1) n2) ⟨_,_,ag⟩ ((ay.upd n1).trans (ay.upd n2))
 ·walk_at "rd"
  refine ⟨a,_,rfl, .inl hS,?_⟩
  walk_at "rd"
  refine bY (fun e2=>?_) (fun e2=>?_)
  ·have e':(0:Int)<((ns.map V.int).length:Nat):=of_decide_eq_true e2
   have hl:(0:Int)<(ns.length:Int):=by rw[Py]at e';exact e'
   have m1:0<=(k:Int)%(ns.length:Int):=Vs _ (by omega)
   have m2:(k:Int)%(ns.length:Int)<(ns.length:Int):=Vm _ hl
   obtain ⟨z,hz⟩:=xv (ns:=ns) (i:=((k:Int)%(ns.length:Int)).toNat) (by omega)
   have IM:pR (ns.map V.int) ((k:Int)%((ns.map V.int).length:Nat))=some (V.int z):=by
    have:=cL hz
    rw[Int.toNat_of_nonneg m1]at this
    rw[Py]
    exact this
   walk_at "rd"
   refine ⟨a,_,rfl, .inl hS,?_⟩
   walk_at "rd"
   refine ⟨a,_,_,_,rfl,rfl,hS,IM,?_⟩
   walk_at "rd"
   refine fun p1 n1=>?_
   walk_at "rd"
   refine .inr ⟨_,rfl,?_⟩
   obtain ⟨y,hy⟩:=vT _ _
   refine ⟨p1,_,_,_,rfl,rfl,bJ.of ag,hy,?_⟩
   walk_at "rd"
   exact fun p2 n2=>q p2 _ (ay.free (ay.upd n1) n2) ⟨_,_,ag⟩ ((ay.upd n1).trans (ay.upd n2))
  ·walk_at "rd"
   refine fun p1 n1=>?_
   walk_at "rd"
   refine .inr ⟨_,rfl,?_⟩
   obtain ⟨y,hy⟩:=vT _ _
   refine ⟨p1,_,_,_,rfl,rfl,bJ.of ag,hy,?_⟩
   walk_at "rd"
   exact fun p2 n2=>q p2 _ (ay.free (ay.upd n1) n2) ⟨_,_,ag⟩ ((ay.upd n1).trans (ay.upd n2))
theorem CD:bA P w K mg base e_ 2 Jl JQ ["_law_box_here","_law_few","_law_top"] (t6 K):=by
 have cF:=ku (P:=P) (w:=w) (base:=base) T
 have gv:=lB (P:=P) (w:=w) (base:=base) T
 refine T.MN.fn.ok eQ (fun vs H Q E h=>zd h) (fun cB A outer s H vs Q E hr h=>?_)
 refine ⟨_,(ae (ao (i:=3) eQ.nd rfl (Or.inl rfl) (dN (vF rfl) rfl T.z_list boot_list (aa (lW [97,98,99,100,101,102,103,104,105,106,107,108,109,110,111,112,113,114,115,116,117,118,119,120,121,122] (by decide+kernel)) ab)))
   (ae (ao (i:=4) eQ.nd rfl (Or.inl rfl) (eS ab))
   (ae (cG PassesOwn.never rfl (fj rfl T.z_range (aa (ak aT (pv 1) (aj cF (hr.mono (by decide)) rfl T.i3.mg T.i3.fn.kp T.i3.bd .nil aB (aa (pv 0) (aa (ak aT (ak cA (pv 2) (pv 1)) ai) ab)))) ab)) (aU (i:=5) eQ.nd rfl (Or.inl rfl)) (ae (ao (i:=6) eQ.nd rfl (Or.inl rfl) (b6 K rfl UZ Wl Wj m9 (pv 3) (aa (aj cF (hr.mono (by decide)) rfl T.i3.mg T.i3.fn.kp T.i3.bd .nil aB (aa (pv 0) (aa (aA (bj K rfl) rfl T.z_len T4 (aa (pv 3) ab)) ab))) ab)))
   (ah (ao (i:=4) eQ.nd rfl (Or.inl rfl) (ak GG (pv 4) (eS (aa (pv 6) (aa (aj gv (hr.mono (by decide)) rfl T.zL.mg T.zL.fn.kp T.zL.bd .nil aB (aa (pv 6) ab)) ab))))))))
   (ae (ao (i:=7) eQ.nd rfl (Or.inl rfl) (lW [] (by decide+kernel)))
   (ae (dc PassesOwn.never (aL pJ (aA (bj K rfl) rfl T.z_len T4 (aa (pv 4) ab)) ai (aO _)) (ah (ao (i:=7) eQ.nd rfl (Or.inl rfl) (ak gB (pv 7) (b6 K rfl UZ Wl Wj m9 (pv 4) (aa (aj cF (hr.mono (by decide)) rfl T.i3.mg T.i3.fn.kp T.i3.bd .nil aB (aa (pv 0) (aa (aA (bj K rfl) rfl T.z_len T4 (aa (pv 4) ab)) ab))) ab))))))
   (ah (aG (pv 7)))))))),?_⟩
 obtain ⟨b,xt,top,rfl,hb,h1,h2,h3,q⟩:=h
 have hs:(100000:Nat)<sizeLine:=by decide
 walk_at "rd"
 intro p1 n1
 walk_at "rd"
 intro p2 n2
 have s1:ay H (upd (upd H p1 (.lst (dj aX))) p2 (.lst [])):=(ay.upd n1).trans (ay.upd n2)
 have M7:p1≠b:=hb.ne n1
 have OH:H p2=none:=ay.free (ay.upd n1) n2
 have Tz:p2≠b:=hb.ne OH
 have QI:p1≠p2:=fun z=>by rw[<-z,ag]at n2;cases n2
 walk_at "rd"
 refine ⟨b,_,rfl,hb.same s1,by omega,by omega,fun n H1 hn y_ s2=>?_⟩
 walk_at "rd"
 refine dJ (fun i σ H'=> ∃(pe:Addr) (L E:List Nat) (kv lv:Option V),σ=[some (.ref b),some (.int xt),some (.int top),some (.ref p1),some (.ref pe),kv,lv,none]/\G9 i L E/\H' p1=some (.lst (dj L))/\H' pe=some (.lst (dj E))/\p1≠pe/\H pe=none/\cE H' b/\aR b H H')
  ⟨p2,aX,[],none,none,rfl,G9.start,s2 _ _ (by rw[au QI,ag];rfl) M7,s2 _ _ ag Tz,QI,OH,y_,(aR.of s1).trans s2⟩ ?_ ?_
 ·rintro i σ H2 hi ⟨pe,L,E,kv,lv,rfl,yw,wu,oR,QJ,M8,mI,s3⟩
  have LL:i<26:=by simp at hi;omega
  have OC:=yw.ll
  have M9:=yw.el
  refine ⟨_,rfl, .inl ⟨rfl,_,bJ.of wu⟩,?_⟩
  walk_at "rd"
  refine ⟨p1,_,rfl, .inl (bJ.of wu),b,_,rfl,mI,by rw[aW];omega,by rw[aW];omega,fun r H3 TB u9 s4=>?_⟩
  rw[aW]at TB
  have J1:r<L.length:=by omega
  have O9:=s4 _ _ wu M7
  have O_:=s4 _ _ oR (hb.ne M8)
  refine ⟨p1,_,_,r,_,rfl,rfl,O9,by omega,by omega,by rw[aW,seqIndex_of (by omega) (by omega),PB],AY J1,?_⟩
  rw[qd]
  have dk:Lt L[r]:= .inl (yw.sm _ (Vb J1))
  have Mc:(upd H3 p1 (.lst (dj (L.eraseIdx r)))) pe=some (.lst (dj E)):=by rw[au (Ne.symm QJ)];exact O_
  walk_at "rd"
  intro p3 n3
  have e3:pe≠p3:=aq Mc n3
  refine ⟨pe,p3,_,_,rfl,rfl,by rw[au e3];exact Mc,ag,by rw[aW];show E.length+2<=_;omega,fun p4 n4=>?_⟩
  have QK:H p3=none:=((s3.trans s4).js n1).none n3 (u9.js M7 |>.ne n3)
  have QL:=(u9.js (o:= .lst (dj (L.eraseIdx r))) M7).js (o:= .lst [V.str (S [L[r]]),V.str (S [aD L[r]])]) (hb.ne QK)
  have QM:=((s3.trans s4).js (o:= .lst (dj (L.eraseIdx r))) n1).js (o:= .lst [V.str (S [L[r]]),V.str (S [aD L[r]])]) QK
  have Pa:H p4=none:=QM.none n4 (QL.ne n4)
  have QN:p1≠p4:=fun z=>by rw[<-z]at n4;by_cases z3:p1=p3<;>simp[upd,z3]at n4
  have TC:p1≠p3:=fun z=>by rw[<-z,ag]at n3;cases n3
  refine ⟨p4,L.eraseIdx r,E++[L[r],aD L[r]],_,_,rfl,yw.turn LL J1,by rw[au QN,au TC,ag],?_,QN,Pa,QL.js (hb.ne Pa),QM.js Pa⟩
  rw[ag, <-DU]
  rfl
 ·rintro σ H2 ⟨pe,L,E,kv,lv,rfl,yw,wu,oR,QJ,M8,mI,s3⟩
  have M9:=yw.el
  have CL:=hb.ne M8
  walk_at "rd"
  refine ⟨fun m σ H'=> ∃F E':List Nat,σ=[some (.ref b),some (.int xt),some (.int top),some (.ref p1),some (.ref pe),kv,lv,some (.str (S F))]/\m=E'.length/\(F++E').Perm E/\H' pe=some (.lst (dj E'))/\cE H' b/\aR b H H',⟨_,[],E,rfl,rfl,List.Perm.refl _,oR,mI,s3⟩,?_⟩
  rintro m σ H3 ⟨F,E',rfl,rfl,sF,EL,u9,s4⟩
  have hlen:=sF.length_eq
  rw[Rk]at hlen
  have ve:(xt:Int)+n<=9:=by omega
  have TF:E.length<=100:=by rw[M9];omega
  walk_at "rd"
  refine ⟨pe,_,rfl, .inl (bJ.of EL),_,_,rfl,rfl,_,rfl,bY (fun e=>?_) (fun e=>?_)⟩
  ·have e':(0:Int)<((dj E').length:Nat):=of_decide_eq_true e
   rw[aW]at e'
   refine ⟨_,rfl,_,rfl, .inl ⟨rfl,_,bJ.of EL⟩,?_⟩
   walk_at "rd"
   refine ⟨pe,_,rfl, .inl (bJ.of EL),b,_,rfl,u9,by rw[aW];omega,by rw[aW];omega,fun r H4 J1 CA s5=>?_⟩
   rw[aW]at J1
   have QO:r<E'.length:=by omega
   refine ⟨pe,_,_,r,_,rfl,rfl,s5 _ _ EL CL,by omega,by omega,by rw[aW,seqIndex_of (by omega) (by omega),PB],AY QO,?_⟩
   rw[qd]
   have hp:=jr (GJ QO)
   have iP:=hp.length_eq
   rw[U1]at iP
   refine ⟨F,_,rfl,rfl,by show F.length+1<=_;omega,(E'.eraseIdx r).length,by omega,F++[E'[r]],E'.eraseIdx r,rfl,rfl,?_,ag,CA.js CL,(s4.trans s5).js M8⟩
   rw[VO]
   exact (List.Perm.append_left F hp).trans sF
  ·have e':E'=[]:=by
    cases E' with
    | nil=>rfl
    | cons c r=>exact absurd (decide_eq_true (by rw[aW];show (0:Int)<((r.length+1:Nat):Int);omega)) e
   subst e'
   rw[Vh]at sF
   have Fb:=sF.length_eq
   refine ⟨_,rfl,q F H3 (yw.yd.perm sF.symm) ?_ ?_ u9 s4⟩
   ·rw[Fb,M9];omega
   ·rw[Fb,M9];omega
theorem zU:bA P w K mg base e_ 2 Jm JR ["_law_box_here","_law_yard_here","_law_top"] (ql K):=by
 have cF:=ku (P:=P) (w:=w) (base:=base) T
 have gv:=lB (P:=P) (w:=w) (base:=base) T
 refine T.MO.fn.ok cy (fun vs H Q E h=>vX h) (fun cB A outer s H vs Q E hr h=>?_)
 refine ⟨_,(ae (ao (i:=3) cy.nd rfl (Or.inl rfl) (ak aT ai (aj cF (hr.mono (by decide)) rfl T.i3.mg T.i3.fn.kp T.i3.bd .nil aB (aa (pv 0) (aa (pv 2) ab)))))
   (ae (ao (i:=4) cy.nd rfl (Or.inl rfl) (aj cF (hr.mono (by decide)) rfl T.i3.mg T.i3.fn.kp T.i3.bd .nil aB (aa (pv 0) (aa ai ab))))
   (ae (ao (i:=5) cy.nd rfl (Or.inl rfl) (lW [] (by decide+kernel)))
   (gD (dc PassesOwn.never (aL mY (aA aF rfl T.z_len T4 (aa (pv 5) ab)) (pv 3) (aO _)) (ae (ao (i:=6) cy.nd rfl (Or.inl rfl) (aQ jn (pv 1) (aj cF (hr.mono (by decide)) rfl T.i3.mg T.i3.fn.kp T.i3.bd .nil aB (aa (pv 0) (aa (aA aF rfl T.z_len T4 (aa (pv 1) ab)) ab))) (fun _ _=>rfl)))
   (gD (b5 (PW.pt (g_ (aL nA (pv 4) ai (aO _)) (g_ (aL pJ (aA aF rfl T.z_len T4 (aa (pv 5) ab)) ai (aO _)) (gz (aL mY (aA aF rfl T.z_len T4 (aa (pv 5) ab)) ai (aO _)))))) (ah (ao (i:=6) cy.nd rfl (Or.inl rfl) (aQ jn (pv 5) (ak dM (aA aF rfl T.z_len T4 (aa (pv 5) ab)) ai) (fun _ _=>rfl)))) bB)
   (ah (b5 (PW.pt (E1 (aL gC (pv 5) (lW [] (by decide+kernel)) (aO _)) (z9 (aL GW (pv 6) (aj gv (hr.mono (by decide)) rfl T.zL.mg T.zL.fn.kp T.zL.bd .nil aB (aa (aQ jn (pv 5) (lH hV ai) (fun _ _=>rfl)) ab)) (aO _))))) (ah (ao (i:=5) cy.nd rfl (Or.inl rfl) (ak gB (pv 5) (pv 6)))) (ah (ao (i:=5) cy.nd rfl (Or.inl rfl) (ak gB (pv 5) (aQ jn (pv 5) (lH hV ai) (fun _ _=>rfl))))))))))
   (gD (dc PassesOwn.never (PW.pt (g_ (aL pJ (aA aF rfl T.z_len T4 (aa (pv 5) ab)) ai (aO _)) (gz (aL gC (aQ jn (pv 5) ai (fun _ _=>rfl)) (aj gv (hr.mono (by decide)) rfl T.zL.mg T.zL.fn.kp T.zL.bd .nil aB (aa (aQ jn (pv 5) (lH hV ai) (fun _ _=>rfl)) ab)) (aO _))))) (ah (ao (i:=5) cy.nd rfl (Or.inl rfl) (bD jN (pv 5) cK (bu (lH hV ai))))))
   (gD (b5 (PW.pt (g_ (aL nA (pv 4) ai (aO _)) (gz (aL E8 (ak b_ (aA aF rfl T.z_len T4 (aa (pv 5) ab)) ai) (pv 2) (aO _))))) (ah (ao (i:=5) cy.nd rfl (Or.inl rfl) (ak gB (pv 5) (pv 5)))) bB)
   (ah (aG (pv 5))))))))),?_⟩
 obtain ⟨b,y,top,rfl,hb,hy,TH,TJ,L_,QD,q⟩:=h
 have hs:(100000:Nat)<sizeLine:=by decide
 have QP:y.length<=sizeLine:=by omega
 refine ⟨_,rfl,_,rfl,b,_,rfl,hb,by omega,by omega,fun n H1 hn y_ s1=>?_⟩
 refine ⟨_,_,rfl,rfl,_,rfl,b,5,rfl,y_,by decide,by decide,fun fm H2 Uy mI s2=>?_⟩
 have Uz:n+1<=top:=by omega
 have u7:=s1.trans s2
 walk_at "wk"
 refine ⟨fun σ' H'=> ∃(w:List Nat) (lv:Option V),σ'=[some (.ref b),some (.str (S y)),some (.int top),some (.int (1+(n:Int))),some (.int fm),some (.str (S w)),lv]/\Wd y w/\1<=w.length/\w.length<=n+1/\cE H' b/\aR b H H',?_,?_⟩
 ·refine ⟨fun k σ H'=> ∃(w:List Nat) (lv:Option V),σ=[some (.ref b),some (.str (S y)),some (.int top),some (.int (1+(n:Int))),some (.int fm),some (.str (S w)),lv]/\k=n+1 - w.length/\Wd y w/\w.length<=n+1/\cE H' b/\aR b H H',⟨_,[],none,rfl,rfl,⟨zZ.nil,fun _ h=>absurd h UP⟩,T6 _,mI,u7⟩,?_⟩
  rintro k σ H3 ⟨w,lv,rfl,rfl,hw,kA,u9,s3⟩
  have mD:w.length<=sizeLine:=by omega
  refine ⟨_,rfl,w,rfl,mD,_,rfl,_,_,rfl,rfl,_,rfl,bY (fun z=>?_) (fun z=>?_)⟩
  ·have z1:(w.length:Int)<1+(n:Int):=of_decide_eq_true z
   refine ⟨_,rfl,_,rfl,_,rfl,y,rfl,QP,b,_,rfl,u9,by omega,by omega,fun r H4 J1 CA s4=>?_⟩
   have hr:r<y.length:=by omega
   refine ⟨y,_,_,rfl,rfl,QP,cL (GJ hr),?_⟩
   have DL:y[r]∈y:=Vb hr
   generalize y[r]=c at DL ⊢
   refine ⟨fun σ' H'=>H'=H4/\ ∃e,e∈y/\σ'=[some (.ref b),some (.str (S y)),some (.int top),some (.int (1+(n:Int))),some (.int fm),some (.str (S w)),some (.str (S [e]))],?_,?_⟩
   ·refine ⟨_,rfl,_,_,rfl,rfl,_,rfl,bY (fun f1=>?_) (fun f1=>?_)⟩
    ·refine ⟨_,rfl,w,rfl,mD,_,_,rfl,rfl,_,rfl,bY (fun f2=>?_) (fun f2=>?_)⟩
     ·have g2:(1:Int)<w.length:=of_decide_eq_true f2
      have dh:w≠[]:=fun g=>by rw[g]at g2;simp at g2
      refine ⟨_,rfl,w,rfl,mD,_,_,rfl,rfl,_,rfl,bY (fun f3=>?_) (fun f3=>?_)⟩
      ·refine ⟨_,rfl,_,rfl,w,rfl,mD,_,_,rfl,rfl,by show (0:Int)<2;decide,w,_,_,rfl,rfl,mD,nL (by show -(w.length:Int)<=(w.length:Int)%2;omega) (by show (w.length:Int)%2<_;omega),?_⟩
       exact ⟨rfl,_,hw.bL _ (kK dh _),rfl⟩
      ·exact ⟨rfl,c,DL,rfl⟩
     ·refine yR ?_
      exact ⟨rfl,c,DL,rfl⟩
    ·refine yR ?_
     exact ⟨rfl,c,DL,rfl⟩
   rintro σ5 H5 ⟨rfl,e,C1,rfl⟩
   have s5:=s3.trans s4
   refine ⟨_,rfl,w,[],rfl,rfl,_,rfl,bY (fun f=>?_) (fun f=>?_)⟩
   ·have TK:w=[]:=of_decide_eq_true f
    refine KW ?_
    refine ⟨_,rfl,_,rfl,w,[e],rfl,rfl,by show w.length+1<=_;omega,?_⟩
    exact ⟨n+1 - (w++[e]).length,by rw[Rk];show n+1 - (w.length+1)<_;omega,w++[e],_,rfl,rfl,hw.more C1 fun g=>absurd TK g,by rw[Rk];show w.length+1<=_;omega,CA,s5⟩
   ·have dh:w≠[]:=fun g=>f (decide_eq_true g)
    have nG:0<w.length:=IC.mpr dh
    have En:rd w (-1)∈y:=hw.bL _ (kK dh _)
    have M_:pR w (-1)=some (rd w (-1)):=nL (by omega) (by omega)
    refine ⟨_,rfl,_,rfl,_,rfl,w,_,_,rfl,rfl,mD,M_,_,rfl,hy.lt _ En,[e],_,rfl,rfl,_,rfl,bY (fun f2=>?_) (fun f2=>?_)⟩
    ·have Pb:e≠aD (rd w (-1)):=fun g=>by rw[g]at f2;simp at f2
     refine ⟨_,rfl,_,rfl,w,[e],rfl,rfl,by show w.length+1<=_;omega,?_⟩
     exact ⟨n+1 - (w++[e]).length,by rw[Rk];show n+1 - (w.length+1)<_;omega,w++[e],_,rfl,rfl,hw.more C1 fun _=>Pb,by rw[Rk];show w.length+1<=_;omega,CA,s5⟩
    ·refine ⟨_,rfl,_,rfl,_,rfl,w,_,_,rfl,rfl,mD,M_,w,[rd w (-1)],rfl,rfl,by show w.length+1<=_;omega,?_⟩
     exact ⟨n+1 - (w++[rd w (-1)]).length,by rw[Rk];show n+1 - (w.length+1)<_;omega,w++[rd w (-1)],_,rfl,rfl,hw.more En fun _ g=>kI (hy.lt _ En) g.symm,by rw[Rk];show w.length+1<=_;omega,CA,s5⟩
  ·have z1: ¬(w.length:Int)<1+(n:Int):=fun g=>z (decide_eq_true g)
   exact ⟨w,lv,rfl,hw,by omega,kA,u9,s3⟩
 rintro σ6 H3 ⟨w,lv,rfl,hw,Ii,kA,u9,s3⟩
 refine ⟨fun σ' H'=>H'=H3/\ ∃w:List Nat,σ'=[some (.ref b),some (.str (S y)),some (.int top),some (.int (1+(n:Int))),some (.int fm),some (.str (S w)),lv]/\SW y w/\w.length<=n+1,?_,?_⟩
 ·refine ⟨fun k σ H'=>H'=H3/\ ∃w:List Nat,σ=[some (.ref b),some (.str (S y)),some (.int top),some (.int (1+(n:Int))),some (.int fm),some (.str (S w)),lv]/\k=w.length/\Wd y w/\1<=w.length/\w.length<=n+1,⟨_,rfl,w,rfl,rfl,hw,Ii,kA⟩,?_⟩
  clear hw kA Ii w
  rintro k σ H4 ⟨rfl,w,rfl,rfl,hw,Ii,kA⟩
  have mD:w.length<=sizeLine:=by omega
  have dh:w≠[]:=fun g=>by rw[g]at Ii;simp at Ii
  have En: ∀k,rd w k∈y:=fun k=>hw.bL _ (kK dh k)
  refine ⟨_,rfl,w,rfl,mD,_,_,rfl,rfl,_,rfl,bY (fun f=>?_) (fun f=>?_)⟩
  ·have g1:(1:Int)<w.length:=of_decide_eq_true f
   have M_:pR w (-1)=some (rd w (-1)):=nL (by omega) (by omega)
   refine ⟨_,rfl,w,_,_,rfl,rfl,mD,nL (k:=0) (by omega) (by omega),_,rfl,_,rfl,w,_,_,rfl,rfl,mD,M_,_,rfl,hy.lt _ (En _),[rd w 0],_,rfl,rfl,_,rfl,bY (fun f2=>?_) (fun f2=>?_)⟩
   ·refine ⟨_,rfl,_,rfl,_,rfl,w,rfl,mD,?_⟩
    rw[A_]
    exact ⟨(w.take (w.length - 1)).length,by rw[UB];omega,rfl,w.take (w.length - 1),rfl,rfl,⟨hw.Hf.take _,fun c hc=>hw.bL c (V2 hc)⟩,by rw[UB];omega,by rw[UB];omega⟩
   ·have Pb:rd w 0≠aD (rd w (-1)):=fun g=>f2 (by simp[g])
    exact ⟨rfl,w,rfl,hw.sw dh Pb,kA⟩
  ·have g1: ¬(1:Int)<w.length:=fun g=>f (decide_eq_true g)
   refine yR ?_
   exact ⟨rfl,w,rfl,hw.one hy (by omega),kA⟩
 rintro σ7 H7 ⟨rfl,w7,rfl,sw,TL⟩
 clear hw Ii kA w
 refine ⟨fun σ' H'=>H'=H7/\ ∃w:List Nat,σ'=[some (.ref b),some (.str (S y)),some (.int top),some (.int (1+(n:Int))),some (.int fm),some (.str (S w)),lv]/\SW y w/\w.length<=top,?_,?_⟩
 ·refine ⟨_,rfl,_,_,rfl,rfl,_,rfl,bY (fun f=>?_) (fun f=>?_)⟩
  ·refine ⟨_,rfl,w7,rfl,by omega,_,_,rfl,rfl, .inl ⟨by omega,by omega⟩,_,rfl,_,_,rfl,rfl,_,rfl,bY (fun f2=>?_) (fun f2=>?_)⟩
   ·have g2:(w7.length:Int)*2<=top:=of_decide_eq_true f2
    refine ⟨_,rfl,_,rfl,w7,w7,rfl,rfl,by omega,?_⟩
    exact ⟨rfl,_,rfl,sw.twice,by rw[Rk];omega⟩
   ·exact ⟨rfl,_,rfl,sw,by omega⟩
  ·refine yR ?_
   exact ⟨rfl,_,rfl,sw,by omega⟩
 rintro σ8 H8 ⟨rfl,w8,rfl,TM,Pc⟩
 exact ⟨_,rfl,q w8 _ TM Pc u9 s3⟩
theorem zV:bA P w K mg base e_ 1 Jn JS ["_law_word"] (qG K):=by
 refine T.MP.fn.ok qJ (fun vs H Q E h=>wI h) (fun cB A outer s H vs Q E hr h=>?_)
 refine ⟨_,(ae (cG PassesOwn.never rfl (kC rfl T.z_range (aa ai (aa (aA aF rfl T.z_len T4 (aa (pv 0) ab)) ab))) (aU (i:=1) qJ.nd rfl (Or.inl rfl)) (ah (b5 (PW.pt (g_ (aL nA (ak dM (aA aF rfl T.z_len T4 (aa (pv 0) ab)) (pv 1)) ai (aO _)) (gz (aL gC (pv 0) (ak jQ (bD jN (pv 0) cK (bu (pv 1))) (ak bV (aA aF rfl T.z_len T4 (aa (pv 0) ab)) (pv 1))) (aO _))))) (ah (aG (ak bV (aA aF rfl T.z_len T4 (aa (pv 0) ab)) (pv 1)))) bB)))
   (ah (aG ai))),?_⟩
 obtain ⟨w',rfl,hn,hz,q⟩:=h
 have hs:(100000:Nat)<sizeLine:=by decide
 have h1:1<=w'.length:=IC.mpr hn
 have kA:w'.length<=sizeLine:=by omega
 walk_at "wk"
 refine ⟨_,_,rfl,⟨by decide,by decide,by omega,by omega⟩,?_⟩
 refine dJ (fun i σ H'=>H'=H/\(∀j,1<=j->j<=i-> ¬dA w' j)/\ ∃sv,σ=[some (.str (S w')),sv]) ⟨rfl,fun j h1 h2=>by omega,none,rfl⟩ ?_ ?_
 ·rintro i σ H2 hi ⟨rfl,EH,sv,rfl⟩
  have e1:(1:Int)+(i:Int)=((i+1:Nat):Int):=by omega
  rw[e1]
  have e2:(w'.length:Int) / ((i+1:Nat):Int)=((w'.length / (i+1):Nat):Int):=(VQ _ _).symm
  have e3:(w'.length:Int)%((i+1:Nat):Int)=((w'.length%(i+1):Nat):Int):=(Wo _ _).symm
  have hd:=Wt w'.length (i+1)
  have hmul:(w'.take (i+1)).length*(w'.length / (i+1))<=sizeLine:=by
   have h1:(w'.take (i+1)).length<=i+1:=by rw[UB];omega
   have h2:=Nat.mul_div_le w'.length (i+1)
   have h3:=Nat.mul_le_mul_right (w'.length / (i+1)) h1
   omega
  have next: ¬dA w' (i+1)-> ∀j,1<=j->j<=i+1-> ¬dA w' j:=fun z1 j j1 j2=>by
   by_cases y:j=i+1
   ·rw[y];exact z1
   ·exact EH j j1 (by omega)
  have lX:i+1<w'.length:=by omega
  walk_at "wk"
  refine bY (fun zm=>?_) (fun zm=>?_)
  ·walk_at "wk"
   refine ⟨⟨by rw[e2];exact WC _,by rw[e2];exact Int.ofNat_le.mpr (UW hd (by omega:w'.length<=1000000))⟩,by rw[e2,cZ,PB];exact hmul,?_⟩
   walk_at "wk"
   refine bY (fun z=>?_) (fun z=>?_)
   ·have z1:dA w' (i+1):=by
     have:=of_decide_eq_true z
     rw[e2,cZ,PB]at this
     exact this.symm
    walk_at "wk"
    show Q (.int ((w'.length:Int) / ((i+1:Nat):Int))) H2
    rw[e2]
    exact q _ (.inr ⟨by omega,by omega,z1,fun j j1 j2=>EH j j1 (by omega)⟩)
   ·have z1: ¬dA w' (i+1):=fun y=>z (decide_eq_true (by
     rw[e2,cZ,PB]
     exact (show cM _ _=_ from y).symm))
    exact ⟨rfl,next z1,_,rfl⟩
  ·refine ⟨rfl,next fun y=>zm (decide_eq_true ?_),_,rfl⟩
   have hp:=D4 (by omega) y
   have hm:=V_ w'.length (i+1)
   rw[VD]at hm
   rw[e3]
   omega
 ·rintro σ H2 ⟨rfl,EH,sv,rfl⟩
  have k:=q w'.length (.inr ⟨h1,Mq _,qh w' hn,fun j j1 j2=>EH j j1 (by omega)⟩)
  rw[Nat.div_self h1]at k
  exact k
theorem Ij:bA P w K mg base e_ 12 Js JX ["_law_script"] (kE K):=by
 have Ik:=EK (P:=P) (w:=w) (base:=base) T
 have EM:=CD (P:=P) (w:=w) (base:=base) T
 have CF:=zU (P:=P) (w:=w) (base:=base) T
 have CG:=zV (P:=P) (w:=w) (base:=base) T
 have CH:=zT (P:=P) (w:=w) (base:=base) T
 refine T.R9.fn.ok jE (fun vs H Q E h=>DT h) (fun cB A outer s H vs Q E hr h=>?_)
 refine ⟨_,(ae (cG PassesOwn.never rfl (fj rfl T.z_range (aa (ak aT ai (aA (bj K rfl) rfl T.z_len T4 (aa (bD (nB K rfl) (pv 0) (bu ai) (bu ai)) ab))) ab)) (aU (i:=1) jE.nd rfl (Or.inl rfl)) (ae (ao (i:=2) jE.nd rfl (Or.inl rfl) (aj Ik (hr.mono (by decide)) rfl T.MM.mg T.MM.fn.kp T.MM.bd .nil aB (aa (pv 0) (aa (pv 1) ab))))
   (ae (ao (i:=3) jE.nd rfl (Or.inl rfl) (aj EM (hr.mono (by decide)) rfl T.MN.mg T.MN.fn.kp T.MN.bd .nil aB (aa (pv 2) (aa ai (aa ai ab)))))
   (ae (ao (i:=4) jE.nd rfl (Or.inl rfl) (eS ab))
   (ae (cG PassesOwn.never rfl (fj rfl T.z_range (aa ai ab)) (aU (i:=5) jE.nd rfl (Or.inl rfl)) (ae (ao (i:=6) jE.nd rfl (Or.inl rfl) (aj CF (hr.mono (by decide)) rfl T.MO.mg T.MO.fn.kp T.MO.bd .nil aB (aa (pv 2) (aa (pv 3) (aa ai ab)))))
   (ah (eA (b6 K rfl UZ VC VB fk (pv 4) (aa (bD jN (pv 6) cK (bu (ak bV (aA aF rfl T.z_len T4 (aa (pv 6) ab)) (aj CG (hr.mono (by decide)) rfl T.MP.mg T.MP.fn.kp T.MP.bd .nil aB (aa (pv 6) ab))))) ab))))))
   (ah (b5 (Gd (g9 (aj CH (hr.mono (by decide)) rfl T.MR.mg T.MR.fn.kp T.MR.bd .nil aB (aa (pv 2) (aa (pv 3) (aa (aQ (bK K rfl) (pv 4) ai (fun _ _=>rfl)) (aa (aQ (bK K rfl) (pv 4) ai (fun _ _=>rfl)) ab))))))) (ah (aG sY)) bB)))))))
   (ah (aG sY))),?_⟩
 obtain ⟨a,ns,rfl,hS,hl,q⟩:=h
 have hs:(100000:Nat)<sizeLine:=by decide
 refine ⟨_,rfl,_,rfl,_,rfl,a,_,rfl,hS,fun p1 n1=>?_⟩
 have Oz:(m6 (ns.map V.int) (some 2) (some 4)).length<=2:=by unfold m6;rw[UB];exact UW (Nat.min_le_left _ _) (by have e1: ∀n d:Nat,HT.g6 n d (some ((2:Nat):Int))=min 2 n:=fun n d=>HT.fJ _ _ _;have e2: ∀n d:Nat,HT.g6 n d (some ((4:Nat):Int))=min 4 n:=fun n d=>HT.fJ _ _ _;show HT.g6 _ _ (some ((4:Nat):Int)) - HT.g6 _ _ (some ((2:Nat):Int))<=2;rw[e1,e2];omega)
 refine ⟨p1,_,rfl, .inl (bJ.of ag),_,_,rfl,rfl,?_⟩
 have s1:=ay.upd (o:= .lst (m6 (ns.map V.int) (some 2) (some 4))) n1
 generalize (m6 (ns.map V.int) (some 2) (some 4)).length=m at Oz ⊢
 generalize upd H p1 (.lst (m6 (ns.map V.int) (some 2) (some 4)))=H1 at s1 ⊢
 refine ⟨_,rfl,by omega,by omega,?_⟩
 rw[show ((2:Int)+(m:Int)).toNat=2+m by omega]
 refine dJ (fun i σ H'=> ∃v1 v2 v3 v4 v5 v6:Option V,σ=[some (.ref a),v1,v2,v3,v4,v5,v6]/\ay H H') ⟨none,none,none,none,none,none,rfl,s1⟩ ?_ ?_
 ·rintro i σ H2 hi ⟨v1,v2,v3,v4,v5,v6,rfl,s2⟩
  refine ⟨_,rfl,_,rfl,a,ns,i,by rw[Vy];rfl,s2.seq hS,by omega,fun b H3 nb bx s3=>?_⟩
  refine ⟨_,rfl,b,1,4,rfl,bx,by decide,by decide,by decide,fun y H4 hy TH TJ QQ s4=>?_⟩
  have L3:ay H2 H4:=aR.same nb s3 s4
  refine ⟨by show 0<=sizeLine;decide,fun t nt=>?_⟩
  have tb:=QQ.ne nt
  have QR:upd H4 t (.lst []) t=some (.lst (iR [])):=ag
  have QS:=QQ.js (o:= .lst []) tb
  have s5:ay H2 (upd H4 t (.lst [])):=L3.trans (ay.upd nt)
  have TN:H2 t=none:=by
   cases e:H2 t with
   | none=>rfl
   | some o=>rw[L3 _ _ e]at nt;cases nt
  generalize upd H4 t (.lst [])=H5 at QR QS s5 ⊢
  refine ⟨_,rfl,by decide,by decide,?_⟩
  refine dJ (n:=2) (fun j σ H'=> ∃(ws:List (List Nat)) (v5 v6:Option V),σ=[some (.ref a),some (.int i),some (.ref b),some (.str (S y)),some (.ref t),v5,v6]/\H' t=some (.lst (iR ws))/\ws.length=j/\(∀u∈ws,SW y u/\u.length<=4/\kr u=1)/\cE H' b/\ ∀c o,H2 c=some o->H' c=some o) ?_ ?_ ?_
  ·exact ⟨[],v5,v6,by rw[Vy];rfl,QR,rfl,fun _ h=>absurd h UP,QS,s5⟩
  ·rintro j σ H6 hj ⟨ws,v5,v6,rfl,Na,q0,pj,Pd,s6⟩
   refine ⟨_,rfl,_,rfl,b,y,4,rfl,Pd,hy,by omega,by omega,by decide,by decide,fun u H7 su HZ QT s7=>?_⟩
   have QU:=s7 _ _ Na tb
   have TQ: ∀c o,H2 c=some o->H7 c=some o:=fun c o e=>s7 c o (s6 c o e) (fun z=>by rw[z]at e;rw[nb]at e;cases e)
   refine ⟨_,rfl, .inl ⟨rfl,_,bJ.of QU⟩,_,rfl,_,rfl,u,rfl,by omega,_,rfl,u,rfl,su.ne,by omega,fun r hr=>?_⟩
   obtain ⟨sr,TR,dd⟩:=su.root hr
   have OZ:0<u.length / r:=(ym su.ne hr).2.2.2.2
   have hd2:=Wt u.length r
   refine ⟨_,_,rfl,rfl,⟨by omega,by omega⟩,_,rfl,u,rfl,by omega,?_⟩
   have ec:cut u none (some ((u.length:Int) / ((u.length / r:Nat):Int)))=u.take r:=by
    rw[<-VQ,dd,cZ]
   rw[ec]
   refine ⟨t,iR ws,_,rfl,rfl,QU,by rw[dy];omega,?_⟩
   refine ⟨ws++[u.take r],_,_,rfl,?_,by rw[Rk,q0];rfl,fun x hx=>?_,QT.js tb,fun c o e=>?_⟩
   ·rw[ag]
    unfold iR
    rw[Rn]
    rfl
   ·rcases UO.mp hx with g | g
    ·exact pj x g
    ·rw[PC.mp g]
     exact ⟨sr,by rw[UB];omega,TR⟩
   ·rw[au (fun z=>by rw[z,TN]at e;cases e)]
    exact TQ c o e
  ·rintro σ H6 ⟨ws,v5,v6,rfl,Na,q0,pj,Pd,s6⟩
   obtain ⟨w1,w2,rfl⟩: ∃w1 w2,ws=[w1,w2]:=by
    match ws,q0 with
    | [w1,w2],_=>exact ⟨w1,w2,rfl⟩
   have a1:=pj w1 UA
   have a2:=pj w2 (T5 _ UA)
   refine ⟨_,rfl,_,rfl,_,rfl,t,_,_,_,rfl,rfl,bJ.of Na,rfl,_,rfl,t,_,_,_,rfl,rfl,bJ.of Na,rfl,?_⟩
   refine ⟨b,y,w1,w2,rfl,Pd,hy,by omega,a1.1,a1.2.1,a1.2.2,a2.1,a2.2.1,a2.2.2,fun H7 QT s7=>?_⟩
   refine ⟨_,rfl,zh rfl ?_⟩
   exact ⟨_,_,_,_,_,_,rfl,s2.trans fun c o e=>s7 c o (s6 c o e) (fun z=>by rw[z]at e;rw[nb]at e;cases e)⟩
 ·rintro σ H2 ⟨v1,v2,v3,v4,v5,v6,rfl,s2⟩
  exact q H2
end
theorem bX {M:List Value->Prop} (h:M []): ∀us:List Value,us.length=0->M us
 | [],_=>h
theorem aM {M:List Value->Prop} {n:Nat} (h: ∀(a:Value) (us:List Value),us.length=n->M (a::us)): ∀us:List Value,us.length=n+1->M us
 | a::us,e=>h a us (Nat.succ.inj e)
def Dn (K:PySem.W.Frag) (x:Str) (st:Stmt) (f:Addr) (fd:FuncData):Prop:=PySem.W.nsIn K mainGlobals x=some (some (.ref f))/\Dt K x x st f fd
theorem dn {K:PySem.W.Frag} {x:Str} {st:Stmt} {f:Addr} {oc:Value} {od an:Option Addr} {CP:Array (Option Value)} {kV doc pm cB ct:Value} (a:PySem.W.nsIn K mainGlobals x=some (some (.ref f))) (l:K.lookup f=some ⟨oc,od, .func (PySem.W.fnOf x x (eZ st) (eB st) (ar st) .none kV doc pm an cB ct),CP⟩) (c:PySem.W.codeIn K cB x=true) (k:PySem.W.keepIn K (.ref f)=true):Dn K x st f (PySem.W.fnOf x x (eZ st) (eB st) (ar st) .none kV doc pm an cB ct):=⟨a,vz l c k⟩
theorem gw {K:PySem.W.Frag} {h:Heap} {mg:Str->Option Value} {x:Str} {st:Stmt} {f:Addr} {fd:FuncData} {ps:List Str} (X:K.In h) (G:h.Ns mainGlobals mg) (a:Dn K x st f fd) (b: ∀(kV doc pm:Value) (an:Option Addr) (cB ct:Value) (us:List Value),us.length=ps.length->bindArgs (PySem.W.fnOf x x (eZ st) (eB st) (ar st) .none kV doc pm an cB ct) ⟨us,[]⟩=pure (ps.zip us)):bc K mg x st ps f fd:=⟨a.2,Xb X G a.1,a.2.binds b⟩
theorem all_mk {l:PySem.W.OpenLaw} {w:World} {K:PySem.W.Frag} {h:Heap} {mg:Str->Option Value} {fa f0 f1 f2 f3 f4 f5 f6 f7 f8 f9 IQ IS IT IU IV IW IX IZ Cp Cq I0 I_ Ja Jb Jc Jd Je Jf Jg Jh Ji Jj Jk Jl Jm Jn Jo Jp Jq Jr Js aJ aP jh gf:Addr} (X:K.In h) (G:h.Ns mainGlobals mg) (Mx:mg "law"=some (.ref fa))
  {d0 d1 d2 d3 d4 d5 d6 d7 d8 d9 Jt Ju Jv Jw Jx Jy Jz JA JB JC JD JE JF JG JH JI JJ JK JL JM JN JO JP JQ JR JS JT JU JV JW JX:FuncData}
  {Il Im EN EO:Option Addr} {Io ER:Array (Option Value)} {Ip Iq Ir Iu CI Iv ES ET EU EV yt EW:Value}
  (a0:Dn K "contrary" jB f0 d0)
  (a1:Dn K "turned" oe f1 d1)
  (a2:Dn K "bands" sk f2 d2)
  (a3:Dn K "steps_round" fW f3 d3)
  (a4:Dn K "strands_at" gK f4 d4)
  (a5:Dn K "points" og f5 d5)
  (a6:Dn K "corner_points" eU f6 d6)
  (a7:Dn K "corners" k_ f7 d7)
  (a8:Dn K "chord_starts" fD f8 d8)
  (a9:Dn K "number_in" iL f9 d9)
  (a10:Dn K "count_meetings" dY IQ Jt)
  (a11:Dn K "strands_in" gL IS Ju)
  (a12:Dn K "corner_ends" fX IT Jv)
  (a13:Dn K "shortened" iM IU Jw)
  (a14:Dn K "shortest" jC IV Jx)
  (a15:Dn K "ring" wM IW Jy)
  (a16:Dn K "root" wN IX Jz)
  (a17:Dn K "corner_steps" fE IZ JA)
  (a18:Dn K "steps_ahead" fZ Cp JB)
  (a19:Dn K "steps_back" gM Cq JC)
  (a20:Dn K "parting" lh I0 JD)
  (a21:Dn K "side_of" lj I_ JE)
  (a22:Dn K "comes_ahead" f_ Ja JF)
  (a23:Dn K "number_among" fF Jb JG)
  (a24:Dn K "seen_strand" gc Jc JH)
  (a25:Dn K "taut_order" gN Jd JI)
  (a26:Dn K "taut" wO Je JJ)
  (a27:Dn K "least" so Jf JK)
  (a28:Dn K "own" Cn Jg JL)
  (a29:Dn K "between" lq Jh JM)
  (a30:Dn K "_law_box" wQ Ji JN)
  (a31:Dn K "_law_take" sx Jj JO)
  (a32:Dn K "_law_other" oh Jk JP)
  (a33:Dn K "_law_yard" sC Jl JQ)
  (a34:Dn K "_law_short" oj Jm JR)
  (a35:Dn K "_law_times" om Jn JS)
  (a36:Dn K "_law_turned" lr Jo JT)
  (a37:Dn K "_law_round_and_round" dZ Jp JU)
  (a38:Dn K "_law_is_one" oq Jq JV)
  (a39:Dn K "_law_right" ou Jr JW)
  (a40:Dn K "law" Co Js JX)
  (q_Seen:PySem.W.nsIn K mainGlobals "Seen"=some (some (.ref aJ)))
  (pg_Seen:PySem.W.plainGet K aJ Str.empty=true)
  (hd_Seen:PySem.W.hasDictIn K aJ=true)
  (po_Seen:PySem.W.plainOver K aJ=true)
  (sa_Seen:PySem.W.findIn K (.ref aJ) "__setattr__"=some (some (.builtin "object.__setattr__")))
  (n_Seen_strand:PySem.W.findIn K (.ref aJ) "strand"=some none)
  (n_Seen_way:PySem.W.findIn K (.ref aJ) "way"=some none)
  (n_Seen_place:PySem.W.findIn K (.ref aJ) "place"=some none)
  (q_Way:PySem.W.nsIn K mainGlobals "Way"=some (some (.ref aP)))
  (pg_Way:PySem.W.plainGet K aP Str.empty=true)
  (hd_Way:PySem.W.hasDictIn K aP=true)
  (po_Way:PySem.W.plainOver K aP=true)
  (sa_Way:PySem.W.findIn K (.ref aP) "__setattr__"=some (some (.builtin "object.__setattr__")))
  (n_Way_size:PySem.W.findIn K (.ref aP) "size"=some none)
  (n_Way_root_size:PySem.W.findIn K (.ref aP) "root_size"=some none)
  (n_Way_leads:PySem.W.findIn K (.ref aP) "leads"=some none)
  (n_Way_onward:PySem.W.findIn K (.ref aP) "onward"=some none)
  (n_Way_backward:PySem.W.findIn K (.ref aP) "backward"=some none)
  (mk_Way:PySem.W.makesIn K aP=true)
  (qi_Way:PySem.W.findIn K (.ref aP) "__init__"=some (some (.ref jh)))
  (fi_Way:PySem.W.isFn K (.ref jh)=true)
  (kc_Way:PySem.W.keepIn K (.ref aP)=true)
  (li_Way:K.lookup jh=some ⟨Ip,Il, .func (PySem.W.fnOf "__init__" "Way.__init__" (eZ i0) (eB i0) (ar i0) .none Iq Ir Iu Im CI Iv),Io⟩)
  (ci_Way:PySem.W.codeIn K CI "Way.__init__"=true)
  (ki_Way:PySem.W.keepIn K (.ref jh)=true)
  (mk_Seen:PySem.W.makesIn K aJ=true)
  (qi_Seen:PySem.W.findIn K (.ref aJ) "__init__"=some (some (.ref gf)))
  (fi_Seen:PySem.W.isFn K (.ref gf)=true)
  (kc_Seen:PySem.W.keepIn K (.ref aJ)=true)
  (li_Seen:K.lookup gf=some ⟨ES,EN, .func (PySem.W.fnOf "__init__" "Seen.__init__" (eZ gs) (eB gs) (ar gs) .none ET EU EV EO yt EW),ER⟩)
  (ci_Seen:PySem.W.codeIn K yt "Seen.__init__"=true)
  (ki_Seen:PySem.W.keepIn K (.ref gf)=true)
  (z_enumerate:PySem.W.nsIn K mainGlobals "enumerate"=some none)
  (z_int:PySem.W.nsIn K mainGlobals "int"=some none)
  (z_len:PySem.W.nsIn K mainGlobals "len"=some none)
  (z_list:PySem.W.nsIn K mainGlobals "list"=some none)
  (z_max:PySem.W.nsIn K mainGlobals "max"=some none)
  (z_min:PySem.W.nsIn K mainGlobals "min"=some none)
  (z_range:PySem.W.nsIn K mainGlobals "range"=some none)
  (z_reversed:PySem.W.nsIn K mainGlobals "reversed"=some none)
  (z_sorted:PySem.W.nsIn K mainGlobals "sorted"=some none)
  (z_str:PySem.W.nsIn K mainGlobals "str"=some none)
  (z_tuple:PySem.W.nsIn K mainGlobals "tuple"=some none):
  ∃fd:FuncData,(∀(s:Shared) (v:Value),BindsTo s fd ⟨[v],[]⟩ [("_law_script",v)])/\ ∀base:Heap,K.In base->base.Ns mainGlobals mg->bA l.prog w K mg base e_ 12 fa fd ["_law_script"] (kE K):=by
 have e:=Mx.symm.trans (Xb X G a40.1)
 cases e
 obtain ⟨_,_,_,_,_,_,_,_,_,rfl,_⟩:=a40.2.ex
 have CJ:=vz (st:=i0) li_Way ci_Way ki_Way
 have Iw:=CJ.binds (ps:=["self","yard","word","longest"]) fun _ _ _ _ _ _=>aM fun _=>aM fun _=>aM fun _=>aM fun _=>bX rfl
 have yu:=vz (st:=gs) li_Seen ci_Seen ki_Seen
 have EX:=yu.binds (ps:=["self","strand","way","place"]) fun _ _ _ _ _ _=>aM fun _=>aM fun _=>aM fun _=>aM fun _=>bX rfl
 have T:Txt K mg _ _ _ _ _ _ _ _ _ _ _ _ _ _ _ _ _ _ _ _ _ _ _ _ _ _ _ _ _ _ _ _ _ _ _ _ _ _ _ _ _ _ _ _ _ _ _ _ _ _ _ _ _ _ _ _ _ _ _ _ _ _ _ _ _ _ _ _ _ _ _ _ _ _ _ _ _ _ _ _ _ _ _ _ _ _ _ _:=⟨gw X G a0 fun _ _ _ _ _ _=>aM fun _=>bX rfl,gw X G a1 fun _ _ _ _ _ _=>aM fun _=>bX rfl,gw X G a2 fun _ _ _ _ _ _=>aM fun _=>bX rfl,gw X G a3 fun _ _ _ _ _ _=>aM fun _=>aM fun _=>aM fun _=>bX rfl,gw X G a4 fun _ _ _ _ _ _=>aM fun _=>aM fun _=>aM fun _=>bX rfl,gw X G a5 fun _ _ _ _ _ _=>aM fun _=>aM fun _=>bX rfl,gw X G a6 fun _ _ _ _ _ _=>aM fun _=>aM fun _=>aM fun _=>bX rfl,gw X G a7 fun _ _ _ _ _ _=>aM fun _=>aM fun _=>bX rfl,gw X G a8 fun _ _ _ _ _ _=>aM fun _=>bX rfl,gw X G a9 fun _ _ _ _ _ _=>aM fun _=>aM fun _=>bX rfl,gw X G a10 fun _ _ _ _ _ _=>aM fun _=>bX rfl,gw X G a11 fun _ _ _ _ _ _=>aM fun _=>aM fun _=>bX rfl,gw X G a12 fun _ _ _ _ _ _=>aM fun _=>aM fun _=>bX rfl,gw X G a13 fun _ _ _ _ _ _=>aM fun _=>bX rfl,gw X G a14 fun _ _ _ _ _ _=>aM fun _=>bX rfl,gw X G a15 fun _ _ _ _ _ _=>aM fun _=>bX rfl,gw X G a16 fun _ _ _ _ _ _=>aM fun _=>bX rfl,gw X G a17 fun _ _ _ _ _ _=>aM fun _=>aM fun _=>aM fun _=>bX rfl,gw X G a18 fun _ _ _ _ _ _=>aM fun _=>aM fun _=>aM fun _=>bX rfl,gw X G a19 fun _ _ _ _ _ _=>aM fun _=>aM fun _=>aM fun _=>bX rfl,gw X G a20 fun _ _ _ _ _ _=>aM fun _=>aM fun _=>aM fun _=>aM fun _=>bX rfl,gw X G a21 fun _ _ _ _ _ _=>aM fun _=>bX rfl,gw X G a22 fun _ _ _ _ _ _=>aM fun _=>aM fun _=>bX rfl,gw X G a23 fun _ _ _ _ _ _=>aM fun _=>aM fun _=>bX rfl,gw X G a24 fun _ _ _ _ _ _=>aM fun _=>aM fun _=>aM fun _=>bX rfl,gw X G a25 fun _ _ _ _ _ _=>aM fun _=>aM fun _=>aM fun _=>bX rfl,gw X G a26 fun _ _ _ _ _ _=>aM fun _=>aM fun _=>bX rfl,gw X G a27 fun _ _ _ _ _ _=>aM fun _=>aM fun _=>bX rfl,gw X G a28 fun _ _ _ _ _ _=>aM fun _=>aM fun _=>bX rfl,gw X G a29 fun _ _ _ _ _ _=>aM fun _=>aM fun _=>aM fun _=>bX rfl,gw X G a30 fun _ _ _ _ _ _=>aM fun _=>aM fun _=>bX rfl,gw X G a31 fun _ _ _ _ _ _=>aM fun _=>aM fun _=>bX rfl,gw X G a32 fun _ _ _ _ _ _=>aM fun _=>bX rfl,gw X G a33 fun _ _ _ _ _ _=>aM fun _=>aM fun _=>aM fun _=>bX rfl,gw X G a34 fun _ _ _ _ _ _=>aM fun _=>aM fun _=>aM fun _=>bX rfl,gw X G a35 fun _ _ _ _ _ _=>aM fun _=>bX rfl,gw X G a36 fun _ _ _ _ _ _=>aM fun _=>bX rfl,gw X G a37 fun _ _ _ _ _ _=>aM fun _=>aM fun _=>aM fun _=>bX rfl,gw X G a38 fun _ _ _ _ _ _=>aM fun _=>aM fun _=>bX rfl,gw X G a39 fun _ _ _ _ _ _=>aM fun _=>aM fun _=>aM fun _=>aM fun _=>bX rfl,gw X G a40 fun _ _ _ _ _ _=>aM fun _=>bX rfl,Xb X G q_Seen,⟨pg_Seen,hd_Seen,po_Seen,sa_Seen⟩,n_Seen_strand,n_Seen_way,n_Seen_place,Xb X G q_Way,⟨pg_Way,hd_Way,po_Way,sa_Way⟩,n_Way_size,n_Way_root_size,n_Way_leads,n_Way_onward,n_Way_backward,⟨mk_Way,qi_Way,fi_Way,kc_Way⟩,CJ,Iw,⟨mk_Seen,qi_Seen,fi_Seen,kc_Seen⟩,yu,EX,Vg X G z_enumerate,Vg X G z_int,Vg X G z_len,Vg X G z_list,Vg X G z_max,Vg X G z_min,Vg X G z_range,Vg X G z_reversed,Vg X G z_sorted,Vg X G z_str,Vg X G z_tuple⟩
 exact ⟨_,fun s v=> .of_eq rfl,fun base _ _=>Ij T⟩
theorem walk {l:PySem.W.OpenLaw} {q:Program} {loose:List Str} {XP:(Str->Option Value)->Heap->Prop} {YP:World->Heap->Prop} {d:DefRec} {K:Params->PySem.W.Frag} (hn:l.most=some 63) (KS:d.params.defaults=[])
  (hY: ∀(w:World) (h:Heap),YP w h->(K w.params).In h)
  (F: ∀(w:World) (mg:Str->Option Value) (fa:Addr) (h:Heap),(K w.params).In h->h.Ns mainGlobals mg->mg d.name=some (.ref fa)->
   ∃fd:FuncData,(∀(s:Shared) (u:Value),BindsTo s fd ⟨[u],[]⟩ [("_law_script",u)])/\ ∀base:Heap,(K w.params).In base->base.Ns mainGlobals mg->bA l.prog w (K w.params) mg base e_ 12 fa fd ["_law_script"] (kE (K w.params))):
  PySem.W.WalkO q loose XP YP l.row.toRowW d [] (fun f vs=>PySem.call f vs):=
 L2.xi (n:=63) (k:=12) (x:="_law_script") (CX:=fun _=>e_) (sp:=fun w=>kE (K w.params)) hn (by decide) KS ⟨rfl,by decide,by decide,rfl⟩ hY F (fun _ _ a ns hl _ hS=>⟨a,ns,rfl,hS,hl,fun _=>rfl⟩) fun _ _ _ _ _ z=>z
end My
namespace PySem.W.Fast
def tw10008264116286908096:=Nat
def tw10110911447867076681:=Nat
def tw1017568042254100311:=Nat
def tw10203425212977232286:=Nat
def tw10363799491125997639:=Nat
def tw10474409033414722889:=Nat
def tw10490443066462767861:=Nat
def tw10513555901051457169:=Nat
def tw10585147383552139170:=Nat
def tw10712919185364740088:=Nat
def tw1071727397928667946:=Nat
def tw10758614749581633908:=Nat
def tw10802655049829670676:=Nat
def tw10917548532439750706:=Nat
def tw10963659189224604728:=Nat
def tw10973348458283051588:=Nat
def tw11047165874136008153:=Nat
def tw11224968057232589157:=Nat
def tw11270483862166534114:=Nat
def tw11294631904879626724:=Nat
def tw11323284884593152805:=Nat
def tw11437713433299190757:=Nat
def tw11465967282708652736:=Nat
def tw11639364854650334881:=Nat
def tw11673838206586439274:=Nat
def tw1168670164680415226:=Nat
def tw11862153922149316355:=Nat
def tw11907002374163081722:=Nat
def tw11945433011944068099:=Nat
def tw12043610034791675643:=Nat
def tw12063317154711849872:=Nat
def tw12390638956563313712:=Nat
def tw12403087647259300200:=Nat
def tw12464967374075283556:=Nat
def tw12604408850902677356:=Nat
def tw12767456864946337452:=Nat
def tw12846762951181950354:=Nat
def tw12855798862684254154:=Nat
def tw12858758626848902463:=Nat
def tw12881404805008634979:=Nat
def tw1333042076285504734:=Nat
def tw13439178737575330526:=Nat
def tw13565390354658147853:=Nat
def tw13788903001207636811:=Nat
def tw13797960853232557579:=Nat
def tw13818148832734180643:=Nat
def tw1397456931547756523:=Nat
def tw14097425017576162516:=Nat
def tw14151590965612261401:=Nat
def tw14470275616217991764:=Nat
def tw1447218749775691586:=Nat
def tw14478817319996052106:=Nat
def tw14519289660988890558:=Nat
def tw14635609887223848883:=Nat
def tw14646307327543630746:=Nat
def tw14690717509461342947:=Nat
def tw14969084952771042561:=Nat
def tw15033414739182701059:=Nat
def tw15047974643499162824:=Nat
def tw15092154789063012706:=Nat
def tw155975477914940856:=Nat
def tw1562748677077431977:=Nat
def tw1565555958689949693:=Nat
def tw15679509198193913759:=Nat
def tw15684804015434381156:=Nat
def tw15779337538623716357:=Nat
def tw1598141158372152312:=Nat
def tw16062022839644782323:=Nat
def tw16305392174278954732:=Nat
def tw16534885304616243134:=Nat
def tw1658981957063296277:=Nat
def tw16781089449845687320:=Nat
def tw16783255356944051434:=Nat
def tw16846082766291835317:=Nat
def tw16978281550808122314:=Nat
def tw17147575790528710923:=Nat
def tw17161819361789907180:=Nat
def tw17327520320260105575:=Nat
def tw17431128320673793837:=Nat
def tw17454798142580058013:=Nat
def tw17601906674726609118:=Nat
def tw17676961913236103275:=Nat
def tw17738671597830966878:=Nat
def tw17782015316921704437:=Nat
def tw17802016053169050994:=Nat
def tw17896068270161902404:=Nat
def tw17940199865156528680:=Nat
def tw179643813716047989:=Nat
def tw18028750075190356051:=Nat
def tw1805446749216102009:=Nat
def tw18093000172598940306:=Nat
def tw18198801484856654535:=Nat
def tw18240854275771962710:=Nat
def tw18263942916370694166:=Nat
def tw18284310158078135685:=Nat
def tw18406817981501448679:=Nat
def tw1964893731501592843:=Nat
def tw2137614740657341997:=Nat
def tw2172871306035127380:=Nat
def tw2190590626922967591:=Nat
def tw227753806445243592:=Nat
def tw2305300720210713125:=Nat
def tw2311445968337982961:=Nat
def tw2399693833377539213:=Nat
def tw2479296228481861911:=Nat
def tw2502856518871548782:=Nat
def tw2579146535987330744:=Nat
def tw2609515650288049097:=Nat
def tw2697720609933570951:=Nat
def tw2817253420606867673:=Nat
def tw2836885524355317938:=Nat
def tw2883502650329335729:=Nat
def tw2885954303117664938:=Nat
def tw297947248194702674:=Nat
def tw302643032519166291:=Nat
def tw3154248337850565015:=Nat
def tw3224497514495715032:=Nat
def tw3289985574963870687:=Nat
def tw3323451545550767641:=Nat
def tw3507675912280333735:=Nat
def tw3555256855908118882:=Nat
def tw3575309615990627899:=Nat
def tw3732609681487982419:=Nat
def tw3804819602911588884:=Nat
def tw3912898421287561213:=Nat
def tw3922097365799275818:=Nat
def tw3964601569045979484:=Nat
def tw4032790823101776915:=Nat
def tw4036572339778862055:=Nat
def tw4151001317793560504:=Nat
def tw4203379389407968271:=Nat
def tw4348028871158564911:=Nat
def tw4382679799714472713:=Nat
def tw4455434011432698840:=Nat
def tw4628404716771947675:=Nat
def tw4660961203555448376:=Nat
def tw4723899877975202377:=Nat
def tw4775571869377355245:=Nat
def tw4835643619698326870:=Nat
def tw5030137190527879163:=Nat
def tw5116388062357831074:=Nat
def tw5279476391251538666:=Nat
def tw5355046023794160961:=Nat
def tw5449933730416325706:=Nat
def tw5451984715409980894:=Nat
def tw5452278665897833466:=Nat
def tw5488933041724430078:=Nat
def tw5554210130511592343:=Nat
def tw5596324456040317651:=Nat
def tw5628581464667875971:=Nat
def tw5863955943409159150:=Nat
def tw5870274984477171752:=Nat
def tw5894156588269372248:=Nat
def tw6206563607234979561:=Nat
def tw6273224314008042673:=Nat
def tw636369307183863896:=Nat
def tw6519299852534198715:=Nat
def tw6654699224819974988:=Nat
def tw6684490389112320683:=Nat
def tw6689270482376446171:=Nat
def tw6821169988823854020:=Nat
def tw6874525563832462322:=Nat
def tw696976708160110607:=Nat
def tw698836047946449961:=Nat
def tw7064885108757119580:=Nat
def tw7153266114042016232:=Nat
def tw7308945713835183119:=Nat
def tw7372421512303734468:=Nat
def tw7377552458734252285:=Nat
def tw740078963605590467:=Nat
def tw7443712914585583690:=Nat
def tw7469171588044329113:=Nat
def tw7553944514126241314:=Nat
def tw7667209116563113611:=Nat
def tw773844125609727647:=Nat
def tw7977258407368352713:=Nat
def tw8022633807065759299:=Nat
def tw803820866745069532:=Nat
def tw8069274011319410181:=Nat
def tw8075435529916679123:=Nat
def tw8212981260023225619:=Nat
def tw8229259719354617613:=Nat
def tw8313650279894858017:=Nat
def tw833571151636803048:=Nat
def tw8388258890579530244:=Nat
def tw8483690436918306571:=Nat
def tw8530388747460192756:=Nat
def tw8632481601783814037:=Nat
def tw8644482003054906458:=Nat
def tw8790987152168451002:=Nat
def tw8842629180441627060:=Nat
def tw8973396646858093585:=Nat
def tw8978601306053735850:=Nat
def tw93150550195287963:=Nat
def tw9503668217961380787:=Nat
def tw9617591085211048235:=Nat
def tw9833895492509555458:=Nat
def tw9918045626457302816:=Nat
def tw9943899571095842518:=Nat
def tw9966080156792538865:=Nat
end PySem.W.Fast
open PySem PySem.W PyProof.Rows
set_option maxRecDepth 100000 in
set_option maxHeartbeats 0 in
theorem PySem.Challenge.cw_mustmeet_k30_whole_so_many_times_round_holds : PySem.Challenge.rw_mustmeet_k30_whole_so_many_times_round.Holds := by
 w_on;o_law;k_head;(case hw=>w_witness2)
 k_fill
 refine My.walk (l:=PySem.Challenge.rw_mustmeet_k30_whole_so_many_times_round) rfl rfl (fun w h Y=>PySem.W.kIn_of Y) ?F
 case F=>
  intro w mg fa h KX G hmg
  refine' My.all_mk KX G hmg (My.dn ?a0 ?l0 ?c0 ?k0) (My.dn ?a1 ?l1 ?c1 ?k1) (My.dn ?a2 ?l2 ?c2 ?k2) (My.dn ?a3 ?l3 ?c3 ?k3) (My.dn ?a4 ?l4 ?c4 ?k4) (My.dn ?a5 ?l5 ?c5 ?k5) (My.dn ?a6 ?l6 ?c6 ?k6) (My.dn ?a7 ?l7 ?c7 ?k7) (My.dn ?a8 ?l8 ?c8 ?k8) (My.dn ?a9 ?l9 ?c9 ?k9) (My.dn ?a10 ?l10 ?c10 ?k10) (My.dn ?a11 ?l11 ?c11 ?k11) (My.dn ?a12 ?l12 ?c12 ?k12) (My.dn ?a13 ?l13 ?c13 ?k13) (My.dn ?a14 ?l14 ?c14 ?k14) (My.dn ?a15 ?l15 ?c15 ?k15) (My.dn ?a16 ?l16 ?c16 ?k16) (My.dn ?a17 ?l17 ?c17 ?k17) (My.dn ?a18 ?l18 ?c18 ?k18) (My.dn ?a19 ?l19 ?c19 ?k19) (My.dn ?a20 ?l20 ?c20 ?k20) (My.dn ?a21 ?l21 ?c21 ?k21) (My.dn ?a22 ?l22 ?c22 ?k22) (My.dn ?a23 ?l23 ?c23 ?k23) (My.dn ?a24 ?l24 ?c24 ?k24) (My.dn ?a25 ?l25 ?c25 ?k25) (My.dn ?a26 ?l26 ?c26 ?k26) (My.dn ?a27 ?l27 ?c27 ?k27) (My.dn ?a28 ?l28 ?c28 ?k28) (My.dn ?a29 ?l29 ?c29 ?k29) (My.dn ?a30 ?l30 ?c30 ?k30) (My.dn ?a31 ?l31 ?c31 ?k31) (My.dn ?a32 ?l32 ?c32 ?k32) (My.dn ?a33 ?l33 ?c33 ?k33) (My.dn ?a34 ?l34 ?c34 ?k34) (My.dn ?a35 ?l35 ?c35 ?k35) (My.dn ?a36 ?l36 ?c36 ?k36) (My.dn ?a37 ?l37 ?c37 ?k37) (My.dn ?a38 ?l38 ?c38 ?k38) (My.dn ?a39 ?l39 ?c39 ?k39) (My.dn ?a40 ?l40 ?c40 ?k40) ?q_Seen ?pg_Seen ?hd_Seen ?po_Seen ?sa_Seen ?n_Seen_strand ?n_Seen_way ?n_Seen_place ?q_Way ?pg_Way ?hd_Way ?po_Way ?sa_Way ?n_Way_size ?n_Way_root_size ?n_Way_leads ?n_Way_onward ?n_Way_backward ?mk_Way ?qi_Way ?fi_Way ?kc_Way ?li_Way ?ci_Way ?ki_Way ?mk_Seen ?qi_Seen ?fi_Seen ?kc_Seen ?li_Seen ?ci_Seen ?ki_Seen ?z_enumerate ?z_int ?z_len ?z_list ?z_max ?z_min ?z_range ?z_reversed ?z_sorted ?z_str ?z_tuple
  case a0|l0|c0|k0|a1|l1|c1|k1|a2|l2|c2|k2|a3|l3|c3|k3|a4|l4|c4|k4|a5|l5|c5|k5|a6|l6|c6|k6|a7|l7|c7|k7|a8|l8|c8|k8|a9|l9|c9|k9|a10|l10|c10|k10|a11|l11|c11|k11|a12|l12|c12|k12|a13|l13|c13|k13|a14|l14|c14|k14|a15|l15|c15|k15|a16|l16|c16|k16|a17|l17|c17|k17|a18|l18|c18|k18|a19|l19|c19|k19|a20|l20|c20|k20|a21|l21|c21|k21|a22|l22|c22|k22|a23|l23|c23|k23|a24|l24|c24|k24|a25|l25|c25|k25|a26|l26|c26|k26|a27|l27|c27|k27|a28|l28|c28|k28|a29|l29|c29|k29|a30|l30|c30|k30|a31|l31|c31|k31|a32|l32|c32|k32|a33|l33|c33|k33|a34|l34|c34|k34|a35|l35|c35|k35|a36|l36|c36|k36|a37|l37|c37|k37|a38|l38|c38|k38|a39|l39|c39|k39|a40|l40|c40|k40|q_Seen|pg_Seen|hd_Seen|po_Seen|sa_Seen|n_Seen_strand|n_Seen_way|n_Seen_place|q_Way|pg_Way|hd_Way|po_Way|sa_Way|n_Way_size|n_Way_root_size|n_Way_leads|n_Way_onward|n_Way_backward|mk_Way|qi_Way|fi_Way|kc_Way|li_Way|ci_Way|ki_Way|mk_Seen|qi_Seen|fi_Seen|kc_Seen|li_Seen|ci_Seen|ki_Seen|z_enumerate|z_int|z_len|z_list|z_max|z_min|z_range|z_reversed|z_sorted|z_str|z_tuple=>k_is
