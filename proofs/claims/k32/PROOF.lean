import PyProof.Rows.All
import Wide.All
import OpenK.AllK
import Wide.FinOn
import Lean
import PyProof.EqAt
import PyProof.EqKinds
import PyProof.TupleCall
import PySem.Challenge.RW_mustmeet_k32_whole_two_bands_crossed
set_option Elab.async false
set_option linter.all false
set_option maxRecDepth 100000
open List renaming getElem?_eq_getElem→FW,getElem?_eq_some_iff→FX,length_map→HX,length_pos_iff→Pe,idxOf_lt_length_of_mem→Ph,getD_eq_getElem?_getD→QQ,size_toArray→QR,mem_cons→QS,map_append→QT,mem_singleton→QU,mem_cons_of_mem→Tj,length_append→Tn,getElem?_map→TQ,mem_cons_self→TR,mem_of_getElem?→TU,map_cons→TV,mem_map→T3,length_take→T4,length_drop→T6,mem_append_right→T8,mem_append→T9,filter_cons_of_neg→T_,take_of_length_le→Uc,not_mem_nil→Uh,flatMap_cons→Uj,filter_cons_of_pos→Uk,length_reverse→Ul,mem_flatMap→Uo,lookup_cons→Up,mem_filter→Uq,map_map→Us,length_cons→Uu,flatMap_append→Uw,mem_range→Ux,getElem_mem→Uy,drop_eq_getElem_cons→Uz,nodup_cons→UA,pairwise_map→UC,length_eq_zero_iff→UD,range_succ→UG,append_nil→UH,take_append_drop→UK,getElem_idxOf→UL,nodup_append→UP,drop_of_length_le→UQ,map_congr_left→UR,take_length→UT,pairwise_cons→UX,getElem?_drop→UY,getElem?_append_right→UZ,getElem?_eq_none→U0,getElem?_append_left→U1,find?_cons→U2,pairwise_append→U4,sum_cons→U7,filter_append→Vb,length_range→Vh,append_assoc→Vi,mem_append_left→Vj,pairwise_iff_getElem→Vo,lt_irrefl→Vs,flatten_cons→Vt,flatMap_singleton→Vu,drop_eq_nil_of_le→Vv,getElem?_reverse→VB,map_reverse→VD,all_eq_true→VE,any_cons→VF,eq_nil_of_length_eq_zero→VG,forIn_cons→VL,foldl_cons→VM,getElem_of_mem→VO,getElem?_take→VT,idxOf_append→VV,getElem_map→V0,eraseIdx_cons_succ→V1,idxOf_cons→Wd,perm_append_comm→Wf,length_filter_le→Wg,cons_lt_cons_iff→Wh,mem_of_mem_take→Wj,mem_of_mem_drop→Wl,dropLast_concat→Wm,filterMap_cons→Wo,map_take→Wr,map_drop→Ws,take_add_one→Wz,filter_congr→WA,ext_getElem?→WB,any_eq_false→WC,mem_reverse→WJ,flatMap_nil→WK,map_id→WM,of_mem_zip→WN
open Nat renaming le_refl→Mj,zero_le→Ti,ne_of_lt→TY,lt_of_lt_of_le→T1,lt_of_le_of_lt→Ua,le_trans→Ug,le_of_lt→Um,lt_irrefl→Ut,min_eq_left→UE,min_eq_right→UI,succ_le_succ→UU,lt_succ_self→UW,mul_comm→U3,mod_eq_of_lt→U8,le_succ→U9,mod_lt→U_,lt_or_gt_of_ne→Va,max_eq_left→Vf,lt_succ_of_lt→Vg,max_eq_right→Vk,lt_trans→Vl,dvd_of_mod_eq_zero→Vr,succ_ne_zero→VC,not_lt_zero→VI,div_add_mod→VJ,zero_add→VP,lt_asymm→VQ,le_of_dvd→VY,succ_ne_self→VZ,succ_mul→V8,ne_of_gt→V9,mod_add_div→Wa,le_antisymm→Wb,div_le_self→Wc,div_lt_iff_lt_mul→We,succ_pos→Wx,add_zero→Wy,succ_lt_succ→WI,add_assoc→WR
open PySem.Heap renaming get?_push_of_some→Pd,lt_size→To,get?_push_size→TX,get?_update_other→Ur,get?_update_self→UN,size_push→VH
open Int renaming toNat_natCast→Pj,natCast_add→Ud,emod_eq_of_lt→Ue,emod_lt_of_pos→UM,emod_nonneg→US,zero_add→Vc,add_emod_right→Vd,natCast_emod→Vm,natCast_ediv→Vn,add_zero→Vw,sub_zero→VR,emod_add_mul_ediv→Wi,emod_emod_of_dvd→Wn,add_assoc→Wt,natCast_nonneg→Ww,sub_emod→WE,mul_comm→WG,emod_add_emod→WH,emod_self→WT
open Option.some renaming inj→TZ
open PySem.F renaming plainAttrs_str→T5,plainAttrs_list→Ui,plain_max_loop→UO,type_list_append→U5,slot_list_append→U6,type_str_join→Vx,type_list_pop→Vy,slot_str_join→Vz,slot_list_pop→VA,type_str_islower→VW,slot_str_islower→VX,type_str_lower→V3,type_str_index→V4,slot_str_lower→V5,slot_str_index→V6,entry_max_loop→V7
open Bool renaming false_ne_true→T7,and_eq_true→UJ,false_eq_true→Ve,eq_iff_iff→VN,decide_or→VU,not_true→Wu,false_or→Wv,decide_and→WO,not_false→WQ,or_false→WU
open PySem renaming boot_len→Ub,mem_of_lookup→Vp
open PySem.W renaming mg_none_of→Uv,callWith_K→VS,mg_of→Wq
open PyProof.Rows renaming callWith_type1→UB
open List.Pairwise renaming imp_of_mem→Vq,imp→WD
open Array renaming toList_inj→V2
open Option renaming map_some→V_
open PySem.Heap.SameBut renaming update→WL
open Int.ofNat renaming inj→WS
namespace L2
open PySem PySem.Spec PyProof.Rows
abbrev Key:=Sum Int Str
noncomputable def oF:Key->Value->Bool
 | .inl k,v=>Value.isInt k v
 | .inr x,v=>Value.isStrOf x v
noncomputable def M6 (w:World):Key->Int
 | .inl k=>hashInt k
 | .inr x=>hashStr w x
theorem bN: ∀{k:Key} {v:Value},oF k v=true->(∃i t,k=Sum.inl i/\v=Value.int i t)\/(∃x t,k=Sum.inr x/\v=Value.str x t)
 | .inl i,v,h=>by
  obtain ⟨t,e⟩:=Value.isInt_shape (k:=i) (v:=v) h
  exact .inl ⟨i,t,rfl,e⟩
 | .inr x,v,h=>by
  obtain ⟨t,e⟩:=Value.isStrOf_shape (x:=x) (v:=v) h
  exact .inr ⟨x,t,rfl,e⟩
theorem xT (i:Int) (t:Tok):oF (.inl i) (.int i t)=true:=by simp[oF,Value.isInt]
theorem xU (x:Str) (t:Tok):oF (.inr x) (.str x t)=true:=by simp[oF,Value.isStrOf]
theorem Fd (a b:Int):decide ((Sum.inl a:Key)=Sum.inl b)=(a==b):=by
 by_cases e:a=b
 ·subst e;simp
 ·have h: ¬(Sum.inl a:Key)=Sum.inl b:=fun q=>e (Sum.inl.inj q)
  rw[decide_eq_false h]
  exact (beq_eq_false_iff_ne.mpr e).symm
theorem Fe (a b:Str):decide ((Sum.inr a:Key)=Sum.inr b)=decide (a=b):=by
 by_cases e:a=b
 ·subst e;simp
 ·have h: ¬(Sum.inr a:Key)=Sum.inr b:=fun q=>e (Sum.inr.inj q)
  rw[decide_eq_false h,decide_eq_false e]
theorem Ff (a:Int) (b:Str):decide ((Sum.inl a:Key)=Sum.inr b)=false:=decide_eq_false (fun q=>nomatch q)
theorem Fg (a:Str) (b:Int):decide ((Sum.inr a:Key)=Sum.inl b)=false:=decide_eq_false (fun q=>nomatch q)
noncomputable def b5 (prog:Program) (w:World):PySem.KeyKind prog w Key where
 is:=oF
 hash:=M6 w
 inj:=fun v a b ha hb=>by
  rcases bN ha with ⟨i,t,rfl,rfl⟩ | ⟨x,t,rfl,rfl⟩
  ·rcases bN hb with ⟨j,u,rfl,e⟩ | ⟨y,u,rfl,e⟩
   ·injection e with e1 _;rw[e1]
   ·exact nomatch e
  ·rcases bN hb with ⟨j,u,rfl,e⟩ | ⟨y,u,rfl,e⟩
   ·exact nomatch e
   ·injection e with e1 _;rw[e1]
 byValue:=fun k v h=>by
  rcases bN h with ⟨i,t,rfl,rfl⟩ | ⟨x,t,rfl,rfl⟩<;>rfl
 pyHash:=fun hv h=>by
  rcases bN hv with ⟨i,t,rfl,rfl⟩ | ⟨x,t,rfl,rfl⟩
  ·exact wpAny_pyHash_int h
  ·exact wpAny_pyHash_str h
 eqBool:=fun hu hv h=>by
  rcases bN hu with ⟨i,t,rfl,rfl⟩ | ⟨x,t,rfl,rfl⟩
  ·rcases bN hv with ⟨j,u,rfl,rfl⟩ | ⟨y,u,rfl,rfl⟩
   ·rw[Fd]at h;exact wpAny_eqBool_int h
   ·rw[Ff]at h;exact SeqAt.EqAt.int_str i t y u _ _ _ _ h
  ·rcases bN hv with ⟨j,u,rfl,rfl⟩ | ⟨y,u,rfl,rfl⟩
   ·rw[Fg]at h;exact SeqAt.EqAt.str_int x t j u _ _ _ _ h
   ·rw[Fe]at h;exact wpAny_eqBool_str h
 «strs» :=fun k x t v h=>by
  rcases bN h with ⟨i,u,rfl,e⟩ | ⟨y,u,rfl,e⟩
  ·exact nomatch e
  ·injection e with e1 _
   subst e1
   cases v<;>rfl
theorem rR (prog:Program) (w:World) (i:Int) (t:Tok):(b5 prog w).is (.inl i) (.int i t)=true:=xT i t
theorem rS (prog:Program) (w:World) (x:Str) (t:Tok):(b5 prog w).is (.inr x) (.str x t)=true:=xU x t
inductive V where
 | gB | bl (b:Bool) | int (i:Int) | str (x:Str) | wg (b:Array UInt8) | L8 (b:UInt64) | ref (a:Addr) | ty (n:String)
 deriving DecidableEq
def RelV:V->Value->Prop
 | .gB,u=>u=Value.none
 | .bl b,u=>u=Value.bool b
 | .int i,u=> ∃t,u=Value.int i t
 | .str x,u=> ∃t,u=Value.str x t
 | .wg b,u=> ∃t,u=Value.bytes b t
 | .L8 b,u=> ∃t,u=Value.float b t
 | .ref a,u=>u=Value.ref a
 | .ty n,u=>u=Value.type n
abbrev Vals:List V->List Value->Prop:=Paired RelV
theorem Vals.length {xs:List V} {us:List Value} (r:Vals xs us):xs.length=us.length:=Paired.length r
theorem Vals.get: ∀{xs:List V} {us:List Value} {i:Nat} {x:V},Vals xs us->xs[i]? =some x-> ∃u,us[i]? =some u/\RelV x u
 | _,_,_,_, .nil,e=>by simp at e
 | _,_,0,_, .cons r _,e=>by simp at e;subst e;exact ⟨_,rfl,r⟩
 | _,_,i+1,x, .cons _ t,e=>by
  obtain ⟨u,h1,h2⟩:=Vals.get (i:=i) (x:=x) t (by simpa using e)
  exact ⟨u,by simpa using h1,h2⟩
theorem Vals.set {x:V} {u:Value} (r:RelV x u): ∀{xs:List V} {us:List Value} (i:Nat),Vals xs us->Vals (xs.set i x) (us.set i u)
 | _,_,_, .nil=> .nil
 | _,_,0, .cons _ t=> .cons r t
 | _,_,i+1, .cons q t=> .cons q (Vals.set r i t)
theorem Vals.append: ∀{xs ys:List V} {us ws:List Value},Vals xs us->Vals ys ws->Vals (xs++ys) (us++ws)
 | _,_,_,_, .nil,s=>s
 | _,_,_,_, .cons r t,s=> .cons r (Vals.append t s)
theorem Vals.take: ∀{xs:List V} {us:List Value} (n:Nat),Vals xs us->Vals (xs.take n) (us.take n)
 | _,_,0,_=> .nil
 | _,_,_+1, .nil=> .nil
 | _,_,n+1, .cons r t=> .cons r (Vals.take n t)
theorem Vals.drop: ∀{xs:List V} {us:List Value} (n:Nat),Vals xs us->Vals (xs.drop n) (us.drop n)
 | _,_,0,r=>r
 | _,_,_+1, .nil=> .nil
 | _,_,n+1, .cons _ t=>Vals.drop n t
def jY:Option V->Option Value->Prop
 | some v,some u=>RelV v u
 | none,none=>True
 | _,_=>False
def KV {κ:Type}:List (κ×V)->List (κ×Value)->Prop:=Paired fun (p:κ×V) (q:κ×Value)=>p.1=q.1/\RelV p.2 q.2
noncomputable def kV:Key->V
 | .inl i=> .int i
 | .inr x=> .str x
inductive HO where
  | lst (xs:List V)
  | tup (xs:List V)
  | dK (aI:List (Key×V)) | dT (aI:List (List Key×V))
  | set (S:Int->Bool) (n:Nat)
  | ins (C dx:Addr) (fs:List (Str×V))
  | own (x:Addr)
  | xd (fs:List (Str×V))
  | met (f x:Addr)
  | M7 (lo hi:Int)
  | Cg (o:Obj) (u:HO)
  | Fh (ps:Array Value)
  | ext (φ:Heap->Prop)
abbrev Hp:=Addr->Option HO
noncomputable def upd (H:Hp) (a:Addr) (o:HO):Hp:=fun b=>if b=a then some o else H b
theorem ah {H:Hp} {a:Addr} {o:HO}:upd H a o a=some o:=by unfold upd;rw[if_pos rfl]
theorem az {H:Hp} {a b:Addr} {o:HO} (h:b≠a):upd H a o b=H b:=by unfold upd;rw[if_neg h]
theorem JD {H:Hp} {a b:Addr} {o u:HO} (h:H a=some o) (h':H b=some u) (d:o≠u):a≠b:=by
 intro e;subst e;rw[h]at h';exact d (TZ h')
theorem aq {H:Hp} {a b:Addr} {o:HO} (h:H a=some o) (h':H b=none):a≠b:=by
 intro e;subst e;rw[h]at h';cases h'
section
variable (P:Program) (w:World)
def cw (H:Hp) (h:Heap) (a:Addr):HO->Prop
 | .lst xs=>xs.length<=sizeLine/\ ∃(aJ:List Value) (n:Nat),Vals xs aJ/\h.get? a=some { cls:= .type "list",data:= .seq aJ.toArray n }
 | .tup xs=>xs.length<=sizeLine/\ ∃aJ:List Value,Vals xs aJ/\IsTup h a aJ.toArray
 | .dK aI=>aI.length<=sizeLine/\(a==sysModules)=false/\ ∃vs,KV aI vs/\h.DictOf (b5 P w) a vs
 | .dT aI=>aI.length<=sizeLine/\(a==sysModules)=false/\ ∃xs:List (List Key×Addr×Value),
   Paired (fun (p:List Key×V) (q:List Key×Addr×Value)=>p.1=q.1/\H q.2.1=some (.tup (p.1.map kV))/\RelV p.2 q.2.2) aI xs/\
   ∃o es ep,h.get? a=some o/\o.ExactDict/\o.data= .dict es ep/\es.toList=xs.map (entryOfKey (tupleKind (b5 P w)))/\(xs.map (·.1)).Nodup
 | .set S n=>h.SetOf (intKind P w) a S n
 | .ins C dx fs=>H dx=some (.own a)/\fs.length<=1000/\dx≠a/\h.get? a=some (PySem.W.instObj C dx)/\
   ∃mA,h.Ns1 dx mA/\(∀f,jY (fs.lookup f) (mA f))/\PySem.Within mA (fs.map (·.1))
 | .own _=> ∃o,h.get? a=some o
 | .xd fs=> ∃mA,h.Ns1 a mA/\ ∀f,jY (fs.lookup f) (mA f)
 | .M7 lo hi=> ∃t u v,h.get? a=some { cls:= .type "range",data:= .fields #[.int lo t, .int hi u, .int 1 v] }
 | .Cg o u=>h.get? a=some o/\cw H h a u
 | .Fh ps=>h.get? a=some { cls:= .none,data:= .fields ps }
 | .met f x=>h.get? a=some (PySem.W.methodObj (.ref f) (.ref x))
 | .ext φ=>φ h/\(∃o,h.get? a=some o)/\ ∀h1 h2:Heap,φ h1->(∀o,h1.get? a=some o->h2.get? a=some o)->φ h2
def iY (H:Hp) (h:Heap):Prop:= ∀a o,H a=some o->cw P w H h a o
end
section
variable {P:Program} {w:World} {H H':Hp} {h h':Heap} {a:Addr} {o:HO}
theorem cw.lt (x:cw P w H h a o):a<h.objs.size:=by
 cases o with
 | lst xs=>obtain ⟨_,_,_,_,e⟩:=x;exact To e
 | tup xs=>obtain ⟨_,_,_,p⟩:=x;exact p.lt
 | dK aI=>obtain ⟨_,_,_,_,o,_,_,e,_⟩:=x;exact To e
 | dT aI=>obtain ⟨_,_,_,_,o,_,_,e,_⟩:=x;exact To e
 | set S n=>obtain ⟨o,_,_,_,e,_⟩:=x;exact To e
 | ins C dx fs=>obtain ⟨_,_,_,e,_⟩:=x;exact To e
 | own y=>obtain ⟨_,e⟩:=x;exact To e
 | xd fs=>obtain ⟨_,⟨_,_,_,e,_⟩,_⟩:=x;exact To e
 | M7 lo hi=>obtain ⟨_,_,_,e⟩:=x;exact To e
 | Cg ob u=>obtain ⟨e,_⟩:=x;exact To e
 | Fh ps=>exact To (show h.get? a=some _ from x)
 | met f y=>exact To (show h.get? a=some _ from x)
 | ext φ=>obtain ⟨_,⟨_,e⟩,_⟩:=x;exact To e
theorem Paired.Fi {α β:Type} {F G:α->β->Prop}: ∀{l₁:List α} {l₂:List β},Paired F l₁ l₂->(∀a b,F a b->G a b)->Paired G l₁ l₂
 | _,_, .nil,_=> .nil
 | _,_, .cons r t,f=> .cons (f _ _ r) (Paired.Fi t f)
theorem cw.rT (x:cw P w H h a o) (k: ∀b u,(b=a\/H b=some (.own a))->h.get? b=some u->h'.get? b=some u)
  (ho: ∀b,H b=some (.own a)->H' b=some (.own a)) (ht: ∀b xs,H b=some (.tup xs)->H' b=some (.tup xs)):cw P w H' h' a o:=by
 induction o with
 | lst xs=>obtain ⟨z,aJ,n,r,e⟩:=x;exact ⟨z,aJ,n,r,k _ _ (.inl rfl) e⟩
 | tup xs=>obtain ⟨z,aJ,r,ob,e,c⟩:=x;exact ⟨z,aJ,r,ob,k _ _ (.inl rfl) e,c⟩
 | dK aI=>obtain ⟨z,y,vs,r,ob,es,ep,e,c⟩:=x;exact ⟨z,y,vs,r,ob,es,ep,k _ _ (.inl rfl) e,c⟩
 | dT aI=>
  obtain ⟨z,y,xs,r,ob,es,ep,e,c⟩:=x
  exact ⟨z,y,xs,Paired.Fi r fun p q z=>⟨z.1,ht _ _ z.2.1,z.2.2⟩,ob,es,ep,k _ _ (.inl rfl) e,c⟩
 | set S n=>obtain ⟨ob,es,ep,t,e,c⟩:=x;exact ⟨ob,es,ep,t,k _ _ (.inl rfl) e,c⟩
 | ins C dx fs=>
  obtain ⟨d,z,ne,e,mA,⟨od,es,ep,e2,c⟩,r⟩:=x
  exact ⟨ho _ d,z,ne,k _ _ (.inl rfl) e,mA,⟨od,es,ep,k _ _ (.inr d) e2,c⟩,r⟩
 | own y=>obtain ⟨ob,e⟩:=x;exact ⟨ob,k _ _ (.inl rfl) e⟩
 | xd fs=>obtain ⟨mA,⟨od,es,ep,e,c⟩,r⟩:=x;exact ⟨mA,⟨od,es,ep,k _ _ (.inl rfl) e,c⟩,r⟩
 | M7 lo hi=>obtain ⟨t,u,v,e⟩:=x;exact ⟨t,u,v,k _ _ (.inl rfl) e⟩
 | Cg ob u ih=>obtain ⟨e,q⟩:=x;exact ⟨k _ _ (.inl rfl) e,ih q⟩
 | Fh ps=>
  have e:h.get? a=some { cls:= .none,data:= .fields ps }:=x
  show h'.get? a=some { cls:= .none,data:= .fields ps }
  exact k a _ (.inl rfl) e
 | met f y=>
  have e:h.get? a=some (PySem.W.methodObj (.ref f) (.ref y)):=x
  show h'.get? a=some (PySem.W.methodObj (.ref f) (.ref y))
  exact k a _ (.inl rfl) e
 | ext φ=>obtain ⟨p,⟨o,e⟩,st⟩:=x;exact ⟨st _ _ p fun o q=>k _ _ (.inl rfl) q,⟨o,k _ _ (.inl rfl) e⟩,st⟩
theorem iY.lt (x:iY P w H h) (e:H a=some o):a<h.objs.size:=(x a o e).lt
theorem iY.fresh (x:iY P w H h) (e:h.objs.size<=a):H a=none:=by
 cases q:H a with
 | none=>rfl
 | some u=>exact absurd (T1 (x.lt q) e) (Ut _)
theorem iY.kept (x:iY P w H h) (k: ∀b u,h.get? b=some u->h'.get? b=some u):iY P w H h':=fun a o e=>
 (x a o e).rT (fun b u _ q=>k b u q) (fun _ q=>q) fun _ _ q=>q
theorem iY.laid (x:iY P w H h) (k: ∀b u,h.get? b=some u->h'.get? b=some u) (hp:h.objs.size<=a) (new:cw P w (upd H a o) h' a o):iY P w (upd H a o) h':=fun b u e=>by
 have hn:=x.fresh hp
 by_cases hb:b=a
 ·subst hb;rw[ah]at e;cases e;exact new
 ·rw[az hb]at e
  exact (x b u e).rT (fun c v _ q=>k c v q) (fun c q=>by rw[az (aq q hn)];exact q) fun c xs q=>by rw[az (aq q hn)];exact q
end
def Rd (H:Hp) (a:Addr) (u:HO):Prop:=H a=some u\/ ∃o,H a=some (.Cg o u)
theorem Rd.ok {P:Program} {w:World} {H:Hp} {h:Heap} {a:Addr} {u:HO} (r:Rd H a u) (x:iY P w H h):cw P w H h a u:=by
 rcases r with r | ⟨o,r⟩
 ·exact x a u r
 ·obtain ⟨_,q⟩:=x a _ r
  exact q
def JE:Option HO->Prop
 | some (.lst _)=>True
 | some (.dK _)=>True
 | some (.dT _)=>True
 | some (.set _ _)=>True
 | some (.ins _ _ _)=>True
 | some (.ext _)=>True
 | _=>False
section
variable {P:Program} {w:World} {H:Hp} {h h':Heap} {x e:Addr} {o':HO}
theorem iY.write (ok:iY P w H h) (mu:JE (H x)) (he:e=x\/H e=some (.own x)) (k: ∀b u,b≠e->h.get? b=some u->h'.get? b=some u) (HR: ∃u,h'.get? e=some u)
  (new:cw P w (upd H x o') h' x o'):iY P w (upd H x o') h':=fun b u q=>by
 have JF: ∀c y,H c=some (.own y)->c≠x:=fun c y r z=>by subst z;rw[r]at mu;exact mu
 have M8: ∀c xs,H c=some (.tup xs)->c≠x:=fun c xs r z=>by subst z;rw[r]at mu;exact mu
 by_cases hb:b=x
 ·subst hb;rw[ah]at q;cases q;exact new
 ·rw[az hb]at q
  by_cases Fj:b=e
  ·have q':H b=some (.own x):=by
    rcases he with z | z
    ·exact absurd (Fj.trans z) hb
    ·rw[Fj];exact z
   rw[q]at q';cases q'
   obtain ⟨v,hv⟩:=HR
   exact ⟨v,by rw[Fj];exact hv⟩
  ·refine (ok b u q).rT (fun c v hc r=>k c v ?_ r) (fun c r=>by rw[az (JF c b r)];exact r) fun c xs r=>by rw[az (M8 c xs r)];exact r
   rcases hc with rfl | hc
   ·exact Fj
   ·rintro rfl
    rcases he with z | z
    ·exact JF c b hc z
    ·rw[hc]at z;cases z;exact hb rfl
end
structure Un (fs ex:List Addr) (H H':Hp) (h h':Heap):Prop where
 keep: ∀b o,h.get? b=some o->H b=none->b∉fs->b∉ex->h'.get? b=some o
 slot: ∀b o,h.get? b=some o->H b=none->b∈fs->b∉ex-> ∃sl,h'.get? b=some { o with slots:=sl }
 free: ∀b o,h.get? b=some o->H b=none->b∉ex->H' b=none
 there: ∀b o,h.get? b=some o->b∉ex-> ∃o',h'.get? b=some o'
 nS: ∀b xs,H b=some (.tup xs)->H' b=some (.tup xs)
 mf: ∀b o u,H b=some (.Cg o u)->H' b=some (.Cg o u)
 p6: ∀b ps,H b=some (.Fh ps)-> ∃more,H' b=some (.Fh (ps++more))
section
variable {fs Qy ex Tc:List Addr} {H H1 H2:Hp} {h h1 h2 h':Heap} {a x e:Addr} {o:HO}
theorem Un.any (u:Un fs ex H H1 h h1) {b:Addr} {ob:Obj} (q:h.get? b=some ob) (n:H b=none) (hx:b∉ex): ∃sl,h1.get? b=some { ob with slots:=sl }:=by
 by_cases hb:b∈fs
 ·exact u.slot b ob q n hb hx
 ·exact ⟨ob.slots,u.keep b ob q n hb hx⟩
theorem Un.kept (k: ∀b u,h.get? b=some u->h'.get? b=some u):Un fs ex H H h h':=
 ⟨fun b ob q _ _ _=>k b ob q,fun b ob q _ _ _=>⟨ob.slots,k b ob q⟩,fun _ _ _ n _=>n,fun b ob q _=>⟨ob,k b ob q⟩,fun _ _ q=>q,fun _ _ _ q=>q,fun _ ps q=>⟨#[],by rw[q];simp⟩⟩
theorem Un.refl:Un fs ex H H h h:=Un.kept fun _ _ q=>q
theorem Un.laid (k: ∀b u,h.get? b=some u->h'.get? b=some u) (hp:h.objs.size<=a) (hn:H a=none):Un fs ex H (upd H a o) h h' where
 keep:=fun b u q _ _ _=>k b u q
 slot:=fun b u q _ _ _=>⟨u.slots,k b u q⟩
 free:=fun b u q n _=>by rw[az (TY (T1 (To q) hp))];exact n
 there:=fun b u q _=>⟨u,k b u q⟩
 nS:=fun b xs q=>by rw[az (aq q hn)];exact q
 mf:=fun b u xs q=>by rw[az (aq q hn)];exact q
 p6:=fun b ps q=>⟨#[],by rw[az (aq q hn),q];simp⟩
theorem Un.write (mu:JE (H x)) (he:e=x\/H e=some (.own x)) (k: ∀b u,b≠e->h.get? b=some u->h'.get? b=some u) (HR: ∃u,h'.get? e=some u):Un fs ex H (upd H x o) h h':=by
 have hx: ∀b,H b=none->b≠x:=fun b n z=>by subst z;rw[n]at mu;exact mu
 have hb: ∀b,H b=none->b≠e:=fun b n z=>by
  subst z
  rcases he with r | r
  ·exact hx b n r
  ·rw[n]at r;cases r
 have hm: ∀b u,H b=some u-> ¬JE (some u)->b≠x:=fun b u q nm z=>by subst z;rw[q]at mu;exact nm mu
 refine ⟨fun b u q n _ _=>k b u (hb b n) q,fun b u q n _ _=>⟨u.slots,k b u (hb b n) q⟩,fun b u q n _=>by rw[az (hx b n)];exact n,fun b u q _=>?_,
  fun b xs q=>by rw[az (hm b _ q fun z=>z)];exact q,fun b u xs q=>by rw[az (hm b _ q fun z=>z)];exact q,fun b ps q=>⟨#[],by rw[az (hm b _ q fun z=>z),q];simp⟩⟩
 by_cases Fj:b=e
 ·subst Fj;exact HR
 ·exact ⟨u,k b u Fj q⟩
end
noncomputable def L9 (h:Heap) (H:Hp):List Addr:=(List.range h.objs.size).filter fun a=>(H a).isSome
noncomputable def p7 (h:Heap) (H:Hp):Heap:=PySem.W.hideAll h (L9 h H)
theorem xV (h:Heap) (H:Hp):(p7 h H).objs.size=h.objs.size:=PySem.W.hideAll_size _ _
theorem zu {h:Heap} {H:Hp} {b:Addr} {o:Obj} (e:h.get? b=some o) (n:H b=none):(p7 h H).get? b=some o:=
 PySem.W.hideAll_get _ e fun hm=>by
  have q:(H b).isSome=true:=(Uq.mp hm).2
  rw[n]at q;simp at q
theorem CA {h:Heap} {H:Hp} {b:Addr} {o:Obj} (e:(p7 h H).get? b=some o):h.get? b=some o/\H b=none:=by
 have e':h.get? b=some o:=PySem.W.of_hideAll (L9 h H) e
 refine ⟨e',?_⟩
 cases q:H b with
 | none=>rfl
 | some x=>
  have hm:b∈L9 h H:=Uq.mpr ⟨Ux.mpr (To e'),by simp[q]⟩
  have z:(p7 h H).get? b=none:=PySem.W.hideAll_none (L9 h H) hm
  rw[z]at e;cases e
structure Mod (K:PySem.W.Frag) (mg:Str->Option Value) (base:Heap):Prop where
 HS:K.In base
 glob:base.Ns mainGlobals mg
 blt: ∃mb,base.Ns builtinsNs mb/\ ∀x:Str,x≠"__name__"->mb x=bootBuiltins x
 nolimit:base.NoLimit
structure Cx where
 prog:Program
 w:World
 K:PySem.W.Frag
 mg:Str->Option Value
 base:Heap
 A:Around
 N:List Str
 s₀:Shared
 H₀:Hp
 env:Env
 outer:List Env
 stack:List Env
 ex:List Addr
 fn:Str->Bool
 calm:Bool
 pn:List (Addr×Obj)
 xe:Value->Shared->Prop
noncomputable def wj (l:List Env):List Addr:=l.filterMap (·.frame)
noncomputable abbrev Cx.fs (X:Cx):List Addr:=wj X.outer
def JG (sc:Scope) (x:Str):Prop:=sc.names.lookup x=some .local\/sc.names.lookup x=some .cell\/sc.names.lookup x=some .free
def Loc (sc:Scope) (x:Str):Prop:=sc.names.lookup x=some .local\/sc.names.lookup x=some .cell
def Look (env:Env) (h:Heap) (m:Str->Option Value) (x:Str) (u:Value):Prop:=
 (env.kindOf x=some .local/\m x=some u)\/((env.kindOf x=some .cell\/env.kindOf x=some .free)/\ ∃c,env.cells.lookup x=some c/\h.IsCell c (some u))
structure Cx.Ok (X:Cx):Prop where
 mod:Mod X.K X.mg X.base
 kind:X.env.scope.kind= .function
 glob:X.env.globals=mainGlobals
 blt:X.env.builtins=builtinsNs
 above:X.s₀.heap.objs.size<=X.env.locals
 inj: ∀x y c,X.env.cells.lookup x=some c->X.env.cells.lookup y=some c->x=y
 has: ∀x,(X.env.kindOf x=some .cell\/X.env.kindOf x=some .free)-> ∃c,X.env.cells.lookup x=some c
 JH: ∀x c,X.fn x=true->X.env.cells.lookup x=some c->X.s₀.heap.objs.size<=c
 hd:X.calm=true->X.A.handled=none
 frames:X.A.frames=some X.stack
 L_:X.stack=X.outer\/(X.stack=X.env::X.outer/\X.env.frame=some X.env.locals)
 O1: ∀b∈X.ex,b≠X.env.locals/\ ∀x c,X.env.cells.lookup x=some c->c≠b
 bs: ∀b o,X.base.get? b=some o->X.s₀.heap.get? b=some o/\X.H₀ b=none
 CB:X.base.objs.size<=X.s₀.heap.objs.size
 zw: ∀b o,X.base.get? b=some o->b∉X.ex
 CC: ∀b∈X.ex,b∉X.fs
 kX:X.s₀.heap.FunFrames X.base X.outer
 Fl: ∀b∈X.fs,X.H₀ b=none
structure Inv (X:Cx) (pins:List (Addr×Obj)) (σ:List (Option V)) (H:Hp) (s:Shared):Prop where
 ok:X.Ok
 os:s.os=X.s₀.os
 bare:AllBare s.gens
 base:Un X.fs X.ex X.H₀ H X.s₀.heap s.heap
 loc: ∃m,s.heap.Ns X.env.locals m/\ ∀(i:Nat) (x:Str) (v:V),X.N[i]? =some x->σ[i]? =some (some v)->JG X.env.scope x-> ∃u,RelV v u/\Look X.env s.heap m x u
 cell: ∀x c,X.env.cells.lookup x=some c-> ∃v,s.heap.IsCell c v
 free:H X.env.locals=none
 gM: ∀x c,X.env.cells.lookup x=some c->H c=none
 pin: ∀p∈X.pn++pins,s.heap.get? p.1=some p.2/\H p.1=none/\p.1≠X.env.locals/\p.1∉X.fs/\ ∀v,p.2.data≠ .cell v
 bR:iY X.prog X.w H s.heap
 len:σ.length=X.N.length
section
variable {X:Cx} {pins:List (Addr×Obj)} {σ:List (Option V)} {H H':Hp} {s:Shared} {h':Heap}
theorem Cx.Ok.M9 (ok:X.Ok) {b:Addr} {o:Obj} (e:X.base.get? b=some o):b∉X.fs:=fun hb=>by
 have:=(ok.kX.mem hb).1
 rw[e]at this;cases this
theorem Inv.bs (I:Inv X pins σ H s): ∀b o,X.base.get? b=some o->s.heap.get? b=some o/\H b=none:=fun b o e=>
 ⟨I.base.keep b o (I.ok.bs b o e).1 (I.ok.bs b o e).2 (I.ok.M9 e) (I.ok.zw b o e),I.base.free b o (I.ok.bs b o e).1 (I.ok.bs b o e).2 (I.ok.zw b o e)⟩
theorem Inv.bk (I:Inv X pins σ H s): ∀b o,X.base.get? b=some o->s.heap.get? b=some o:=fun b o e=>(I.bs b o e).1
theorem Inv.mod (I:Inv X pins σ H s):Mod X.K X.mg X.base:=I.ok.mod
theorem Inv.xW (I:Inv X pins σ H s):X.K.In s.heap:=I.ok.mod.HS.keeps I.bk
theorem Inv.lt (I:Inv X pins σ H s):X.env.locals<s.heap.objs.size:=let ⟨_,hn,_⟩:=I.loc;hn.lt
theorem Inv.sz (I:Inv X pins σ H s):X.s₀.heap.objs.size<=s.heap.objs.size:=Ug I.ok.above (Um I.lt)
theorem Inv.Fm (I:Inv X pins σ H s) {a:Addr} (h:s.heap.objs.size<=a):a∉X.fs:=fun hb=>by
 obtain ⟨_,o,ho,_⟩:=I.ok.kX.mem hb
 exact absurd (T1 (To ho) (Ug I.sz h)) (Ut _)
theorem Inv.Fn (I:Inv X pins σ H s): ∀x c,X.env.cells.lookup x=some c->c≠X.env.locals:=fun x c e z=>by
 obtain ⟨v,o,ho,hd⟩:=I.cell x c e
 obtain ⟨m,⟨o',es,ep,CD,M_,_⟩,_⟩:=I.loc
 rw[z,CD]at ho;cases ho;rw[M_]at hd;cases hd
theorem Inv.kX (I:Inv X pins σ H s):s.heap.FunFrames X.base X.outer:=by
 have all: ∀(l:List Env),(∀b∈wj l,b∈X.fs)->X.s₀.heap.FunFrames X.base l->s.heap.FunFrames X.base l:=by
  intro l
  induction l with
  | nil=>intro _ _;trivial
  | cons env r ih=>
   intro hs hl
   obtain ⟨hk,⟨L,o,hf,hn,ho,hd⟩,hr⟩:=hl
   have hL:L∈X.fs:=hs L (by unfold wj;rw[Wo,hf];exact TR)
   obtain ⟨sl,e⟩:=I.base.slot L o ho (I.ok.Fl L hL) hL fun z=>I.ok.CC L z hL
   exact ⟨hk,⟨L,_,hf,hn,e,hd⟩,ih (fun b hb=>hs b (by unfold wj;rw[Wo,hf];exact Tj _ hb)) hr⟩
 exact all X.outer (fun _ hb=>hb) I.ok.kX
theorem Inv.stack (I:Inv X pins σ H s):s.heap.FunFrames X.base X.stack:=by
 rcases I.ok.L_ with e | ⟨e,hf⟩
 ·rw[e];exact I.kX
 ·rw[e]
  obtain ⟨m,hn,_⟩:=I.loc
  refine .cons (by rw[I.ok.kind];decide) hf hn ?_ I.kX
  exact Heap.get?_none_of_le (Ug I.ok.CB I.ok.above)
theorem Inv.mh (I:Inv X pins σ H s): ∀b∈wj X.stack,b∈X.env.locals::X.fs:=fun b hb=>by
 rcases I.ok.L_ with e | ⟨e,hf⟩
 ·rw[e]at hb;exact Tj _ hb
 ·rw[e]at hb
  unfold wj at hb
  rw[Wo,hf]at hb
  exact hb
theorem Inv.wm (I:Inv X pins σ H s): ∀b∈wj X.stack,H b=none:=fun b hb=>by
 rcases QS.mp (I.mh b hb) with e | hb
 ·rw[e];exact I.free
 ·obtain ⟨_,o,ho,_⟩:=I.ok.kX.mem hb
  exact I.base.free b o ho (I.ok.Fl b hb) fun z=>I.ok.CC b z hb
theorem Inv.step {g':Array GenState} {t':Nat} {d':Drawn} {ch:List Addr} (I:Inv X pins σ H s)
  (Ci: ∀b∈ch,(b∈X.ex\/X.s₀.heap.objs.size<=b)/\b≠X.env.locals/\(∀x c,X.env.cells.lookup x=some c->c≠b)/\ ∀p∈X.pn++pins,p.1≠b)
  (keep: ∀b o,b≠X.env.locals->b∉X.fs->b∉ch->s.heap.get? b=some o->H b=none->h'.get? b=some o)
  (slot: ∀b o,b≠X.env.locals->b∈X.fs->b∉ch->s.heap.get? b=some o->H b=none-> ∃sl,h'.get? b=some { o with slots:=sl }) (free: ∀b o,b∉ch->s.heap.get? b=some o->H b=none->H' b=none)
  (there: ∀b o,b∉ch->s.heap.get? b=some o-> ∃o',h'.get? b=some o')
  (nS: ∀b xs,H b=some (.tup xs)->H' b=some (.tup xs)) (mf: ∀b o u,H b=some (.Cg o u)->H' b=some (.Cg o u)) (p6: ∀b ps,H b=some (.Fh ps)-> ∃more,H' b=some (.Fh (ps++more)))
  (ns: ∀m,s.heap.Ns X.env.locals m->h'.Ns X.env.locals m) (bR:iY X.prog X.w H' h') (hg:AllBare g'):
  Inv X pins σ H' { s with heap:=h',gens:=g',drawn:=d',toks:=t' }:=by
 have O2: ∀b o,X.s₀.heap.get? b=some o->b≠X.env.locals:=fun b o e=>TY (T1 (To e) I.ok.above)
 have Fo: ∀b o,X.s₀.heap.get? b=some o->b∉X.ex->b∉ch:=fun b o e hx hb=>by
  rcases (Ci b hb).1 with z | z
  ·exact hx z
  ·exact absurd (T1 (To e) z) (Ut _)
 have cellK: ∀x c,X.env.cells.lookup x=some c-> ∀v,s.heap.IsCell c v->h'.IsCell c v:=fun x c e v ⟨o,ho,hd⟩=>by
  have JI:c∉ch:=fun z=>(Ci c z).2.2.1 x c e rfl
  by_cases hc:c∈X.fs
  ·obtain ⟨sl,q⟩:=slot c o (I.Fn x c e) hc JI ho (I.gM x c e)
   exact ⟨_,q,hd⟩
  ·exact ⟨o,keep c o (I.Fn x c e) hc JI ho (I.gM x c e),hd⟩
 refine ⟨I.ok,I.os,hg,⟨fun b o e n hb hx=>?_,fun b o e n hb hx=>?_,fun b o e n hx=>?_,fun b o e hx=>?_,fun b xs e=>nS b xs (I.base.nS b xs e),fun b o xs e=>mf b o xs (I.base.mf b o xs e),fun b ps e=>?_⟩,?_,fun x c e=>?_,?_,fun x c e=>?_,fun p hp=>?_,bR,I.len⟩
 ·exact keep b o (O2 b o e) hb (Fo b o e hx) (I.base.keep b o e n hb hx) (I.base.free b o e n hx)
 ·obtain ⟨sl,e1⟩:=I.base.slot b o e n hb hx
  obtain ⟨Qz,e2⟩:=slot b _ (O2 b o e) hb (Fo b o e hx) e1 (I.base.free b o e n hx)
  exact ⟨Qz,e2⟩
 ·obtain ⟨o',e1⟩:=I.base.there b o e hx
  exact free b o' (Fo b o e hx) e1 (I.base.free b o e n hx)
 ·obtain ⟨o',e1⟩:=I.base.there b o e hx
  exact there b o' (Fo b o e hx) e1
 ·obtain ⟨m1,e1⟩:=I.base.p6 b ps e
  obtain ⟨m2,e2⟩:=p6 b _ e1
  exact ⟨m1++m2,by rw[e2,Array.append_assoc]⟩
 ·obtain ⟨m,hn,hl⟩:=I.loc
  refine ⟨m,ns m hn,fun i x v e1 e2 e3=>?_⟩
  obtain ⟨u,r,l⟩:=hl i x v e1 e2 e3
  refine ⟨u,r,?_⟩
  rcases l with l | ⟨k,c,e,z⟩
  ·exact .inl l
  ·exact .inr ⟨k,c,e,cellK x c e _ z⟩
 ·obtain ⟨v,z⟩:=I.cell x c e
  exact ⟨v,cellK x c e v z⟩
 ·obtain ⟨m,⟨o,_,_,ho,_⟩,_⟩:=I.loc
  exact free _ o (fun z=>(Ci _ z).2.1 rfl) ho I.free
 ·obtain ⟨v,o,ho,hd⟩:=I.cell x c e
  exact free c o (fun z=>(Ci c z).2.2.1 x c e rfl) ho (I.gM x c e)
 ·obtain ⟨e,n,ne,nf,d⟩:=I.pin p hp
  have JI:p.1∉ch:=fun z=>(Ci p.1 z).2.2.2 p hp rfl
  exact ⟨keep p.1 p.2 ne nf JI e n,free p.1 p.2 JI e n,ne,nf,d⟩
theorem Inv.un {t':Nat} (I:Inv X pins σ H s) (u:Un X.fs [] H H' s.heap h') (bR:iY X.prog X.w H' h'):Inv X pins σ H' { s with heap:=h',toks:=t' }:=by
 obtain ⟨m,⟨o,es,ep,ho,r⟩,_⟩:=id I.loc
 obtain ⟨sl,hL⟩:=u.any ho I.free (by simp)
 exact I.step (g':=s.gens) (d':=s.drawn) (ch:=[]) (fun _ z=>nomatch z) (fun b o _ hb _ e n=>u.keep b o e n hb (by simp)) (fun b o _ hb _ e n=>u.slot b o e n hb (by simp)) (fun b o _ e n=>u.free b o e n (by simp)) (fun b o _ e=>u.there b o e (by simp)) u.nS u.mf u.p6 (fun m' hm=>by
  obtain ⟨o',Na,JJ,CD,r'⟩:=hm
  rw[ho]at CD;cases CD
  exact ⟨_,Na,JJ,hL,r'⟩) bR I.bare
theorem Inv.call {g':Array GenState} {t':Nat} {d':Drawn} {ch:List Addr} (I:Inv X pins σ H s) (u:Un (wj X.stack) ch H H' s.heap h') (bR:iY X.prog X.w H' h') (hg:AllBare g')
  (Ci: ∀b∈ch,(b∈X.ex\/X.s₀.heap.objs.size<=b)/\b≠X.env.locals/\(∀x c,X.env.cells.lookup x=some c->c≠b)/\ ∀p∈X.pn++pins,p.1≠b):
  Inv X pins σ H' { s with heap:=h',gens:=g',drawn:=d',toks:=t' }:=by
 obtain ⟨m,⟨o,es,ep,ho,r⟩,_⟩:=id I.loc
 obtain ⟨sl,hL⟩:=u.any ho I.free fun z=>(Ci _ z).2.1 rfl
 exact I.step (ch:=ch) Ci (fun b o hL hb hc e n=>u.keep b o e n (fun z=>(QS.mp (I.mh b z)).elim hL hb) hc) (fun b o _ _ hc e n=>u.any e n hc) (fun b o hc e n=>u.free b o e n hc) (fun b o hc e=>u.there b o e hc) u.nS u.mf u.p6 (fun m' hm=>by
  obtain ⟨o',Na,JJ,CD,r'⟩:=hm
  rw[ho]at CD;cases CD
  exact ⟨_,Na,JJ,hL,r'⟩) bR hg
theorem Inv.turned {t':Nat} {it:Addr} (I:Inv X pins σ H s) (k: ∀b o,b≠it->s.heap.get? b=some o->h'.get? b=some o) (hn:H it=none) (hL:it≠X.env.locals)
  (h1:it∈X.ex\/X.s₀.heap.objs.size<=it) (h2: ∀x c,X.env.cells.lookup x=some c->c≠it) (h3: ∀p∈X.pn++pins,p.1≠it):Inv X pins σ H { s with heap:=h',toks:=t' }:=by
 have Ew: ∀b u,H b=some u->b≠it:=fun b u e z=>by rw[z,hn]at e;cases e
 refine I.step (g':=s.gens) (d':=s.drawn) (ch:=[it]) (fun b hb=>?_) (fun b o _ _ hc e _=>k b o (fun z=>hc (by simp[z])) e) (fun b o _ _ hc e _=>⟨o.slots,k b o (fun z=>hc (by simp[z])) e⟩) (fun _ _ _ _ n=>n)
  (fun b o hc e=>⟨o,k b o (fun z=>hc (by simp[z])) e⟩) (fun _ _ e=>e) (fun _ _ _ e=>e) (fun b ps e=>⟨#[],by rw[e];simp⟩) (fun m hm=>?_) (fun b u e=>?_) I.bare
 ·have e:b=it:=by simpa using hb
  subst e
  exact ⟨h1,hL,h2,h3⟩
 ·obtain ⟨o,es,ep,ho,r⟩:=hm
  exact ⟨o,es,ep,k _ o (Ne.symm hL) ho,r⟩
 ·refine (I.bR b u e).rT (fun c v hc q=>k c v ?_ q) (fun _ q=>q) fun _ _ q=>q
  rcases hc with z | z
  ·rw[z];exact Ew b u e
  ·exact Ew c _ z
theorem Inv.tok (I:Inv X pins σ H s) (t:Nat):Inv X pins σ H { s with toks:=t }:=I.un (h':=s.heap) (t':=t) Un.refl I.bR
theorem Inv.kept {t':Nat} (I:Inv X pins σ H s) (k: ∀b u,s.heap.get? b=some u->h'.get? b=some u):Inv X pins σ H { s with heap:=h',toks:=t' }:=I.un (Un.kept k) (I.bR.kept k)
theorem Inv.laid {a:Addr} {o:HO} {t':Nat} (I:Inv X pins σ H s) (k: ∀b u,s.heap.get? b=some u->h'.get? b=some u) (hp:s.heap.objs.size<=a) (new:cw X.prog X.w (upd H a o) h' a o):
  Inv X pins σ (upd H a o) { s with heap:=h',toks:=t' }:=I.un (Un.laid k hp (I.bR.fresh hp)) (I.bR.laid k hp new)
theorem Inv.write {x e:Addr} {o:HO} {t':Nat} (I:Inv X pins σ H s) (mu:JE (H x)) (he:e=x\/H e=some (.own x)) (k: ∀b u,b≠e->s.heap.get? b=some u->h'.get? b=some u) (HR: ∃u,h'.get? e=some u)
  (new:cw X.prog X.w (upd H x o) h' x o):Inv X pins σ (upd H x o) { s with heap:=h',toks:=t' }:=I.un (Un.write mu he k HR) (I.bR.write mu he k HR new)
theorem Inv.weak {σ':List (Option V)} (I:Inv X pins σ H s) (hl:σ'.length=σ.length) (w: ∀(i:Nat) v,σ'[i]? =some (some v)->σ[i]? =some (some v)):Inv X pins σ' H s:=
 ⟨I.ok,I.os,I.bare,I.base,let ⟨m,hn,wo⟩:=I.loc;⟨m,hn,fun i x v e1 e2 e3=>wo i x v e1 (w i v e2) e3⟩,I.cell,I.free,I.gM,I.pin,I.bR,hl.trans I.len⟩
theorem Inv.jj {wq:List (Addr×Obj)} (I:Inv X pins σ H s) (h: ∀p∈wq,s.heap.get? p.1=some p.2/\H p.1=none/\p.1≠X.env.locals/\p.1∉X.fs/\ ∀v,p.2.data≠ .cell v):Inv X wq σ H s:=
 ⟨I.ok,I.os,I.bare,I.base,I.loc,I.cell,I.free,I.gM,fun p hp=>(T9.mp hp).elim (fun z=>I.pin p (Vj _ z)) (h p),I.bR,I.len⟩
theorem rV {N:List Str} (hN:N.Nodup) {i j:Nat} {x:Str} (a:N[i]? =some x) (b:N[j]? =some x):i=j:=by
 obtain ⟨h1,e1⟩:=FX.mp a
 obtain ⟨h2,e2⟩:=FX.mp b
 exact (List.getElem_inj hN).mp (e1.trans e2.symm)
theorem xX {M:Model} {A:Around} {E:Value->Shared->Prop} {i:Nat} {x:Str} {v:V} {u:Value} {Q:Unit->Shared->Prop} (I:Inv X pins σ H s) (hN:X.N.Nodup) (hi:X.N[i]? =some x) (hx:Loc X.env.scope x) (r:RelV v u)
  (h: ∀s',Inv X pins (σ.set i (some v)) H s'->(∃a,Heap.SameBut a s.heap s'.heap/\(a=X.env.locals\/X.env.cells.lookup x=some a))->Q () s') (hf:X.fn x=true\/X.env.scope.names.lookup x=some .local:=by first | exact .inl rfl | exact .inr rfl | assumption):wpAny M A (storeName X.env x u) Q E s:=by
 obtain ⟨m,hn,hl⟩:=id I.loc
 have Nb:(X.env.scope.kind== .class||(X.env.scope.kind== .module&&X.env.locals != X.env.globals))=false:=by rw[I.ok.kind];rfl
 have O3:i<σ.length:=by rw[I.len];exact (FX.mp hi).1
 have Fn:=I.Fn
 have tracked: ∀{a:Addr} {h':Heap},(∃o,s.heap.get? a=some o/\H a=none)->Heap.SameBut a s.heap h'->iY X.prog X.w H h':=fun {a h'} ha hs b ob e=>by
  obtain ⟨_,_,Ex⟩:=ha
  refine (I.bR b ob e).rT (fun c w' hc q=>(hs.2 c ?_).trans q) (fun _ q=>q) fun _ _ q=>q
  rintro rfl
  rcases hc with rfl | hc
  ·rw[Ex]at e;cases e
  ·rw[Ex]at hc;cases hc
 rcases hx with hk | hk
 ·refine wpAny_storeName_local hk hn (fun h' Ma hs=>?_) Nb
  obtain ⟨oL,_,_,JK,_⟩:=id hn
  refine h _ ⟨I.ok,I.os,I.bare,⟨fun b o e n hb hx=>?_,fun b o e n hb hx=>?_,I.base.free,fun b o e hx=>?_,I.base.nS,I.base.mf,I.base.p6⟩,⟨_,Ma,fun j y v' e1 e2 e3=>?_⟩,fun y c e=>?_,I.free,I.gM,fun p hp=>?_,tracked ⟨oL,JK,I.free⟩ hs,by simpa using I.len⟩ ⟨_,hs, .inl rfl⟩
  ·exact (hs.2 b (TY (T1 (To e) I.ok.above))).trans (I.base.keep b o e n hb hx)
  ·obtain ⟨sl,e1⟩:=I.base.slot b o e n hb hx
   exact ⟨sl,(hs.2 b (TY (T1 (To e) I.ok.above))).trans e1⟩
  ·obtain ⟨o',e1⟩:=I.base.there b o e hx
   exact ⟨o',(hs.2 b (TY (T1 (To e) I.ok.above))).trans e1⟩
  ·by_cases hj:j=i
   ·subst hj
    rw[hi]at e1;cases e1
    rw[List.getElem?_set_self O3]at e2
    cases e2
    exact ⟨u,r, .inl ⟨hk,by simp⟩⟩
   ·rw[List.getElem?_set_ne (Ne.symm hj)]at e2
    obtain ⟨u',r',q⟩:=hl j y v' e1 e2 e3
    refine ⟨u',r',?_⟩
    rcases q with ⟨k,e⟩ | ⟨k,c,e,z⟩
    ·refine .inl ⟨k,?_⟩
     have:y≠x:=fun e=>hj (rV hN e1 (e▸hi))
     simp[this,e]
    ·exact .inr ⟨k,c,e,z.sameBut hs (Fn y c e)⟩
  ·obtain ⟨w',z⟩:=I.cell y c e
   exact ⟨w',z.sameBut hs (Fn y c e)⟩
  ·obtain ⟨e,n,ne,nf,d⟩:=I.pin p hp
   exact ⟨(hs.2 p.1 ne).trans e,n,ne,nf,d⟩
 ·have Nd:X.fn x=true:=by
   rcases hf with z | z
   ·exact z
   ·rw[z]at hk;cases hk
  obtain ⟨c,hc⟩:=I.ok.has x (.inl hk)
  obtain ⟨w',z⟩:=I.cell x c hc
  refine wpAny_storeName_cell I.ok.kind hk hc z (fun h' rK hs=>?_)
  obtain ⟨oc,O4,Nf⟩:=id z
  refine h { s with heap:=h' } ⟨I.ok,I.os,I.bare,⟨fun b o e n hb hx=>?_,fun b o e n hb hx=>?_,I.base.free,fun b o e hx=>?_,I.base.nS,I.base.mf,I.base.p6⟩,⟨m,hn.sameBut hs (Ne.symm (Fn x c hc)),fun j y v' e1 e2 e3=>?_⟩,fun y c' e=>?_,I.free,I.gM,fun p hp=>?_,tracked ⟨oc,O4,I.gM x c hc⟩ hs,by simpa using I.len⟩ ⟨c,hs, .inr hc⟩
  ·exact (hs.2 b (TY (T1 (To e) (I.ok.JH x c Nd hc)))).trans (I.base.keep b o e n hb hx)
  ·obtain ⟨sl,e1⟩:=I.base.slot b o e n hb hx
   exact ⟨sl,(hs.2 b (TY (T1 (To e) (I.ok.JH x c Nd hc)))).trans e1⟩
  ·obtain ⟨o',e1⟩:=I.base.there b o e hx
   exact ⟨o',(hs.2 b (TY (T1 (To e) (I.ok.JH x c Nd hc)))).trans e1⟩
  ·by_cases hj:j=i
   ·subst hj
    rw[hi]at e1;cases e1
    rw[List.getElem?_set_self O3]at e2
    cases e2
    exact ⟨u,r, .inr ⟨.inl hk,c,hc,rK⟩⟩
   ·rw[List.getElem?_set_ne (Ne.symm hj)]at e2
    obtain ⟨u',r',q⟩:=hl j y v' e1 e2 e3
    refine ⟨u',r',?_⟩
    rcases q with q | ⟨k,c',e,z'⟩
    ·exact .inl q
    ·refine .inr ⟨k,c',e,z'.sameBut hs ?_⟩
     rintro rfl
     exact hj (rV hN e1 (I.ok.inj _ _ _ e hc▸hi))
  ·by_cases HU:c'=c
   ·subst HU;exact ⟨_,rK⟩
   ·obtain ⟨w2,z2⟩:=I.cell y c' e
    exact ⟨w2,z2.sameBut hs HU⟩
  ·obtain ⟨e,n,ne,nf,d⟩:=I.pin p hp
   refine ⟨(hs.2 p.1 ?_).trans e,n,ne,nf,d⟩
   intro q
   rw[q,O4]at e
   have q':oc=p.2:=TZ e
   exact d w' (by rw[<-q'];exact Nf)
theorem gN {M:Model} {A:Around} {E:Value->Shared->Prop} {i:Nat} {x:Str} {v:V} {u:Value} {Q:Unit->Shared->Prop} (I:Inv X pins σ H s) (hN:X.N.Nodup) (hi:X.N[i]? =some x) (hx:Loc X.env.scope x) (r:RelV v u)
  (h: ∀s',Inv X pins (σ.set i (some v)) H s'->Q () s') (hf:X.fn x=true\/X.env.scope.names.lookup x=some .local:=by first | exact .inl rfl | exact .inr rfl | assumption):wpAny M A (storeName X.env x u) Q E s:=
 xX I hN hi hx r (fun s' I' _=>h s' I') hf
theorem Inv.JL {s':Shared} {ch:List Addr} (I:Inv X pins σ H s) (ho:s'.os=s.os) (u:Un (wj X.stack) ch H H' s.heap s'.heap) (bR:iY X.prog X.w H' s'.heap) (hg:AllBare s'.gens)
  (Ci: ∀b∈ch,(b∈X.ex\/X.s₀.heap.objs.size<=b)/\b≠X.env.locals/\(∀x c,X.env.cells.lookup x=some c->c≠b)/\ ∀p∈X.pn++pins,p.1≠b):Inv X pins σ H' s':=by
 obtain ⟨h',g',d',t',o'⟩:=s'
 have e:o'=s.os:=ho
 subst e
 exact I.call (g':=g') (t':=t') (d':=d') u bR hg Ci
end
abbrev XK:=Value->Option Addr->Hp->Prop
abbrev St:=List (Option V)
abbrev VK:=V->Hp->Prop
abbrev TE:=St->Hp->VK->Prop
abbrev TT:=St->Hp->(Bool->Hp->Prop)->Prop
abbrev TA:=St->Hp->(List V->Hp->Prop)->Prop
structure Ends where
 nx:St->Hp->Prop
 rt:VK
 bk:St->Hp->Prop:=fun _ _=>False
 ct:St->Hp->Prop:=fun _ _=>False
abbrev TS:=Ends->St->Hp->Prop
def EP (X:Cx) (pins:List (Addr×Obj)) (σ:St) (Q:VK) (u:Value) (s':Shared):Prop:= ∃v H',Inv X pins σ H' s'/\RelV v u/\Q v H'
def TP (X:Cx) (pins:List (Addr×Obj)) (σ:St) (Q:Bool->Hp->Prop) (b:Bool) (s':Shared):Prop:= ∃H',Inv X pins σ H' s'/\Q b H'
def AP (X:Cx) (pins:List (Addr×Obj)) (σ:St) (Q:List V->Hp->Prop) (us:List Value) (s':Shared):Prop:= ∃vs H',Inv X pins σ H' s'/\Vals vs us/\Q vs H'
def SP (X:Cx) (pins:List (Addr×Obj)) (D:Ends) (f:Flow) (s':Shared):Prop:=
 match f with
 | .next=> ∃σ' H',Inv X pins σ' H' s'/\D.nx σ' H'
 | .brk=> ∃σ' H',Inv X pins σ' H' s'/\D.bk σ' H'
 | .cont=> ∃σ' H',Inv X pins σ' H' s'/\D.ct σ' H'
 | .ret u=> ∃v σ' H',Inv X pins σ' H' s'/\RelV v u/\D.rt v H'
def PE (X:Cx) (e:Expr) (t:TE):Prop:=
 ∀(pins:List (Addr×Obj)) (s:Shared) (σ:St) (H:Hp) (Q:VK),Inv X pins σ H s->t σ H Q->wpAny (model X.prog X.w) X.A (eval e X.env) (EP X pins σ Q) X.xe s
def PT (X:Cx) (e:Expr) (t:TT):Prop:=
 ∀(pins:List (Addr×Obj)) (s:Shared) (σ:St) (H:Hp) (Q:Bool->Hp->Prop),Inv X pins σ H s->t σ H Q->wpAny (model X.prog X.w) X.A (isTrue e X.env (eval e X.env)) (TP X pins σ Q) X.xe s
def PW (X:Cx) (e:Expr) (t:TT):Prop:=
 ∀(whole:Sem Value) (pins:List (Addr×Obj)) (s:Shared) (σ:St) (H:Hp) (Q:Bool->Hp->Prop),Inv X pins σ H s->t σ H Q->wpAny (model X.prog X.w) X.A (isTrue e X.env whole) (TP X pins σ Q) X.xe s
theorem PW.pt {X:Cx} {e:Expr} {t:TT} (h:PW X e t):PT X e t:=h _
def PA (X:Cx) (es:List Expr) (t:TA):Prop:=
 ∀(pos:Pos) (pins:List (Addr×Obj)) (s:Shared) (σ:St) (H:Hp) (Q:List V->Hp->Prop),Inv X pins σ H s->t σ H Q->wpAny (model X.prog X.w) X.A (spliced (backTo pos (starEach es X.env))) (AP X pins σ Q) X.xe s
def PS (X:Cx) (st:Stmt) (t:TS):Prop:=
 ∀(pins:List (Addr×Obj)) (s:Shared) (σ:St) (H:Hp) (D:Ends),Inv X pins σ H s->t D σ H->wpAny (model X.prog X.w) X.A (exec st X.env) (SP X pins D) X.xe s
def uu (X:Cx) (st:List Stmt) (t:TS):Prop:=
 ∀(pins:List (Addr×Obj)) (s:Shared) (σ:St) (H:Hp) (D:Ends),Inv X pins σ H s->t D σ H->wpAny (model X.prog X.w) X.A (execs st X.env) (SP X pins D) X.xe s
theorem bV {α:Type} {t:Sem α} {Q Q':α->Shared->Prop} {M:Model} {A:Around} {E:Value->Shared->Prop} {s:Shared} (h:wpAny M A t Q E s) (hQ: ∀a s,Q a s->Q' a s):wpAny M A t Q' E s:=wpAny_mono h hQ fun _ _ x=>x
section
variable {X:Cx}
def xY (i:Nat):TE:=fun σ H Q=> ∃v,σ[i]? =some (some v)/\Q v H
def tC (v:V):TE:=fun _ H Q=>Q v H
theorem Fp {i:Nat} {x:Str} {pos:Pos} (hN:X.N[i]? =some x) (hv:JG X.env.scope x) (hd:(x==("__debug__":Str))=false:=by decide) (kY:(x==("__classdict__":Str))=false:=by decide):PE X (.Name x pos) (xY i):=by
 intro pins s σ H Q I h
 obtain ⟨v,e,h⟩:=h
 obtain ⟨m,hn,hl⟩:=I.loc
 obtain ⟨u,r,l⟩:=hl i x v hN e hv
 have fin:EP X pins σ Q u s:=⟨v,H,I,r,h⟩
 rcases l with ⟨hk,hm⟩ | ⟨hk,c,hc,gO⟩
 ·exact wpAny_Name (wpAny_loadName_local I.ok.kind hk hn hm fin) hd
 ·rcases hk with hk | hk
  ·exact wpAny_Name (wpAny_loadName_cell I.ok.kind hk hc gO fin) hd
  ·exact wpAny_Name (wpAny_loadName_free I.ok.kind hk hc gO fin kY) hd
theorem ai {i j pos}:PE X (.Constant (.int i) j pos) (tC (.int i)):=fun _ _ _ H _ I h=>wpAny_Constant_int ⟨.int i,H,I.tok _,⟨_,rfl⟩,h⟩
theorem zx {b j pos}:PE X (.Constant (.bool b) j pos) (tC (.bl b)):=fun _ _ _ H _ I h=>Constant_bool ⟨.bl b,H,I,rfl,h⟩
theorem Fq {x j pos}:PE X (.Constant (.str x) j pos) (tC (.str x)):=fun _ _ _ H _ I h=>Calls.Constant_str ⟨.str x,H,I.tok _,⟨_,rfl⟩,h⟩
def Gl (X:Cx) (x:Str):Prop:=X.env.kindOf x=some .globalImplicit
theorem p8 {E:Value->Shared->Prop} {pins:List (Addr×Obj)} {s:Shared} {σ:St} {H:Hp} {x:Str} {u:Value} {pos:Pos} {Q:Value->Shared->Prop} (I:Inv X pins σ H s) (hg:Gl X x) (hm:X.mg x=some u) (h:Q u s)
  (hd:(x==("__debug__":Str))=false:=by decide):wpAny (model X.prog X.w) X.A (eval (.Name x pos) X.env) Q E s:=
 Calls.Name_function_global I.ok.kind hg (Calls.loadGlobal_global (by rw[I.ok.glob];exact I.mod.glob.keeps I.bk) hm h) hd
theorem gh {E:Value->Shared->Prop} {pins:List (Addr×Obj)} {s:Shared} {σ:St} {H:Hp} {x:Str} {u:Value} {pos:Pos} {Q:Value->Shared->Prop} (I:Inv X pins σ H s) (hg:Gl X x) (hm:X.mg x=none) (hv:bootBuiltins x=some u) (h:Q u s)
  (hn:x≠"__name__":=by decide) (hd:(x==("__debug__":Str))=false:=by decide):wpAny (model X.prog X.w) X.A (eval (.Name x pos) X.env) Q E s:=by
 obtain ⟨mb,h1,h2⟩:=I.mod.blt
 exact Calls.Name_function_global I.ok.kind hg (Calls.loadGlobal_builtin (by rw[I.ok.glob];exact I.mod.glob.keeps I.bk) hm (by rw[I.ok.blt];exact h1.keeps I.bk) ((h2 x hn).trans hv) h) hd
theorem wu {x:Str} {v:V} {u:Value} {pos:Pos} (hg:Gl X x) (hm:X.mg x=some u) (r:RelV v u) (hd:(x==("__debug__":Str))=false:=by decide):PE X (.Name x pos) (tC v):=
 fun _ _ _ H _ I h=>p8 I hg hm ⟨v,H,I,r,h⟩ hd
variable {a b:Expr} {ta tb:TE} {pos:Pos}
def tB (t:TE):TT:=fun σ H Q=>t σ H fun x H1=> ∃c,x= .bl c/\Q c H1
theorem jZ {e:Expr} {t:TE} (h:PE X e t) (he: ∀whole,isTrue e X.env whole=(do let v <-whole;standAt e.pos;holding [v] (truthy v)):=by intro _;rfl):PT X e (tB t):=by
 intro pins s σ H Q I hw
 refine isTrue_plain (bV (h pins s σ H _ I hw) fun v s1 ⟨x,H1,I1,r1,q1⟩=>?_) (he _)
 obtain ⟨d,rfl,q⟩:=q1
 cases r1
 exact wpAny_truthy_bool ⟨H1,I1,q⟩
variable {tA Mb:TT} {rest:List Expr}
def Ng (t u:TT):TT:=fun σ H Q=>t σ H fun c H1=>if c=true then u σ H1 Q else Q false H1
def QA (t u:TT):TT:=fun σ H Q=>t σ H fun c H1=>if c=true then Q true H1 else u σ H1 Q
theorem p9 (ha:PT X a tA):PW X (.BoolOp .And [a] pos) tA:=by
 intro wh pins s σ H Q I h
 refine isTrue_and (bV (ha pins s σ H Q I h) fun c s1 e=>?_)
 cases c with
 | true=>exact isTrue_and_nil e
 | false=>exact e
theorem Fs (ha:PT X a tA):PW X (.BoolOp .Or [a] pos) tA:=by
 intro wh pins s σ H Q I h
 refine isTrue_or (bV (ha pins s σ H Q I h) fun c s1 e=>?_)
 cases c with
 | false=>exact isTrue_or_nil e
 | true=>exact e
theorem uv (ha:PT X a tA) (hb:PW X (.BoolOp .And (b::rest) pos) Mb):PW X (.BoolOp .And (a::b::rest) pos) (Ng tA Mb):=by
 intro wh pins s σ H Q I h
 refine isTrue_and (bV (ha pins s σ H _ I h) fun c s1 ⟨H1,I1,q1⟩=>?_)
 cases c with
 | true=>exact hb wh pins s1 σ H1 Q I1 q1
 | false=>exact ⟨H1,I1,q1⟩
theorem JM (ha:PT X a tA) (hb:PW X (.BoolOp .Or (b::rest) pos) Mb):PW X (.BoolOp .Or (a::b::rest) pos) (QA tA Mb):=by
 intro wh pins s σ H Q I h
 refine isTrue_or (bV (ha pins s σ H _ I h) fun c s1 ⟨H1,I1,q1⟩=>?_)
 cases c with
 | true=>exact ⟨H1,I1,q1⟩
 | false=>exact hb wh pins s1 σ H1 Q I1 q1
end
def bK (K:PySem.W.Frag) (H:Hp) (a:Addr) (xs:List V):Prop:=
 Rd H a (.lst xs)\/
  ∃(o:Obj) (aJ:Array Value) (n:Nat),K.lookup a=some o/\o.cls= .type "list"/\o.dict=none/\o.data= .seq aJ n/\aJ.size<=sizeLine/\Vals xs aJ.toList
def cy (K:PySem.W.Frag) (H:Hp) (a:Addr) (xs:List V):Prop:=
 Rd H a (.tup xs)\/
  ∃(o:Obj) (aJ:Array Value) (n:Nat),K.lookup a=some o/\o.cls= .type "tuple"/\o.data= .seq aJ n/\aJ.size<=sizeLine/\Vals xs aJ.toList
noncomputable def Nh:Value->Option V
 | .none=>some .gB
 | .bool b=>some (.bl b)
 | .int i _=>some (.int i)
 | .str x _=>some (.str x)
 | .bytes b _=>some (.wg b)
 | .float b _=>some (.L8 b)
 | .ref a=>some (.ref a)
 | .type n=>some (.ty n)
 | _=>none
theorem RelV.abs {x:V} {u:Value} (r:RelV x u):Nh u=some x:=by
 cases x with
 | gB=>cases r;rfl
 | bl _=>cases r;rfl
 | int _=>obtain ⟨t,rfl⟩:=r;rfl
 | str _=>obtain ⟨t,rfl⟩:=r;rfl
 | wg _=>obtain ⟨t,rfl⟩:=r;rfl
 | L8 _=>obtain ⟨t,rfl⟩:=r;rfl
 | ref _=>cases r;rfl
 | ty _=>cases r;rfl
theorem RelV.inj {x y:V} {u:Value} (r:RelV x u) (q:RelV y u):x=y:=TZ (r.abs.symm.trans q.abs)
theorem Vals.inj: ∀{xs ys:List V} {us:List Value},Vals xs us->Vals ys us->xs=ys
 | _,_,_, .nil, .nil=>rfl
 | _,_,_, .cons r t, .cons r' t'=>by rw[r.inj r',Vals.inj t t']
section
variable {X:Cx} {pins:List (Addr×Obj)} {σ:St} {H:Hp} {s:Shared} {a:Addr} {xs ys:List V}
theorem bK.of {K:PySem.W.Frag} (h:H a=some (.lst xs)):bK K H a xs:= .inl (.inl h)
theorem cy.of {K:PySem.W.Frag} (h:H a=some (.tup xs)):cy K H a xs:= .inl (.inl h)
theorem Inv.list (I:Inv X pins σ H s) (h:bK X.K H a xs): ∃aJ:List Value,Vals xs aJ/\PlainL s.heap a aJ.toArray/\xs.length<=sizeLine:=by
 rcases h with h | ⟨o,aJ,n,hk,hc,hd,hs,hz,r⟩
 ·obtain ⟨z,aJ,n,r,e⟩:=h.ok I.bR
  exact ⟨aJ,r,⟨_,n,e,rfl,rfl,rfl⟩,z⟩
 ·refine ⟨aJ.toList,r,⟨o,n,I.xW a o hk,hc,hd,by simpa using hs⟩,?_⟩
  have e:=r.length
  simp only[Array.length_toList]at e
  omega
theorem Inv.tuple (I:Inv X pins σ H s) (h:cy X.K H a xs): ∃aJ:List Value,Vals xs aJ/\IsTup s.heap a aJ.toArray/\xs.length<=sizeLine:=by
 rcases h with h | ⟨o,aJ,n,hk,hc,hs,hz,r⟩
 ·obtain ⟨z,aJ,r,p⟩:=h.ok I.bR
  exact ⟨aJ,r,p,z⟩
 ·refine ⟨aJ.toList,r,⟨o,I.xW a o hk,hc,n,by simpa using hs⟩,?_⟩
  have e:=r.length
  simp only[Array.length_toList]at e
  omega
theorem Inv.rW (I:Inv X pins σ H s) (h:bK X.K H a xs) (h':bK X.K H a ys):xs=ys:=by
 obtain ⟨aJ,r,⟨o,n,e,_,_,d⟩,_⟩:=I.list h
 obtain ⟨its',r',⟨o',n',e',_,_,d'⟩,_⟩:=I.list h'
 rw[e]at e';cases e'
 rw[d]at d'
 injection d' with d1 _
 have:aJ=its':=by simpa using congrArg Array.toList d1
 subst this
 exact r.inj r'
theorem Inv.oG (I:Inv X pins σ H s) (h:cy X.K H a xs) (h':cy X.K H a ys):xs=ys:=by
 obtain ⟨aJ,r,⟨o,e,_,n,d⟩,_⟩:=I.tuple h
 obtain ⟨its',r',⟨o',e',_,n',d'⟩,_⟩:=I.tuple h'
 rw[e]at e';cases e'
 rw[d]at d'
 injection d' with d1 _
 have:aJ=its':=by simpa using congrArg Array.toList d1
 subst this
 exact r.inj r'
end
noncomputable abbrev Cx.nU (X:Cx) (E:Value->Shared->Prop):Cx:={ X with xe:=E }
noncomputable abbrev Cx.Mc (X:Cx):Cx:=X.nU fun _ _=>False
theorem Cx.Ok.nU {X:Cx} (ok:X.Ok) (E:Value->Shared->Prop):(X.nU E).Ok:=
 ⟨ok.mod,ok.kind,ok.glob,ok.blt,ok.above,ok.inj,ok.has,ok.JH,ok.hd,ok.frames,ok.L_,ok.O1,ok.bs,ok.CB,ok.zw,ok.CC,ok.kX,ok.Fl⟩
theorem Cx.Ok.gP {X:Cx} {E:Value->Shared->Prop} (ok:(X.nU E).Ok):X.Ok:=
 ⟨ok.mod,ok.kind,ok.glob,ok.blt,ok.above,ok.inj,ok.has,ok.JH,ok.hd,ok.frames,ok.L_,ok.O1,ok.bs,ok.CB,ok.zw,ok.CC,ok.kX,ok.Fl⟩
section
variable {X:Cx} {pins:List (Addr×Obj)} {σ:St} {H:Hp} {s:Shared} {E:Value->Shared->Prop}
theorem Inv.nU (I:Inv X pins σ H s) (E:Value->Shared->Prop):Inv (X.nU E) pins σ H s:=⟨I.ok.nU E,I.os,I.bare,I.base,I.loc,I.cell,I.free,I.gM,I.pin,I.bR,I.len⟩
theorem Inv.gP (I:Inv (X.nU E) pins σ H s):Inv X pins σ H s:=⟨I.ok.gP,I.os,I.bare,I.base,I.loc,I.cell,I.free,I.gM,I.pin,I.bR,I.len⟩
theorem SP.gP {D:Ends} {f:Flow} {s':Shared} (h:SP (X.nU E) pins D f s'):SP X pins D f s':=by
 cases f with
 | next=>obtain ⟨σ',H',I,q⟩:=h;exact ⟨σ',H',I.gP,q⟩
 | brk=>obtain ⟨σ',H',I,q⟩:=h;exact ⟨σ',H',I.gP,q⟩
 | cont=>obtain ⟨σ',H',I,q⟩:=h;exact ⟨σ',H',I.gP,q⟩
 | ret u=>obtain ⟨v,σ',H',I,r,q⟩:=h;exact ⟨v,σ',H',I.gP,r,q⟩
theorem uu.Mc {st:List Stmt} {t:TS} (h:uu X.Mc st t):uu X st t:=fun pins s σ H D I hw=>
 wpAny_mono (h pins s σ H D (I.nU _) hw) (fun _ _ q=>q.gP) fun _ _ z=>False.elim z
end
section
variable {X:Cx} {st:Stmt} {rest:List Stmt} {t u:TS} {e:Expr} {te:TE} {pos:Pos}
def JN:TS:=fun D σ H=>D.nx σ H
def zy (t u:TS):TS:=fun D σ H=>t { D with nx:=u D } σ H
theorem bU:uu X [] JN:=fun _ _ σ H _ I h=>wpAny_execs_nil ⟨σ,H,I,h⟩
theorem ag (h1:PS X st t) (h2:uu X rest u):uu X (st::rest) (zy t u):=by
 intro pins s σ H D I h
 refine wpAny_execs_cons (bV (h1 pins s σ H { D with nx:=u D } I h) fun f s1 q=>?_)
 cases f with
 | next=>
  obtain ⟨σ',H',I',q⟩:=q
  exact h2 pins s1 σ' H' D I' q
 | ret v=>exact q
 | brk=>exact q
 | cont=>exact q
theorem aj (h1:PS X st t):uu X [st] t:=by
 intro pins s σ H D I h
 refine wpAny_execs_cons (bV (h1 pins s σ H D I h) fun f s1 q=>?_)
 cases f with
 | next=>exact wpAny_execs_nil q
 | ret v=>exact q
 | brk=>exact q
 | cont=>exact q
theorem Inv.quiet {pins:List (Addr×Obj)} {σ:St} {H:Hp} {s:Shared} (I:Inv X pins σ H s):interactive X.env=false:=by simp[interactive,I.ok.kind]
def JO (te:TE):TS:=fun D σ H=>te σ H fun _ H1=>D.nx σ H1
theorem eM (he:PE X e te) (hs:swapsWith e none pos.line X.env=pure false:=by rfl):PS X (.Expr e pos) (JO te):=by
 intro pins s σ H D I h
 exact wpAny_Expr_any (bV (he pins s σ H _ I h) fun v s1 ⟨x,H1,I1,r1,q1⟩=>⟨σ,H1,I1,q1⟩) I.quiet hs
def JP (te:TE):TS:=fun D σ H=>te σ H D.rt
theorem aK (he:PE X e te):PS X (.Return (some e) pos) (JP te):=by
 intro pins s σ H D I h
 exact wpAny_Return_some (bV (he pins s σ H _ I h) fun v s1 ⟨x,H1,I1,r1,q1⟩=>⟨x,σ,H1,I1,r1,q1⟩)
def Ni (c:TT) (t u:TS):TS:=fun D σ H=>c σ H fun b H1=>if b=true then t D σ H1 else u D σ H1
theorem cL {c:Expr} {a b:List Stmt} {tc:TT} (hc:PT X c tc) (ha:uu X a t) (hb:uu X b u):PS X (.If c a b pos) (Ni tc t u):=by
 intro pins s σ H D I h
 refine wpAny_If (bV (hc pins s σ H _ I h) fun d s1 ⟨H1,I1,q1⟩=>?_)
 cases d with
 | true=>exact ha pins s1 σ H1 D I1 q1
 | false=>exact hb pins s1 σ H1 D I1 q1
end
abbrev TG:=V->St->Hp->(St->Hp->Prop)->Prop
abbrev Ey:=List V->St->Hp->(St->Hp->Prop)->Prop
def PG (X:Cx) (target:Expr) (t:TG):Prop:=
 ∀(pins:List (Addr×Obj)) (s:Shared) (σ:St) (H:Hp) (v:V) (u:Value) (Q:St->Hp->Prop),Inv X pins σ H s->RelV v u->t v σ H Q->
  wpAny (model X.prog X.w) X.A (assign target X.env u) (fun _ s'=> ∃σ' H',Inv X pins σ' H' s'/\Q σ' H') X.xe s
def JQ (X:Cx) (ts:List Expr) (t:Ey):Prop:=
 ∀(pins:List (Addr×Obj)) (s:Shared) (σ:St) (H:Hp) (vs:List V) (us:List Value) (Q:St->Hp->Prop),Inv X pins σ H s->Vals vs us->t vs σ H Q->
  wpAny (model X.prog X.w) X.A (assignInOrder ((assignEach ts X.env).map (·.2)) us) (fun _ s'=> ∃σ' H',Inv X pins σ' H' s'/\Q σ' H') X.xe s
abbrev Ft:=V->V->V->Hp->(Hp->Prop)->Prop
def JR (X:Cx) (t:Ft):Prop:=
 ∀(pins:List (Addr×Obj)) (s:Shared) (σ:St) (H:Hp) (o i v:V) (ov iv u:Value) (Q:Hp->Prop),Inv X pins σ H s->RelV o ov->RelV i iv->RelV v u->t o i v H Q->
  wpAny (model X.prog X.w) X.A (setItem ov iv u) (fun _ s'=> ∃H',Inv X pins σ H' s'/\Q H') X.xe s
abbrev Md:=V->V->Hp->VK->Prop
def JS (X:Cx) (op:Operator) (t:Md):Prop:=
 ∀(pins:List (Addr×Obj)) (s:Shared) (σ:St) (H:Hp) (x y:V) (v u:Value) (Q:VK),Inv X pins σ H s->RelV x v->RelV y u->t x y H Q->
  wpAny (model X.prog X.w) X.A (inplaceOp op v u) (EP X pins σ Q) X.xe s
section
variable {X:Cx} {pos:Pos}
def zA (i:Nat):TG:=fun v σ H Q=>Q (σ.set i (some v)) H
theorem aT {i:Nat} {x:Str} (hN:X.N.Nodup) (hi:X.N[i]? =some x) (hx:Loc X.env.scope x) (hf:X.fn x=true\/X.env.scope.names.lookup x=some .local:=by first | exact .inl rfl | exact .inr rfl | assumption):PG X (.Name x pos) (zA i):=by
 intro pins s σ H v u Q I r h
 exact wpAny_assign_Name (gN I hN hi hx r (fun s' I'=>⟨_,H,I',h⟩) hf)
def Nj:Ey:=fun vs σ H Q=>vs=[]/\Q σ H
def JT (t:TG) (u:Ey):Ey:=fun vs σ H Q=> ∃v r,vs=v::r/\t v σ H fun σ' H'=>u r σ' H' Q
theorem jk:JQ X [] Nj:=by
 intro pins s σ H vs us Q I r h
 obtain ⟨e,h⟩:=h
 subst e
 cases r
 exact assignInOrder_nil ⟨σ,H,I,h⟩
theorem cB {e:Expr} {es:List Expr} {t:TG} {u:Ey} (h1:PG X e t) (h2:JQ X es u)
  (hs:(assignEach (e::es) X.env).map (·.2)=assign e X.env::(assignEach es X.env).map (·.2):=by rfl):JQ X (e::es) (JT t u):=by
 intro pins s σ H vs us Q I r h
 obtain ⟨v,vr,e1,h⟩:=h
 subst e1
 cases r with
 | cons r rr=>
  rw[hs]
  refine assignInOrder_cons (bV (h1 pins s σ H _ _ _ I r h) fun _ s1 ⟨σ1,H1,I1,q1⟩=>?_)
  exact h2 pins s1 σ1 H1 _ _ Q I1 rr q1
def JU (K:PySem.W.Frag) (n:Nat) (t:Ey):TG:=fun v σ H Q=> ∃a xs,v= .ref a/\cy K H a xs/\xs.length=n/\t xs σ H Q
theorem Fu {es:List Expr} {k:Nat} {t:Ey} {n:Nat} (hc:X.calm=true) (h:JQ X es t)
  (hn:(assignEach es X.env).length=n:=by rfl) (kN:(assignEach es X.env).findIdx? (·.1)=none:=by rfl):PG X (.Tuple es k pos) (JU X.K n t):=by
 intro pins s σ H v u Q I r hw
 obtain ⟨a,xs,e1,hq,hl,hw⟩:=hw
 subst e1
 cases r
 obtain ⟨aJ,rv,ht,hz⟩:=I.tuple hq
 refine assign_Tuple_tuple (I.ok.hd hc) ht (by simp[hn, <-hl,rv.length]) kN fun h' hx=>?_
 have I1:Inv X pins σ H { s with heap:=h' }:=I.kept (t':=s.toks) fun b o e=>hx b o (TY (To e)) e
 exact h pins _ σ H xs _ Q I1 (by simpa using rv) hw
def Nk (to ti:TE) (t:Ft):TG:=fun v σ H Q=>to σ H fun o H1=>ti σ H1 fun i H2=>t o i v H2 fun H3=>Q σ H3
theorem zB {o i:Expr} {to ti:TE} {t:Ft} (ho:PE X o to) (hi:PE X i ti) (hs:JR X t)
  (ha: ∀v,assign (.Subscript o i pos) X.env v=(do
   let ov <-holding [v] (eval o X.env)
   let iv <-holding [v,ov] (eval i X.env)
   standAt pos
   holding [v,ov,iv] (setItem ov iv v)
   release [v,ov,iv] []):=by intro _;rfl):PG X (.Subscript o i pos) (Nk to ti t):=by
 intro pins s σ H v u Q I r h
 rw[ha]
 refine wpAny_bind (wpAny_holding (bV (ho pins s σ H _ I h) fun ov s1 ⟨x,H1,I1,r1,q1⟩=>?_))
 refine wpAny_bind (wpAny_holding (bV (hi pins s1 σ H1 _ I1 q1) fun iv s2 ⟨y,H2,I2,r2,q2⟩=>?_))
 refine wpAny_bind (wpAny_standAt (wpAny_bind (wpAny_holding (bV (hs pins s2 σ H2 x y v ov iv u _ I2 r1 r2 r q2) fun _ s3 ⟨H3,I3,q3⟩=>?_))))
 exact wpAny_release ⟨σ,H3,I3,q3⟩
def JV (te:TE) (g:TG):TS:=fun D σ H=>te σ H fun x H1=>g x σ H1 D.nx
theorem uw {tg e:Expr} {te:TE} {g:TG} (he:PE X e te) (hg:PG X tg g) (hs:swapsWithSole [tg] e pos.line X.env=pure false:=by rfl) (hw:swappedStores [tg] e X.env=pure none:=by rfl)
  (h1:(assignEach [tg] X.env).map (·.2)=[assign tg X.env]:=by rfl):PS X (.Assign [tg] e pos) (JV te g):=by
 intro pins s σ H D I h
 refine wpAny_Assign_stores (bV (he pins s σ H _ I h) fun v s1 ⟨x,H1,I1,r1,q1⟩=>?_) hs hw
 rw[h1]
 exact bV (hg pins s1 σ H1 x v _ I1 r1 q1) fun _ s2 q=>q
theorem ay {i:Nat} {x:Str} {e:Expr} {te:TE} {pos':Pos} (hN:X.N.Nodup) (hi:X.N[i]? =some x) (hx:Loc X.env.scope x) (he:PE X e te) (hs:swapsWith e (some (.Name x pos')) pos.line X.env=pure false:=by rfl) (hf:X.fn x=true\/X.env.scope.names.lookup x=some .local:=by first | exact .inl rfl | exact .inr rfl | assumption):
  PS X (.Assign [.Name x pos'] e pos) (JV te (zA i)):=by
 intro pins s σ H D I h
 refine wpAny_Assign_Name (bV (he pins s σ H _ I h) fun v s1 ⟨y,H1,I1,r1,q1⟩=>?_) hs
 exact gN I1 hN hi hx r1 (fun s2 I2=>⟨_,H1,I2,q1⟩) hf
def Nl (i j:Nat) (ta:TA):TS:=fun D σ H=>ta σ H fun vs H1=> ∃v w,vs=[v,w]/\D.nx ((σ.set i (some v)).set j (some w)) H1
theorem iZ {i j:Nat} {x y:Str} {a b:Expr} {ta:TA} {px py pt:Pos} {kt k2 Nm} (hc:X.calm=true) (hN:X.N.Nodup) (hi:X.N[i]? =some x) (hj:X.N[j]? =some y) (QB:i≠j)
  (hx:X.env.scope.names.lookup x=some .local) (hy:X.env.scope.names.lookup y=some .local) (ha:PA X [a,b] ta)
  (hw:swappedStores [.Tuple [.Name x px, .Name y py] kt pt] (.Tuple [a,b] k2 Nm) X.env=pure (some [x,y]))
  (hs:swapsWithSole [.Tuple [.Name x px, .Name y py] kt pt] (.Tuple [a,b] k2 Nm) pos.line X.env=pure false:=by rfl):
  PS X (.Assign [.Tuple [.Name x px, .Name y py] kt pt] (.Tuple [a,b] k2 Nm) pos) (Nl i j ta):=by
 intro pins s σ H D I h
 rw[exec_Assign_arm]
 refine wpAny_bind (wpAny_standAt ?_)
 rw[hs]
 refine wpAny_bind (wpAny_pure ?_)
 rw[if_neg (by decide)]
 refine wpAny_bind (Tuple_ (bV (ha _ pins s σ H _ I h) fun us s1 ⟨vs,H1,I1,r1,q1⟩=>?_))
 obtain ⟨v,w,e1,q1⟩:=q1
 subst e1
 obtain ⟨u1,u2,rfl,rv,p_⟩: ∃u1 u2,us=[u1,u2]/\RelV v u1/\RelV w u2:=by
  cases r1 with
  | cons p q=>
   cases q with
   | cons p' q'=>
    cases q'
    exact ⟨_,_,rfl,p,p'⟩
 refine wpAny_newObj_type ?_ (by show 2<=sizeLine;decide)
 have I2:Inv X pins σ H1 { s1 with heap:=s1.heap.push { cls:= .type "tuple",data:= .seq [u1,u2].toArray } }:=I1.kept (t':=s1.toks) fun b o e=>Pd _ e
 rw[hw]
 refine wpAny_bind (wpAny_pure ?_)
 show wpAny (model X.prog X.w) X.A (do rule "assign.swapped-stores";let items <-unpackItems (.ref s1.heap.objs.size) 2 none;assignInOrder [fun v=>bindName X.env y v,fun v=>bindName X.env x v] items.reverse;pure Flow.next) _ _ _
 refine wpAny_bind (wpAny_rule (wpAny_bind (unpackItems_tuple (items:= #[u1,u2]) (I.ok.hd hc) (IsTup.new s1.heap _) fun h' zk=>?_)))
 have I3:=I2.kept (h':=h') (t':=s1.toks) fun b o e=>zk b o (TY (To e)) e
 show wpAny _ _ (assignInOrder [fun v=>bindName X.env y v,fun v=>bindName X.env x v] [u2,u1] >>= fun _=>pure Flow.next) _ _ _
 refine wpAny_bind (assignInOrder_cons (wpAny_bindName (gN I3 hN hj (.inl hy) p_ (fun s2 I4=>?_) (.inr hy))))
 refine assignInOrder_cons (wpAny_bindName (gN I4 hN hi (.inl hx) rv (fun s3 I5=>assignInOrder_nil (wpAny_pure ?_)) (.inr hx)))
 rw[List.set_comm _ _ (Ne.symm QB)]at I5
 exact ⟨_,H1,I5,q1⟩
def Nn (i:Nat) (te:TE) (ti:Md):TS:=fun D σ H=> ∃x,σ[i]? =some (some x)/\te σ H fun y H1=>ti x y H1 fun z H2=>D.nx (σ.set i (some z)) H2
theorem i0 {i:Nat} {x:Str} {e:Expr} {te:TE} {op:Operator} {ti:Md} {pos':Pos} (hN:X.N.Nodup) (hi:X.N[i]? =some x) (hx:Loc X.env.scope x) (he:PE X e te) (ho:JS X op ti) (hf:X.fn x=true\/X.env.scope.names.lookup x=some .local:=by first | exact .inl rfl | exact .inr rfl | assumption):
  PS X (.AugAssign (.Name x pos') op e pos) (Nn i te ti):=by
 intro pins s σ H D I h
 obtain ⟨v,e1,h⟩:=h
 obtain ⟨m,hn,hl⟩:=I.loc
 have QC:JG X.env.scope x:=by rcases hx with k | k;exact .inl k;exact .inr (.inl k)
 obtain ⟨u,r,l⟩:=hl i x v hi e1 QC
 refine wpAny_AugAssign_Name ?_
 have go:wpAny (model X.prog X.w) X.A (eval e X.env) (fun w s₂=>wpAny (model X.prog X.w) X.A (inplaceOp op u w) (fun r s₃=>wpAny (model X.prog X.w) X.A (storeName X.env x r) (fun _=>SP X pins D .next) X.xe s₃) X.xe s₂) X.xe s:=by
  refine bV (he pins s σ H _ I h) fun w s1 ⟨y,H1,I1,r1,q1⟩=>?_
  refine bV (ho pins s1 σ H1 v y u w _ I1 r r1 q1) fun z s2 ⟨zv,H2,I2,r2,q2⟩=>?_
  exact gN I2 hN hi hx r2 (fun s3 I3=>⟨_,H2,I3,q2⟩) hf
 rcases l with ⟨hk,hm⟩ | ⟨hk,c,hc,gO⟩
 ·exact wpAny_loadName_local I.ok.kind hk hn hm go
 ·rcases hk with hk | hk
  ·exact wpAny_loadName_cell I.ok.kind hk hc gO go
  ·rcases hx with k | k
   ·have:X.env.scope.names.lookup x=some .free:=hk
    rw[k]at this;cases this
   ·have:X.env.scope.names.lookup x=some .free:=hk
    rw[k]at this;cases this
def O5 (f:Int->Int->Int):Md:=fun x y H Q=> ∃i j,x= .int i/\y= .int j/\Q (.int (f i j)) H
theorem qa:JS X .Add (O5 fun i j=>i+j):=by
 intro pins s σ H x y v u Q I r1 r2 h
 obtain ⟨i,j,e1,e2,q⟩:=h
 subst e1;subst e2
 obtain ⟨t,rfl⟩:=r1
 obtain ⟨t',rfl⟩:=r2
 exact iadd_int ⟨.int _,H,I.tok _,⟨_,rfl⟩,q⟩
theorem Fv:JS X .Sub (O5 fun i j=>i - j):=by
 intro pins s σ H x y v u Q I r1 r2 h
 obtain ⟨i,j,e1,e2,q⟩:=h
 subst e1;subst e2
 obtain ⟨t,rfl⟩:=r1
 obtain ⟨t',rfl⟩:=r2
 exact isub_int ⟨.int _,H,I.tok _,⟨_,rfl⟩,q⟩
end
section
variable {X:Cx} {pos:Pos}
end
structure It where
 go:Nat->Hp->Prop
 zC:Nat->Hp->V->Hp->Prop
 stop:Nat->Hp->Prop
def kZ (X:Cx) (pins:List (Addr×Obj)) (H:Hp) (b:Addr):Prop:=
 H b=none/\b≠X.env.locals/\b∉X.fs/\(b∈X.ex\/X.s₀.heap.objs.size<=b)/\(∀x c,X.env.cells.lookup x=some c->c≠b)/\ ∀p∈X.pn++pins,p.1≠b
theorem Inv.nV {X:Cx} {pins:List (Addr×Obj)} {σ:St} {H H':Hp} {s:Shared} {b:Addr} (I:Inv X pins σ H s) (hb:s.heap.objs.size<=b) (hn:H' b=none):kZ X pins H' b:=by
 refine ⟨hn,V9 (T1 I.lt hb),I.Fm hb, .inr (Ug I.sz hb),fun x c e z=>?_,fun p hp z=>?_⟩
 ·obtain ⟨v,q⟩:=I.cell x c e
  exact absurd (T1 q.lt (by rw[z];exact hb)) (Ut _)
 ·exact absurd (T1 (To (I.pin p hp).1) (by rw[z];exact hb)) (Ut _)
structure Turn (P:Program) (w:World) (K:PySem.W.Frag) (tg:Expr) (J:It) (fp:List Addr) (it:Addr) (tn:Nat->Heap->Prop):Prop where
 mem:it∈fp
 obj: ∀i h,tn i h-> ∀b∈fp, ∃o,h.get? b=some o/\ ∀v,o.data≠ .cell v
 keep: ∀i h h',tn i h->(∀b∈fp, ∀o,h.get? b=some o->h'.get? b=some o)->tn i h'
 item: ∀(X:Cx),X.prog=P->X.w=w->X.K=K->X.calm=true-> ∀(i:Nat) (pins:List (Addr×Obj)) (s:Shared) (σ:St) (H:Hp) (E:Value->Shared->Prop),Inv X pins σ H s->(∀b∈fp,kZ X pins H b)->tn i s.heap->J.go i H->
  wpAny (model P w) X.A (pyNext (.ref it)) (fun r s1=> ∃u,r=some u/\
   wpAny (model P w) X.A (letOwnedTupleGo tg (.ref it) u) (fun _ s2=> ∃x H',Inv X pins σ H' s2/\RelV x u/\J.zC i H x H'/\tn (i+1) s2.heap/\ ∀b∈fp,H' b=none) E s1) E s
 done: ∀(X:Cx),X.prog=P->X.w=w->X.K=K->X.calm=true-> ∀(i:Nat) (pins:List (Addr×Obj)) (s:Shared) (σ:St) (H:Hp) (E:Value->Shared->Prop),Inv X pins σ H s->(∀b∈fp,kZ X pins H b)->tn i s.heap->J.stop i H->
  wpAny (model P w) X.A (pyNext (.ref it)) (fun r s1=>r=none/\Inv X pins σ H s1) E s
 self: ∀(A:Around) (i:Nat) (s:Shared) (Q:Value->Shared->Prop) (E:Value->Shared->Prop),tn i s.heap->Q (.ref it) s->wpAny (model P w) A (pyIter (.ref it)) Q E s
abbrev TI:=St->Hp->(It->Hp->Prop)->Prop
def O6 (X:Cx) (pins:List (Addr×Obj)) (σ:St) (tg:Expr) (R:It->Hp->Prop) (Np:Value) (s2:Shared):Prop:=
 ∃(it:Addr) (fp:List Addr) (tn:Nat->Heap->Prop) (J:It) (H':Hp),Np= .ref it/\Inv X pins σ H' s2/\Turn X.prog X.w X.K tg J fp it tn/\tn 0 s2.heap/\(∀b∈fp,kZ X pins H' b)/\R J H'
def PI (X:Cx) (tg iter:Expr) (wi:TI):Prop:=
 ∀(pins:List (Addr×Obj)) (s:Shared) (σ:St) (H:Hp) (R:It->Hp->Prop),Inv X pins σ H s->wi σ H R->
  wpAny (model X.prog X.w) X.A (eval iter X.env) (fun v s1=>wpAny (model X.prog X.w) X.A (pyIter v) (O6 X pins σ tg R) X.xe s1) X.xe s
theorem rX {M:Model} {A:Around} {E:Value->Shared->Prop} {s:Shared} {tg:Expr} {it:Addr} {u:Value} {o:Obj} {n:String} {vs:Array Value} {Q:Unit->Shared->Prop} (ho:s.heap.get? it=some o) (hc:o.cls= .type n) (hd:o.data= .fields vs)
  (hn:["enumerate","zip","dict_itemiterator","dict_reverseitemiterator","odict_iterator","itertools.zip_longest","itertools.pairwise"].contains n=false) (hQ:Q () s):wpAny M A (letOwnedTupleGo tg (.ref it) u) Q E s:=by
 unfold letOwnedTupleGo
 cases tg<;>first
  | exact wpAny_pure hQ
  |(cases u<;>first
    | exact wpAny_pure hQ
    |(refine wpAny_bind (wpAny_load ho ?_)
      rw[hc,hd]
      show wpAny M A (if (["enumerate","zip","dict_itemiterator","dict_reverseitemiterator","odict_iterator","itertools.zip_longest","itertools.pairwise"].contains n&&vs[0]? ==some (rawInt _))=true then _ else _) Q E s
      rw[if_neg (by intro h;rw[hn,Bool.false_and]at h;cases h)]
      exact wpAny_pure hQ))
noncomputable def HV (K:PySem.W.Frag) (a:Addr):It:=
 ⟨fun i H=> ∃xs x,bK K H a xs/\xs[i]? =some x,fun i H x H'=>H'=H/\ ∀xs,bK K H a xs->xs[i]? =some x,fun i H=> ∃xs,bK K H a xs/\xs.length<=i⟩
noncomputable def Nq (K:PySem.W.Frag) (a:Addr):It:=
 ⟨fun i H=> ∃xs x,cy K H a xs/\xs[i]? =some x,fun i H x H'=>H'=H/\ ∀xs,cy K H a xs->xs[i]? =some x,fun i H=> ∃xs,cy K H a xs/\xs.length<=i⟩
noncomputable def Ez (lo:Int) (n:Nat):It:=⟨fun i _=>i<n,fun i H x H'=>H'=H/\x= .int (lo+i),fun i _=>n<=i⟩
theorem xZ {P:Program} {w:World} {K:PySem.W.Frag} {tg:Expr} (a it:Addr):Turn P w K tg (HV K a) [it] it (fun i h=>h.IsListIter it a i) where
 mem:=by simp
 obj:=fun i h st b hb=>by
  have e:b=it:=by simpa using hb
  subst e
  obtain ⟨o,e,c,d⟩:=st
  exact ⟨o,e,fun v z=>by rw[d]at z;cases z⟩
 keep:=fun i h h' st k=>st.at fun o e=>k it (by simp) o e
 item:=by
  intro X hP hw hK hc i pins s σ H E I hf st hg
  subst hP hw hK
  obtain ⟨xs,x,hq,hx⟩:=hg
  obtain ⟨aJ,rv,p,hz⟩:=I.list hq
  obtain ⟨u,hu,ru⟩:=rv.get hx
  obtain ⟨f0,f1,f2,f3,f4,f5⟩:=hf it (by simp)
  refine wpAny_pyNext_list_item st p.isList (x:=u) (by simpa using hu) fun h' rL sb=>?_
  have I1:Inv X pins σ H { s with heap:=h' }:=I.turned (t':=s.toks) (fun b o hb e=>(sb.2 b hb).trans e) f0 f1 f3 f4 f5
  obtain ⟨o,e,c,d⟩:=id rL
  exact ⟨u,rfl,rX (s:={ s with heap:=h' }) e c d (by decide) ⟨x,H,I1,ru,⟨rfl,fun ys hy=>by rw[I.rW hy hq];exact hx⟩,rL,fun b hb=>(hf b hb).1⟩⟩
 done:=by
  intro X hP hw hK hc i pins s σ H E I hf st hg
  subst hP hw hK
  obtain ⟨xs,hq,hx⟩:=hg
  obtain ⟨aJ,rv,p,hz⟩:=I.list hq
  obtain ⟨f0,f1,f2,f3,f4,f5⟩:=hf it (by simp)
  have hl:=rv.length
  exact wpAny_pyNext_list_end (I.ok.hd hc) st p.isList (by simp;omega) fun h' eb=>⟨rfl,I.turned (t':=s.toks) (fun b o hb e=>eb b o hb e) f0 f1 f3 f4 f5⟩
 self:=fun _ _ _ _ _ st h=>wpAny_pyIter_listiter st h
theorem ux {P:Program} {w:World} {K:PySem.W.Frag} {tg:Expr} (a it:Addr):Turn P w K tg (Nq K a) [it] it (fun i h=>h.IsTupleIter it a i) where
 mem:=by simp
 obj:=fun i h st b hb=>by
  have e:b=it:=by simpa using hb
  subst e
  obtain ⟨o,e,c,d⟩:=st
  exact ⟨o,e,fun v z=>by rw[d]at z;cases z⟩
 keep:=fun i h h' st k=>st.at fun o e=>k it (by simp) o e
 item:=by
  intro X hP hw hK hc i pins s σ H E I hf st hg
  subst hP hw hK
  obtain ⟨xs,x,hq,hx⟩:=hg
  obtain ⟨aJ,rv,p,hz⟩:=I.tuple hq
  obtain ⟨u,hu,ru⟩:=rv.get hx
  obtain ⟨f0,f1,f2,f3,f4,f5⟩:=hf it (by simp)
  refine wpAny_pyNext_tuple_item st (show s.heap.IsTuple a aJ.toArray from p) (x:=u) (by simpa using hu) fun h' rL sb=>?_
  have I1:Inv X pins σ H { s with heap:=h' }:=I.turned (t':=s.toks) (fun b o hb e=>(sb.2 b hb).trans e) f0 f1 f3 f4 f5
  obtain ⟨o,e,c,d⟩:=id rL
  exact ⟨u,rfl,rX (s:={ s with heap:=h' }) e c d (by decide) ⟨x,H,I1,ru,⟨rfl,fun ys hy=>by rw[I.oG hy hq];exact hx⟩,rL,fun b hb=>(hf b hb).1⟩⟩
 done:=by
  intro X hP hw hK hc i pins s σ H E I hf st hg
  subst hP hw hK
  obtain ⟨xs,hq,hx⟩:=hg
  obtain ⟨aJ,rv,p,hz⟩:=I.tuple hq
  obtain ⟨f0,f1,f2,f3,f4,f5⟩:=hf it (by simp)
  have hl:=rv.length
  exact wpAny_pyNext_tuple_end (I.ok.hd hc) st (show s.heap.IsTuple a aJ.toArray from p) (by simp;omega) fun h' eb=>⟨rfl,I.turned (t':=s.toks) (fun b o hb e=>eb b o hb e) f0 f1 f3 f4 f5⟩
 self:=fun _ _ _ _ _ st h=>wpAny_pyIter_tupleiter st h
theorem uy {P:Program} {w:World} {K:PySem.W.Frag} {tg:Expr} (it:Addr) (lo:Int) (n:Nat):Turn P w K tg (Ez lo n) [it] it (fun i h=>IsRangeIter h it (lo+(i:Nat)*1) ((n:Int) - (i:Nat)) 1) where
 mem:=by simp
 obj:=fun i h st b hb=>by
  have e:b=it:=by simpa using hb
  subst e
  exact ⟨_,st,fun v z=>by
   have z':Data.fields _=Data.cell v:=z
   cases z'⟩
 keep:=fun i h h' st k=>k it (by simp) _ st
 item:=by
  intro X hP hw hK hc i pins s σ H E I hf st hg
  subst hP hw hK
  obtain ⟨f0,f1,f2,f3,f4,f5⟩:=hf it (by simp)
  have W:=Walks.range (prog:=X.prog) (w:=X.w) (I.ok.hd hc) it lo 1 n
  refine W.item i s _ _ hg st fun v h' tk hv rL kk=>?_
  obtain ⟨t,rfl⟩:=hv
  have I1:Inv X pins σ H { s with heap:=h',toks:=tk }:=I.turned (fun b o hb e=>kk b o (by simpa using hb) e) f0 f1 f3 f4 f5
  refine ⟨_,rfl,rX (s:={ s with heap:=h',toks:=tk }) (n:="range_iterator") rL rfl rfl (by decide) ⟨.int (lo+i),H,I1,⟨t,?_⟩,⟨rfl,rfl⟩,rL,fun b hb=>(hf b hb).1⟩⟩
  rw[Int.mul_one]
 done:=by
  intro X hP hw hK hc i pins s σ H E I hf st hg
  subst hP hw hK
  obtain ⟨f0,f1,f2,f3,f4,f5⟩:=hf it (by simp)
  exact wpAny_pyNext_range_end (I.ok.hd hc) st (by have:n<=i:=hg;omega) fun h' eb=>⟨rfl,I.turned (t':=s.toks) (fun b o hb e=>eb b o hb e) f0 f1 f3 f4 f5⟩
 self:=fun _ _ _ _ _ st h=>wpAny_pyIter_rangeiter st h
section
variable {X:Cx} {tg:Expr}
def EA (K:PySem.W.Frag) (tl:TE):TI:=fun σ H R=>tl σ H fun x H1=> ∃a,x= .ref a/\(∃xs,bK K H1 a xs)/\R (HV K a) H1
def JW (K:PySem.W.Frag) (tl:TE):TI:=fun σ H R=>tl σ H fun x H1=> ∃a,x= .ref a/\(∃xs,cy K H1 a xs)/\R (Nq K a) H1
theorem CF {l:Expr} {tl:TE} (hl:PE X l tl):PI X tg l (EA X.K tl):=by
 intro pins s σ H R I h
 refine bV (hl pins s σ H _ I h) fun v s1 ⟨x,H1,I1,r1,q1⟩=>?_
 obtain ⟨a,e,⟨xs,hq⟩,q⟩:=q1
 subst e
 cases r1
 obtain ⟨aJ,rv,p,hz⟩:=I1.list hq
 refine wpAny_pyIter_list p.isList ?_
 refine ⟨s1.heap.objs.size,[s1.heap.objs.size],_,_,H1,rfl,I1.kept (t':=s1.toks) fun b o e=>Pd _ e,xZ a _,⟨_,TX _ rfl,rfl,rfl⟩,fun b hb=>?_,q⟩
 have e:b=s1.heap.objs.size:=by simpa using hb
 subst e
 exact I1.nV (Mj _) (I1.bR.fresh (Mj _))
theorem Fx {l:Expr} {tl:TE} (hl:PE X l tl):PI X tg l (JW X.K tl):=by
 intro pins s σ H R I h
 refine bV (hl pins s σ H _ I h) fun v s1 ⟨x,H1,I1,r1,q1⟩=>?_
 obtain ⟨a,e,⟨xs,hq⟩,q⟩:=q1
 subst e
 cases r1
 obtain ⟨aJ,rv,p,hz⟩:=I1.tuple hq
 refine wpAny_pyIter_tuple (show s1.heap.IsTuple a aJ.toArray from p) ?_
 refine ⟨s1.heap.objs.size,[s1.heap.objs.size],_,_,H1,rfl,I1.kept (t':=s1.toks) fun b o e=>Pd _ e,ux a _,⟨_,TX _ rfl,rfl,rfl⟩,fun b hb=>?_,q⟩
 have e:b=s1.heap.objs.size:=by simpa using hb
 subst e
 exact I1.nV (Mj _) (I1.bR.fresh (Mj _))
theorem rY {pins:List (Addr×Obj)} {σ:St} {H:Hp} {s:Shared} {R:It->Hp->Prop} {E:Value->Shared->Prop} {lo hi:Int} {t u v:Tok} {tk:Nat} (I:Inv X pins σ H s) (h1: -(2 ^ 62)<=lo) (h2:lo<2 ^ 62) (h3: -(2 ^ 62)<=hi) (h4:hi<2 ^ 62)
  (q:R (Ez lo (hi - lo).toNat) H):wpAny (model X.prog X.w) X.A (pyIter (.ref s.heap.objs.size)) (O6 X pins σ tg R) E { s with heap:=s.heap.push { cls:= .type "range",data:= .fields #[.int lo t, .int hi u, .int 1 v] },toks:=tk }:=by
 refine wpAny_pyIter_range (IsRange.new ..) (small_one h1 h2 h3 h4) ?_
 have I1:Inv X pins σ H { s with heap:=s.heap.push { cls:= .type "range",data:= .fields #[.int lo t, .int hi u, .int 1 v] },toks:=tk }:=I.kept fun b o e=>Pd _ e
 refine ⟨(s.heap.push { cls:= .type "range",data:= .fields #[.int lo t, .int hi u, .int 1 v] }).objs.size,[(s.heap.push { cls:= .type "range",data:= .fields #[.int lo t, .int hi u, .int 1 v] }).objs.size],_,_,H,rfl,
  I1.kept (t':=tk) fun b o e=>Pd _ e,uy _ lo (hi - lo).toNat,?_,fun b hb=>?_,q⟩
 ·have e1:lo+((0:Nat):Int)*1=lo:=by simp
  have e2:(((hi - lo).toNat:Nat):Int) - ((0:Nat):Int)=Builtin.Range.rangeSize lo hi 1:=by rw[rangeSize_one];split<;>omega
  show IsRangeIter _ _ (lo+((0:Nat):Int)*1) ((((hi - lo).toNat:Nat):Int) - ((0:Nat):Int)) 1
  rw[e1,e2]
  exact TX _ rfl
 ·have e:b=(s.heap.push { cls:= .type "range",data:= .fields #[.int lo t, .int hi u, .int 1 v] }).objs.size:=by simpa using hb
  subst e
  exact I1.nV (Mj _) (I1.bR.fresh (Mj _))
def JX (ta:TA):TI:=fun σ H R=>ta σ H fun vs H1=> ∃j:Int,vs=[.int j]/\ -(2 ^ 62)<=j/\j<2 ^ 62/\R (Ez 0 j.toNat) H1
def JY (ta:TA):TI:=fun σ H R=>ta σ H fun vs H1=> ∃i j:Int,vs=[.int i, .int j]/\(-(2 ^ 62)<=i/\i<2 ^ 62/\ -(2 ^ 62)<=j/\j<2 ^ 62)/\R (Ez i (j - i).toNat) H1
theorem iq {a:Expr} {ta:TA} {p pos:Pos} (hg:Gl X "range") (hm:X.mg "range"=none) (ha:PA X [a] ta) (hs:starEach [a] X.env=[(false,eval a X.env)]:=by rfl):PI X tg (.Call (.Name "range" p) [a] [] pos) (JX ta):=by
 intro pins s σ H R I h
 refine Call_ (gh I hg hm boot_range (UB (bV (ha pos pins s σ H _ I h) fun us s1 ⟨vs,H1,I1,r1,q1⟩=>?_) hs rfl))
 obtain ⟨j,e,q1,q2,q⟩:=q1
 subst e
 cases r1 with
 | cons r rr=>
  cases rr
  obtain ⟨t,rfl⟩:=r
  exact call_range_1 (rY I1 (by omega) (by omega) q1 q2 (by simpa using q))
theorem oH {a b:Expr} {ta:TA} {p pos:Pos} (hg:Gl X "range") (hm:X.mg "range"=none) (ha:PA X [a,b] ta) (hs:starEach [a,b] X.env=[(false,eval a X.env),(false,eval b X.env)]:=by rfl) (JZ:starEach [b] X.env=[(false,eval b X.env)]:=by rfl):
  PI X tg (.Call (.Name "range" p) [a,b] [] pos) (JY ta):=by
 intro pins s σ H R I h
 refine Call_ (gh I hg hm boot_range (UB (bV (ha pos pins s σ H _ I h) fun us s1 ⟨vs,H1,I1,r1,q1⟩=>?_) (by rw[hs,JZ]) (by rw[JZ];rfl)))
 obtain ⟨i,j,e,⟨q1,q2,q3,q4⟩,q⟩:=q1
 subst e
 cases r1 with
 | cons r rr=>
  cases rr with
  | cons r' rr=>
   cases rr
   obtain ⟨t,rfl⟩:=r
   obtain ⟨t',rfl⟩:=r'
   exact call_range_2 (rY I1 q1 q2 q3 q4 q)
def Nr (wi:TI) (g:TG) (tb:TS):TS:=fun D σ H=>wi σ H fun J H1=> ∃W:Nat->Nat->St->Hp->Prop,(∃m,W 0 m σ H1)/\ ∀i m σ H,W i m σ H->
 (J.stop i H/\D.nx σ H)\/(J.go i H/\ ∃N:St->Hp->Prop,(∀σ' H',N σ' H'-> ∃m',m'<m/\W (i+1) m' σ' H')/\ ∀x H',J.zC i H x H'->g x σ H' fun σ2 H2=>tb { D with nx:=N,ct:=N,bk:=D.nx } σ2 H2)
noncomputable def mi (fp:List Addr) (h:Heap):List (Addr×Obj):=fp.filterMap fun b=>(h.get? b).map fun o=>(b,o)
theorem gi {fp:List Addr} {h:Heap} {b:Addr} {o:Obj} (hb:b∈fp) (e:h.get? b=some o):(b,o)∈mi fp h:=List.mem_filterMap.mpr ⟨b,hb,by rw[e];rfl⟩
theorem x3 {fp:List Addr} {h:Heap} {p:Addr×Obj} (hp:p∈mi fp h):p.1∈fp/\h.get? p.1=some p.2:=by
 obtain ⟨b,hb,e⟩:=List.mem_filterMap.mp hp
 cases q:h.get? b with
 | none=>rw[q]at e;cases e
 | some o=>
  rw[q]at e
  have e':(b,o)=p:=TZ e
  subst e'
  exact ⟨hb,q⟩
theorem Inv.pinned {pins:List (Addr×Obj)} {σ:St} {H:Hp} {s:Shared} {fp:List Addr} (I:Inv X pins σ H s) (hf: ∀b∈fp,kZ X pins H b) (ho: ∀b∈fp, ∃o,s.heap.get? b=some o/\ ∀v,o.data≠ .cell v):Inv X (pins++mi fp s.heap) σ H s:=
 I.jj fun p hp=>(T9.mp hp).elim (fun z=>I.pin p (T8 _ z)) fun z=>by
  obtain ⟨hb,e⟩:=x3 z
  obtain ⟨f0,f1,f2,_⟩:=hf p.1 hb
  obtain ⟨o,e',d⟩:=ho p.1 hb
  rw[e]at e';cases e'
  exact ⟨e,f0,f1,f2,d⟩
theorem Inv.jl {pins pl:List (Addr×Obj)} {σ:St} {H:Hp} {s:Shared} (I:Inv X (pins++pl) σ H s):Inv X pins σ H s:=I.jj fun p hp=>I.pin p (T8 _ (Vj _ hp))
theorem cW {iter:Expr} {body:List Stmt} {wi:TI} {g:TG} {tb:TS} {pos:Pos} (hp:PassesOwn (model X.prog X.w) X.A X.env X.xe) (hc:X.calm=true) (hi:PI X tg iter wi) (hg:PG X tg g) (hb:uu X body tb)
  (hs: ∀x,foldedSetIterable iter X.env x=pure x:=by intro _;rfl):PS X (.For tg iter body [] pos) (Nr wi g tb):=by
 intro pins s σ H D I h
 refine wpAny_For (bV (hi pins s σ H _ I h) fun v s1 h1=>bV h1 fun Np s2 h2=>?_) hs
 obtain ⟨it,fp,tn,J,H2,e,I2,T,ug,f2,W,⟨m0,w0⟩,turn⟩:=h2
 subst e
 -- QD stays true of Cj Fy objects through Cj loop
 have Fz: ∀{H':Hp},(∀b∈fp,H' b=none)-> ∀b∈fp,kZ X pins H' b:=fun hn b hb=>⟨hn b hb,(f2 b hb).2⟩
 refine codeAny_forLoop_any (fun n s'=> ∃i σ' H',Inv X pins σ' H' s'/\tn i s'.heap/\(∀b∈fp,H' b=none)/\W i n σ' H') ?_ m0 ⟨0,σ,H2,I2,ug,fun b hb=>(f2 b hb).1,w0⟩
 rintro n s3 ⟨i,σ3,H3,I3,J0,J1,w3⟩
 rcases turn i n σ3 H3 w3 with ⟨stop,qn⟩ | ⟨go,N,hN,step⟩
 ·refine wpAny_passesOwn hp (bV (T.done X rfl rfl rfl hc i pins s3 σ3 H3 X.xe I3 (Fz J1) J0 stop) fun r s4 ⟨hr,I4⟩=>?_)
  subst hr
  exact wpAny_execs_nil ⟨σ3,H3,I4,qn⟩
 ·refine wpAny_passesOwn hp (bV (T.item X rfl rfl rfl hc i pins s3 σ3 H3 X.xe I3 (Fz J1) J0 go) fun r s4 ⟨u,hr,h4⟩=>?_)
  subst hr
  refine wpAny_passesOwn hp (bV h4 fun _ s5 ⟨x,H5,I5,r5,y5,FA,Nt⟩=>?_)
  have Nu:=I5.pinned (Fz Nt) (T.obj _ _ FA)
  refine wpAny_passesOwn hp (bV (hg _ s5 σ3 H5 x u _ Nu r5 (step x H5 y5)) fun _ s6 ⟨σ6,H6,I6,q6⟩=>?_)
  refine wpAny_passesOwn hp (bV (hb _ s6 σ6 H6 _ I6 q6) fun f s7 q7=>?_)
  have again: ∀{σ7:St} {H7:Hp},Inv X (pins++mi fp s5.heap) σ7 H7 s7->N σ7 H7-> ∃m,m<n/\ ∃i σ' H',Inv X pins σ' H' s7/\tn i s7.heap/\(∀b∈fp,H' b=none)/\W i m σ' H':=fun {σ7 H7} I7 n7=>by
   obtain ⟨m',hm,w7⟩:=hN σ7 H7 n7
   refine ⟨m',hm,i+1,σ7,H7,I7.jl,T.keep _ _ _ FA fun b hb o e=>(I7.pin (b,o) (T8 _ (T8 _ (gi hb e)))).1,fun b hb=>?_,w7⟩
   obtain ⟨o,e,d⟩:=T.obj _ _ FA b hb
   exact (I7.pin (b,o) (T8 _ (T8 _ (gi hb e)))).2.1
  cases f with
  | next=>obtain ⟨σ7,H7,I7,n7⟩:=q7;exact again I7 n7
  | cont=>obtain ⟨σ7,H7,I7,n7⟩:=q7;exact again I7 n7
  | brk=>obtain ⟨σ7,H7,I7,q7⟩:=q7;exact ⟨σ7,H7,I7.jl,q7⟩
  | ret v=>obtain ⟨x7,σ7,H7,I7,r7,q7⟩:=q7;exact ⟨x7,σ7,H7,I7.jl,r7,q7⟩
end
theorem jm {K:PySem.W.Frag} {a:Addr} {xs:List V} {g:TG} {tb:TS} {D:Ends} {σ:St} {H:Hp} (Pv:Nat->St->Hp->Prop) (h0:Pv 0 σ H) (hl: ∀i σ H,i<=xs.length->Pv i σ H->bK K H a xs)
  (hs: ∀i x σ H,xs[i]? =some x->Pv i σ H->g x σ H fun σ2 H2=>tb { D with nx:=Pv (i+1),ct:=Pv (i+1),bk:=D.nx } σ2 H2) (hd: ∀σ H,Pv xs.length σ H->D.nx σ H):
  ∃W:Nat->Nat->St->Hp->Prop,(∃m,W 0 m σ H)/\ ∀i m σ H,W i m σ H->
   ((HV K a).stop i H/\D.nx σ H)\/((HV K a).go i H/\ ∃N:St->Hp->Prop,(∀σ' H',N σ' H'-> ∃m',m'<m/\W (i+1) m' σ' H')/\ ∀x H',(HV K a).zC i H x H'->g x σ H' fun σ2 H2=>tb { D with nx:=N,ct:=N,bk:=D.nx } σ2 H2):=by
 refine ⟨fun i m σ H=>m=xs.length - i/\i<=xs.length/\Pv i σ H,⟨xs.length,by simp,Ti _,h0⟩,?_⟩
 rintro i m σ H ⟨rfl,hi,p⟩
 have q:=hl i σ H hi p
 by_cases dc:i<xs.length
 ·refine .inr ⟨⟨xs,xs[i],q,by simp[dc]⟩,Pv (i+1),fun σ' H' p'=>⟨xs.length - (i+1),by omega,rfl,dc,p'⟩,fun x H' y=>?_⟩
  obtain ⟨e,y⟩:=y
  subst e
  exact hs i x σ _ (y xs q) p
 ·have e:i=xs.length:=by omega
  subst e
  exact .inl ⟨⟨xs,q,Mj _⟩,hd σ H p⟩
theorem fT {lo:Int} {n:Nat} {g:TG} {tb:TS} {D:Ends} {σ:St} {H:Hp} (Pv:Nat->St->Hp->Prop) (h0:Pv 0 σ H)
  (hs: ∀i σ H,i<n->Pv i σ H->g (.int (lo+i)) σ H fun σ2 H2=>tb { D with nx:=Pv (i+1),ct:=Pv (i+1),bk:=D.nx } σ2 H2) (hd: ∀σ H,Pv n σ H->D.nx σ H):
  ∃W:Nat->Nat->St->Hp->Prop,(∃m,W 0 m σ H)/\ ∀i m σ H,W i m σ H->
   ((Ez lo n).stop i H/\D.nx σ H)\/((Ez lo n).go i H/\ ∃N:St->Hp->Prop,(∀σ' H',N σ' H'-> ∃m',m'<m/\W (i+1) m' σ' H')/\ ∀x H',(Ez lo n).zC i H x H'->g x σ H' fun σ2 H2=>tb { D with nx:=N,ct:=N,bk:=D.nx } σ2 H2):=by
 refine ⟨fun i m σ H=>m=n - i/\i<=n/\Pv i σ H,⟨n,by simp,Ti _,h0⟩,?_⟩
 rintro i m σ H ⟨rfl,hi,p⟩
 by_cases dc:i<n
 ·refine .inr ⟨dc,Pv (i+1),fun σ' H' p'=>⟨n - (i+1),by omega,rfl,dc,p'⟩,fun x H' y=>?_⟩
  obtain ⟨e,y⟩:=y
  subst e y
  exact hs i σ _ dc p
 ·have e:i=n:=by omega
  subst e
  exact .inl ⟨Mj _,hd σ H p⟩
abbrev R2:=V->V->Hp->VK->Prop
def jn (X:Cx) (f:Value->Value->Sem Value) (r:R2):Prop:=
 ∀(pins:List (Addr×Obj)) (s:Shared) (σ:St) (H:Hp) (x y:V) (v u:Value) (Q:VK),Inv X pins σ H s->RelV x v->RelV y u->r x y H Q->
  wpAny (model X.prog X.w) X.A (f v u) (EP X pins σ Q) X.xe s
def Nv (X:Cx) (f:Value->Sem Value) (r:V->Hp->VK->Prop):Prop:=
 ∀(pins:List (Addr×Obj)) (s:Shared) (σ:St) (H:Hp) (x:V) (v:Value) (Q:VK),Inv X pins σ H s->RelV x v->r x H Q->
  wpAny (model X.prog X.w) X.A (f v) (EP X pins σ Q) X.xe s
def de (X:Cx) (f:Value) (r:List V->Hp->VK->Prop):Prop:=
 ∀(pins:List (Addr×Obj)) (s:Shared) (σ:St) (H:Hp) (xs:List V) (us:List Value) (Q:VK),Inv X pins σ H s->Vals xs us->r xs H Q->
  wpAny (model X.prog X.w) X.A (call f us) (EP X pins σ Q) X.xe s
def Nw (X:Cx) (r:V->Hp->(Bool->Hp->Prop)->Prop):Prop:=
 ∀(pins:List (Addr×Obj)) (s:Shared) (σ:St) (H:Hp) (x:V) (v:Value) (Q:Bool->Hp->Prop),Inv X pins σ H s->RelV x v->r x H Q->
  wpAny (model X.prog X.w) X.A (truthy v) (TP X pins σ Q) X.xe s
def HW (r:R2) (ta tb:TE):TE:=fun σ H Q=>ta σ H fun x H1=>tb σ H1 fun y H2=>r x y H2 Q
def O7 (r:V->Hp->VK->Prop) (ta:TE):TE:=fun σ H Q=>ta σ H fun x H1=>r x H1 Q
def rI (C:Int->Int->Prop) (g:Int->Int->V):R2:=fun x y H Q=> ∃i j,x= .int i/\y= .int j/\C i j/\Q (g i j) H
def Ck (g:Int->Int->V):R2:=fun x y H Q=> ∃i j,x= .int i/\y= .int j/\Q (g i j) H
def rU (g:Int->V):V->Hp->VK->Prop:=fun x H Q=> ∃i,x= .int i/\Q (g i) H
section
variable {X:Cx} {a b c:Expr} {ta tb tc:TE} {pos:Pos}
theorem FC (ha:PE X a ta) (hb:PE X b tb) {pins:List (Addr×Obj)} {s:Shared} {σ:St} {H:Hp} {R:V->V->Hp->Prop} (I:Inv X pins σ H s)
  (h:ta σ H fun x H1=>tb σ H1 fun y H2=>R x y H2) {Q:Value->Shared->Prop} {f:Value->Value->Sem Value}
  (hf: ∀v u s2 x y H2,Inv X pins σ H2 s2->RelV x v->RelV y u->R x y H2->wpAny (model X.prog X.w) X.A (f v u) Q X.xe s2):
  wpAny (model X.prog X.w) X.A (eval a X.env) (fun v s₁=>wpAny (model X.prog X.w) X.A (eval b X.env) (fun u s₂=>wpAny (model X.prog X.w) X.A (f v u) Q X.xe s₂) X.xe s₁) X.xe s:=by
 refine bV (ha pins s σ H _ I h) fun v s1 ⟨x,H1,I1,r1,q1⟩=>?_
 refine bV (hb pins s1 σ H1 _ I1 q1) fun u s2 ⟨y,H2,I2,r2,q2⟩=>?_
 exact hf v u s2 x y H2 I2 r1 r2 q2
theorem aB {op:Operator} {r:R2} (ho:jn X (binaryOp op) r) (ha:PE X a ta) (hb:PE X b tb):PE X (.BinOp a op b pos) (HW r ta tb):=by
 intro pins s σ H Q I h
 exact wpAny_BinOp (FC ha hb I h fun v u s2 x y H2 I2 rx ry q=>ho pins s2 σ H2 x y v u Q I2 rx ry q)
theorem rZ {op:UnaryOp} {r:V->Hp->VK->Prop} (ho:Nv X (unaryOp op) r) (ha:PE X a ta):PE X (.UnaryOp op a pos) (O7 r ta):=by
 intro pins s σ H Q I h
 exact UnaryOp_ (bV (ha pins s σ H _ I h) fun v s1 ⟨x,H1,I1,r1,q1⟩=>ho pins s1 σ H1 x v Q I1 r1 q1)
theorem Me {f:Value->Value->Sem Value} {C:Int->Int->Prop} {g:Int->Int->Int}
  (rule: ∀(i j:Int) (t u:Tok) (s:Shared) (Q:Value->Shared->Prop) (E:Value->Shared->Prop),C i j->Q (.int (g i j) s.toks) { s with toks:=s.toks+1 }->wpAny (model X.prog X.w) X.A (f (.int i t) (.int j u)) Q E s):
  jn X f (rI C fun i j=> .int (g i j)):=by
 intro pins s σ H x y v u Q I rx ry h
 obtain ⟨i,j,rfl,rfl,hc,q⟩:=h
 obtain ⟨t,rfl⟩:=rx
 obtain ⟨t',rfl⟩:=ry
 exact rule i j t t' s _ _ hc ⟨.int (g i j),H,I.tok _,⟨_,rfl⟩,q⟩
theorem J2 {f:Value->Value->Sem Value} {g:Int->Int->Int}
  (rule: ∀(i j:Int) (t u:Tok) (s:Shared) (Q:Value->Shared->Prop) (E:Value->Shared->Prop),Q (.int (g i j) s.toks) { s with toks:=s.toks+1 }->wpAny (model X.prog X.w) X.A (f (.int i t) (.int j u)) Q E s):
  jn X f (Ck fun i j=> .int (g i j)):=by
 intro pins s σ H x y v u Q I rx ry h
 obtain ⟨i,j,rfl,rfl,q⟩:=h
 obtain ⟨t,rfl⟩:=rx
 obtain ⟨t',rfl⟩:=ry
 exact rule i j t t' s _ _ ⟨.int (g i j),H,I.tok _,⟨_,rfl⟩,q⟩
theorem CG {f:Value->Value->Sem Value} {g:Int->Int->Bool}
  (rule: ∀(i j:Int) (t u:Tok) (s:Shared) (Q:Value->Shared->Prop) (E:Value->Shared->Prop),Q (.bool (g i j)) s->wpAny (model X.prog X.w) X.A (f (.int i t) (.int j u)) Q E s):
  jn X f (Ck fun i j=> .bl (g i j)):=by
 intro pins s σ H x y v u Q I rx ry h
 obtain ⟨i,j,rfl,rfl,q⟩:=h
 obtain ⟨t,rfl⟩:=rx
 obtain ⟨t',rfl⟩:=ry
 exact rule i j t t' s _ _ ⟨.bl (g i j),H,I,rfl,q⟩
def Ny (i j:Int):Prop:=0<j/\j<1073741824
def Nz (i j:Int):Prop:=0<=j/\j<=1000000/\i.natAbs<2 ^ 64
def zD (i j:Int):Prop:=(-(2 ^ 64)<i/\i<2 ^ 64)\/(-(2 ^ 64)<j/\j<2 ^ 64)
theorem zD.ok {i j:Int} (h:zD i j):IntMulOk i j:=by
 rcases h with ⟨h1,h2⟩ | ⟨h1,h2⟩
 ·exact .of_left (intBits_le_64 h1 h2)
 ·exact .of_right (intBits_le_64 h1 h2)
theorem aX:jn X (binaryOp .Add) (Ck fun i j=> .int (i+j)):=J2 fun _ _ _ _ _ _ _ q=>add_int q
theorem cJ:jn X (binaryOp .Sub) (Ck fun i j=> .int (i - j)):=J2 fun _ _ _ _ _ _ _ q=>sub_int q
theorem gj:jn X (binaryOp .Mult) (rI zD fun i j=> .int (i*j)):=Me fun _ _ _ _ _ _ _ hc q=>mul_int q hc.ok
theorem dB:jn X (binaryOp .Mod) (rI (fun _ j=>0<j) fun i j=> .int (i%j)):=Me fun i j _ _ _ _ _ hc q=>by
 have h1:(0:Int)<j:=hc
 exact mod_int' (by omega) (by rw[Int.fmod_eq_emod_of_nonneg i (by omega)];exact q)
theorem zE:jn X (binaryOp .Pow) (rI Nz fun i j=> .int (i ^ j.toNat)):=Me fun _ _ _ _ _ _ _ hc q=>pow_int_small hc.1 hc.2.1 hc.2.2 q
theorem QE {f:Value->Sem Value} {g:Int->Int}
  (rule: ∀(i:Int) (t:Tok) (s:Shared) (Q:Value->Shared->Prop) (E:Value->Shared->Prop),Q (.int (g i) s.toks) { s with toks:=s.toks+1 }->wpAny (model X.prog X.w) X.A (f (.int i t)) Q E s):
  Nv X f (rU fun i=> .int (g i)):=by
 intro pins s σ H x v Q I rx h
 obtain ⟨i,rfl,q⟩:=h
 obtain ⟨t,rfl⟩:=rx
 exact rule i t s _ _ ⟨.int (g i),H,I.tok _,⟨_,rfl⟩,q⟩
theorem mj:Nv X (unaryOp .USub) (rU fun i=> .int (-i)):=QE fun _ _ _ _ _ q=>neg_int q
end
noncomputable def J3:V->V->Bool
 | .gB, .gB=>true | .gB, .int _=>true | .int _, .gB=>true | .gB, .bl _=>true | .bl _, .gB=>true | .gB, .str _=>true | .str _, .gB=>true
 | .int _, .int _=>true | .bl _, .bl _=>true | .str _, .str _=>true | .wg _, .wg _=>true
 | .int _, .str _=>true | .str _, .int _=>true | .bl _, .str _=>true | .str _, .bl _=>true
 | _,_=>false
def QF:R2:=fun x y H Q=>J3 x y=true/\Q (.bl (decide (x=y))) H
def QG:R2:=fun x y H Q=>J3 x y=true/\Q (.bl (!decide (x=y))) H
theorem wx {i j:Int}:decide (V.int i=V.int j)=(i==j):=by
 rw[VN]
 simp
theorem zF {i j:Bool}:decide (V.bl i=V.bl j)=(i==j):=by
 rw[VN]
 simp
theorem wz {i j:Str}:decide (V.str i=V.str j)=(i==j):=by
 rw[VN]
 simp
theorem wA {i j:Array UInt8}:decide (V.wg i=V.wg j)=(i.toList==j.toList):=by
 rw[VN]
 cases i
 cases j
 simp
section
variable {X:Cx} {a b c:Expr} {ta tb tc:TE} {pos:Pos}
theorem aZ {pins:List (Addr×Obj)} {σ:St} {H:Hp} {s:Shared} {Q:VK} {k k':Bool} (I:Inv X pins σ H s) (q:Q (.bl k) H) (e:k=k'):EP X pins σ Q (.bool k') s:=by
 subst e
 exact ⟨.bl k,H,I,rfl,q⟩
theorem EB:jn X (compareOp .Eq) QF:=by
 intro pins s σ H x y v u Q I rx ry h
 obtain ⟨hs,q⟩:=h
 cases x with
 | gB=>
  cases rx
  cases y with
  | gB=>cases ry;exact PySem.EqNone.eq_none_none (aZ I q (by simp))
  | bl j=>cases ry;exact PySem.EqNone.eq_none_bool (aZ I q (by simp))
  | int j=>obtain ⟨t',rfl⟩:=ry;exact PySem.EqNone.eq_none_int (aZ I q (by simp))
  | str j=>obtain ⟨t',rfl⟩:=ry;exact PySem.EqNone.eq_none_str (aZ I q (by simp))
  | _=>exact absurd (show false=true from hs) T7
 | bl i=>
  cases rx
  cases y with
  | gB=>cases ry;exact PySem.EqNone.eq_bool_none (aZ I q (by simp))
  | bl j=>cases ry;exact eq_bool (aZ I q zF)
  | str j=>obtain ⟨t',rfl⟩:=ry;exact PySem.EqMixed.eq_bool_str (aZ I q (by simp))
  | _=>exact absurd (show false=true from hs) T7
 | int i=>
  obtain ⟨t,rfl⟩:=rx
  cases y with
  | gB=>cases ry;exact PySem.EqNone.eq_int_none (aZ I q (by simp))
  | int j=>obtain ⟨t',rfl⟩:=ry;exact eq_int (aZ I q wx)
  | str j=>obtain ⟨t',rfl⟩:=ry;exact PySem.EqMixed.eq_int_str (aZ I q (by simp))
  | _=>exact absurd (show false=true from hs) T7
 | str i=>
  obtain ⟨t,rfl⟩:=rx
  cases y with
  | gB=>cases ry;exact PySem.EqNone.eq_str_none (aZ I q (by simp))
  | bl j=>cases ry;exact PySem.EqMixed.eq_str_bool (aZ I q (by simp))
  | int j=>obtain ⟨t',rfl⟩:=ry;exact PySem.EqMixed.eq_str_int (aZ I q (by simp))
  | str j=>obtain ⟨t',rfl⟩:=ry;exact eq_str (aZ I q wz)
  | _=>exact absurd (show false=true from hs) T7
 | wg i=>
  obtain ⟨t,rfl⟩:=rx
  cases y with
  | wg j=>obtain ⟨t',rfl⟩:=ry;exact PySem.W.eq_bytes (aZ I q wA)
  | _=>exact absurd (show false=true from hs) T7
 | _=>cases y<;>exact absurd (show false=true from hs) T7
theorem J4:jn X (compareOp .NotEq) QG:=by
 intro pins s σ H x y v u Q I rx ry h
 obtain ⟨hs,q⟩:=h
 cases x with
 | gB=>
  cases rx
  cases y with
  | gB=>cases ry;exact PySem.EqNone.ne_none_none (aZ I q (by simp))
  | bl j=>cases ry;exact PySem.EqNone.ne_none_bool (aZ I q (by simp))
  | int j=>obtain ⟨t',rfl⟩:=ry;exact PySem.EqNone.ne_none_int (aZ I q (by simp))
  | str j=>obtain ⟨t',rfl⟩:=ry;exact PySem.EqNone.ne_none_str (aZ I q (by simp))
  | _=>exact absurd (show false=true from hs) T7
 | bl i=>
  cases rx
  cases y with
  | gB=>cases ry;exact PySem.EqNone.ne_bool_none (aZ I q (by simp))
  | bl j=>cases ry;exact ne_bool (aZ I q (congrArg not zF))
  | str j=>obtain ⟨t',rfl⟩:=ry;exact PySem.EqMixed.ne_bool_str (aZ I q (by simp))
  | _=>exact absurd (show false=true from hs) T7
 | int i=>
  obtain ⟨t,rfl⟩:=rx
  cases y with
  | gB=>cases ry;exact PySem.EqNone.ne_int_none (aZ I q (by simp))
  | int j=>obtain ⟨t',rfl⟩:=ry;exact ne_int (aZ I q (congrArg not wx))
  | str j=>obtain ⟨t',rfl⟩:=ry;exact PySem.EqMixed.ne_int_str (aZ I q (by simp))
  | _=>exact absurd (show false=true from hs) T7
 | str i=>
  obtain ⟨t,rfl⟩:=rx
  cases y with
  | gB=>cases ry;exact PySem.EqNone.ne_str_none (aZ I q (by simp))
  | bl j=>cases ry;exact PySem.EqMixed.ne_str_bool (aZ I q (by simp))
  | int j=>obtain ⟨t',rfl⟩:=ry;exact PySem.EqMixed.ne_str_int (aZ I q (by simp))
  | str j=>obtain ⟨t',rfl⟩:=ry;exact ne_str (aZ I q (congrArg not wz))
  | _=>exact absurd (show false=true from hs) T7
 | wg i=>
  obtain ⟨t,rfl⟩:=rx
  cases y with
  | wg j=>obtain ⟨t',rfl⟩:=ry;exact PySem.W.ne_bytes (aZ I q (congrArg not wA))
  | _=>exact absurd (show false=true from hs) T7
 | _=>cases y<;>exact absurd (show false=true from hs) T7
theorem oI:jn X (compareOp .Lt) (Ck fun i j=> .bl (decide (i<j))):=CG fun _ _ _ _ _ _ _ q=>lt_int q
theorem J5:jn X (compareOp .LtE) (Ck fun i j=> .bl (decide (i<=j))):=CG fun _ _ _ _ _ _ _ q=>le_int q
theorem wB:jn X (compareOp .Gt) (Ck fun i j=> .bl (decide (j<i))):=CG fun _ _ _ _ _ _ _ q=>gt_int q
theorem wC:jn X (compareOp .GtE) (Ck fun i j=> .bl (decide (j<=i))):=CG fun _ _ _ _ _ _ _ q=>ge_int q
theorem x4:jn X (compareOp .Lt) (fun x y H Q=> ∃i j,x= .str i/\y= .str j/\Q (.bl (decide (i.cps.toList<j.cps.toList))) H):=by
 intro pins s σ H x y v u Q I rx ry h
 obtain ⟨i,j,rfl,rfl,q⟩:=h
 obtain ⟨t,rfl⟩:=rx
 obtain ⟨t',rfl⟩:=ry
 exact lt_str (aZ I q rfl)
theorem x5:jn X (compareOp .In) (fun x y H Q=> ∃i j,x= .str i/\y= .str j/\Q (.bl (!(Builtin.Str.occurrences j i 0 j.length 1).isEmpty)) H):=by
 intro pins s σ H x y v u Q I rx ry h
 obtain ⟨i,j,rfl,rfl,q⟩:=h
 obtain ⟨t,rfl⟩:=rx
 obtain ⟨t',rfl⟩:=ry
 exact in_str (aZ I q rfl)
theorem ba (b:Expr) {op:CmpOp} (h:op≠ .In:=by decide) (h2:op≠ .NotIn:=by decide):behindInMarks op b=false:=by
 have e1:(op==CmpOp.In)=false:=by cases op<;>first | rfl | exact absurd rfl h
 have e2:(op==CmpOp.NotIn)=false:=by cases op<;>first | rfl | exact absurd rfl h2
 cases b<;>simp[behindInMarks,e1,e2]
theorem gk {op:CmpOp} {r:R2} (ho:jn X (compareOp op) r) (ha:PE X a ta) (hb:PE X b tb) (hm:behindInMarks op b=false):PE X (.Compare a [op] [b] pos) (HW r ta tb):=by
 intro pins s σ H Q I h
 exact wpAny_Compare1 (FC ha hb I h fun v u s2 x y H2 I2 rx ry q=>ho pins s2 σ H2 x y v u Q I2 rx ry q) hm
def J6 (t:TE):TT:=fun σ H Q=>t σ H fun x H'=> ∃k,x= .bl k/\Q k H'
theorem a_ {op:CmpOp} {r:R2} (ho:jn X (compareOp op) r) (ha:PE X a ta) (hb:PE X b tb) (hm:behindInMarks op b=false):PT X (.Compare a [op] [b] pos) (J6 (HW r ta tb)):=by
 intro pins s σ H Q I h
 refine wpAny_isTrue_Compare1 (bV (ha pins s σ H _ I h) fun v s1 ⟨x,H1,I1,r1,q1⟩=>bV (hb pins s1 σ H1 _ I1 q1) fun u s2 ⟨y,H2,I2,r2,q2⟩=>
  bV (ho pins s2 σ H2 x y v u _ I2 r1 r2 q2) fun c s3 ⟨z,H3,I3,r3,k,e,q3⟩=>?_) hm
 subst e
 cases r3
 exact wpAny_truthy_bool ⟨H3,I3,q3⟩
def NA (K:PySem.W.Frag) (x:V) (H:Hp) (k:Bool):Prop:=
 match x with
 | .gB=>k=false
 | .bl b=>k=b
 | .int i=>k=(i != 0)
 | .str y=>y.length<=sizeLine/\k=((y.length:Int) != 0)
 | .wg y=>y.size<=sizeLine/\k=((y.size:Int) != 0)
 | .ref p=>(∃xs,bK K H p xs/\k=!xs.isEmpty)\/(∃xs,cy K H p xs/\k=!xs.isEmpty)\/ ∃aI,H p=some (.dK aI)/\k=!aI.isEmpty
 | _=>False
theorem uA {κ:Type} {aI:List (κ×V)} {vs:List (κ×Value)} (r:KV aI vs):(!vs.isEmpty)=!aI.isEmpty:=by
 cases r<;>rfl
theorem ml {xs:List V} {aJ:List Value} (r:Vals xs aJ):(!aJ.toArray.isEmpty)=!xs.isEmpty:=by
 cases r<;>simp
theorem eT:(sizeLine:Nat)<2 ^ 63:=by rw[sizeLine_eq];decide
theorem FD:Nw X (fun x H Q=> ∃k,NA X.K x H k/\Q k H):=by
 intro pins s σ H x v Q I rx h
 obtain ⟨k,e,q⟩:=h
 have hl:=eT
 have hs:sizeLine=16777216:=sizeLine_eq
 cases x with
 | gB=>
  cases rx
  have e':k=false:=e
  subst e'
  exact truthy_none ⟨H,I,q⟩
 | bl b=>
  cases rx
  have e':k=b:=e
  subst e'
  exact wpAny_truthy_bool ⟨H,I,q⟩
 | int i=>
  obtain ⟨t,rfl⟩:=rx
  have e':k=(i != 0):=e
  subst e'
  exact PySem.P.truthy_int ⟨H,I,q⟩
 | str y=>
  obtain ⟨t,rfl⟩:=rx
  obtain ⟨hy,e'⟩:y.length<=sizeLine/\k=((y.length:Int) != 0):=e
  subst e'
  exact PySem.P.truthy_str (by omega) ⟨H,I.tok _,q⟩
 | wg y=>
  obtain ⟨t,rfl⟩:=rx
  obtain ⟨hy,e'⟩:y.size<=sizeLine/\k=((y.size:Int) != 0):=e
  subst e'
  exact PySem.W.truthy_bytes (by omega) ⟨H,I.tok _,q⟩
 | ref p=>
  cases rx
  have e':(∃xs,bK X.K H p xs/\k=!xs.isEmpty)\/(∃xs,cy X.K H p xs/\k=!xs.isEmpty)\/ ∃aI,H p=some (.dK aI)/\k=!aI.isEmpty:=e
  rcases e' with ⟨xs,hx,e'⟩ | ⟨xs,hx,e'⟩ | ⟨aI,hx,e'⟩
  ·subst e'
   obtain ⟨aJ,r,pl,hz⟩:=I.list hx
   have hlen:=r.length
   exact wpAny_truthy_list pl.isList (by simp only[QR];omega) ⟨H,I.tok _,by rw[ml r];exact q⟩
  ·subst e'
   obtain ⟨aJ,r,pl,hz⟩:=I.tuple hx
   have hlen:=r.length
   exact truthy_tuple pl (by simp only[QR];omega) ⟨H,I.tok _,by rw[ml r];exact q⟩
  ·subst e'
   obtain ⟨hz,hS,vs,r,m⟩:aI.length<=sizeLine/\(p==sysModules)=false/\ ∃vs,KV aI vs/\s.heap.DictOf (b5 X.prog X.w) p vs:=I.bR p _ hx
   have hlen:aI.length=vs.length:=Paired.length r
   exact wpAny_truthy_dict hS m (by omega) ⟨H,I.tok _,by rw[uA r];exact q⟩
 | _=>exact (show False from e).elim
theorem uC:jn X (binaryOp .Add) (fun x y H Q=> ∃i j,x= .str i/\y= .str j/\i.length+j.length<=sizeLine/\Q (.str (i++j)) H):=by
 intro pins s σ H x y v u Q I rx ry h
 obtain ⟨i,j,rfl,rfl,hz,q⟩:=h
 obtain ⟨t,rfl⟩:=rx
 obtain ⟨t',rfl⟩:=ry
 exact add_str (fun t' tk=>⟨.str (i++j),H,I.tok _,⟨_,rfl⟩,q⟩) hz
theorem vals1 {x:V} {us:List Value} (r:Vals [x] us): ∃u,us=[u]/\RelV x u:=by
 cases r with
 | cons r1 r2=>cases r2;exact ⟨_,rfl,r1⟩
theorem vals2 {x y:V} {us:List Value} (r:Vals [x,y] us): ∃u w',us=[u,w']/\RelV x u/\RelV y w':=by
 cases r with
 | cons r1 r2=>
  cases r2 with
  | cons r3 r4=>cases r4;exact ⟨_,_,rfl,r1,r3⟩
theorem r6:de X (.builtin "abs") (fun xs H Q=> ∃i,xs=[.int i]/\Q (.int (if i<0 then -i else i)) H):=by
 intro pins s σ H xs us Q I r h
 obtain ⟨i,rfl,q⟩:=h
 obtain ⟨u,rfl,t,rfl⟩:=vals1 r
 exact call_abs_int fun u tk=>⟨.int (if i<0 then -i else i),H,I.tok _,⟨_,rfl⟩,q⟩
theorem oJ (hc:X.calm=true):de X (.builtin "max") (fun xs H Q=> ∃i j,xs=[.int i, .int j]/\Q (.int (if j>i then j else i)) H):=by
 intro pins s σ H xs us Q I r h
 obtain ⟨i,j,rfl,q⟩:=h
 obtain ⟨u,w',rfl,⟨t,rfl⟩,⟨t',rfl⟩⟩:=vals2 r
 refine max_two_ints (I.ok.hd hc) fun h' tk k=>⟨_,H,I.kept k,?_,q⟩
 by_cases hj:j>i
 ·rw[if_pos hj,if_pos hj];exact ⟨_,rfl⟩
 ·rw[if_neg hj,if_neg hj];exact ⟨_,rfl⟩
theorem oK (hc:X.calm=true):de X (.builtin "min") (fun xs H Q=> ∃i j,xs=[.int i, .int j]/\Q (.int (if j<i then j else i)) H):=by
 intro pins s σ H xs us Q I r h
 obtain ⟨i,j,rfl,q⟩:=h
 obtain ⟨u,w',rfl,⟨t,rfl⟩,⟨t',rfl⟩⟩:=vals2 r
 refine min_two_ints (I.ok.hd hc) fun h' tk k=>⟨_,H,I.kept k,?_,q⟩
 by_cases hj:j<i
 ·rw[if_pos hj,if_pos hj];exact ⟨_,rfl⟩
 ·rw[if_neg hj,if_neg hj];exact ⟨_,rfl⟩
theorem j4:de X (.type "int") (fun xs H Q=>(∃i,xs=[.int i]/\Q (.int i) H)\/ ∃k,xs=[.bl k]/\Q (.int (if k then 1 else 0)) H):=by
 intro pins s σ H xs us Q I r h
 rcases h with ⟨i,rfl,q⟩ | ⟨k,rfl,q⟩
 ·obtain ⟨u,rfl,t,rfl⟩:=vals1 r
  exact call_int_int ⟨.int i,H,I,⟨_,rfl⟩,q⟩
 ·obtain ⟨u,rfl,r1⟩:=vals1 r
  cases r1
  exact call_int_bool ⟨.int (if k then 1 else 0),H,I.tok _,⟨_,rfl⟩,q⟩
theorem qb:de X (.type "str") (fun xs H Q=> ∃i,xs=[.int i]/\i.natAbs.log2<1920/\Q (.str (toString i)) H):=by
 intro pins s σ H xs us Q I r h
 obtain ⟨i,rfl,hz,q⟩:=h
 obtain ⟨u,rfl,t,rfl⟩:=vals1 r
 exact PySem.P.str_of_int hz ⟨.str _,H,I.tok _,⟨_,rfl⟩,q⟩
end
structure x6 (h:Heap) (x dx C:Addr) (mA:Str->Option Value):Prop where
 obj:h.get? x=some (PySem.W.instObj C dx)
 ns:h.Ns1 dx mA
 ne:dx≠x
theorem x8 {h:Heap} {dx:Addr} {mA:Str->Option Value} (n:h.Ns1 dx mA): ∃od,h.get? dx=some od/\ ∀name,PySem.W.lookIn name od=some (mA name):=by
 obtain ⟨o,es,ep,ho,hd,hk,_,hm⟩:=n
 refine ⟨o,ho,fun name=>?_⟩
 have e:=hm name
 unfold nsFind findBy at e
 rw[<-Array.find?_toList]at e
 unfold PySem.W.lookIn
 rw[hd]
 dsimp only
 split
 ·rename_i y q
  rw[q]at e
  exact congrArg some e
 ·rename_i q
  rw[q]at e
  have a:es.toList.any (·.refKey)=false:=by
   rw[WC]
   intro y hy
   obtain ⟨z,t,NB⟩:=hk y (Array.mem_toList_iff.mp hy)
   simp[DictEntry.refKey,NB]
  have a': ¬es.toList.any (·.refKey)=true:=by rw[a];exact T7
  rw[if_neg a']
  exact congrArg some e
theorem x6.look {h:Heap} {x dx C:Addr} {mA:Str->Option Value} (I:x6 h x dx C mA): ∃od,PySem.W.InstAt h x (PySem.W.instObj C dx) C (some od)/\ ∀name,PySem.W.lookIn name od=some (mA name):=
 let ⟨od,ho,hl⟩:=x8 I.ns
 ⟨od,⟨I.obj,rfl,rfl,ho⟩,hl⟩
section
variable {prog:Program} {w:World} {A:Around} {E:Value->Shared->Prop} {s:Shared} {K:PySem.W.Frag} {x dx C f:Addr} {mA:Str->Option Value} {name:Str} {v:Value}
theorem get_map {expr:Bool} {Q:Value->Shared->Prop} (X:K.In s.heap) (I:x6 s.heap x dx C mA) (hg:PySem.W.plainGet K C name=true) (hh:PySem.W.hasDictIn K C=true)
  (ha:PySem.W.findIn K (.ref C) name=some none) (hv:mA name=some v) (Mf:PySem.W.handedIn v=true) (h:Q v { s with toks:=s.toks+1 }):
  wpAny (model prog w) A (getAttr (.ref x) name expr) Q E s:=by
 obtain ⟨od,J,hl⟩:=I.look
 exact PySem.W.get_value X J (PySem.W.plainGet_of hg).1 (PySem.W.findObj_own hh ha rfl (by rw[hl,hv])) Mf h
theorem CH {ns:List Str} {Q:Unit->Shared->Prop} (X:K.In s.heap) (I:x6 s.heap x dx C mA)
  (hs:PySem.W.findIn K (.ref C) "__setattr__"=some (some (.builtin "object.__setattr__"))) (hp:PySem.W.plainOver K C=true) (ht:PySem.W.takerIn K C name=some none) (hh:PySem.W.hasDictIn K C=true)
  (hw:PySem.Within mA ns) (hsz:ns.length<=sizeLine)
  (h: ∀h',x6 h' x dx C (fun y=>if y=name then some v else mA y)->Heap.SameBut dx s.heap h'->Q () { s with heap:=h',toks:=s.toks+2 }):
  wpAny (model prog w) A (setAttr (.ref x) name v) Q E s:=by
 obtain ⟨od,J,hl⟩:=I.look
 refine PySem.W.set_plain X J hs (PySem.W.osa_open (s:={ s with toks:=s.toks+1 }) (r:=none) X J hp ht fun b=>?_)
 obtain ⟨cd,hc,M_⟩:=PySem.W.any_some hh
 have hx:s.heap.get? x=some ⟨.ref C,some dx, .plain, #[]⟩:=I.obj
 refine wpAny_bind (wpAny_pure (wpAny_bind (wpAny_bind (wpAny_loadPart hx (wpAny_bind (PySem.W.Looks.here (s:={ s with toks:=s.toks+1 }) (PySem.W.looks_clsIn X hc) ?_))))))
 rw[M_]
 refine wpAny_pure (a:=some dx) (wpAny_bind (wpAny_pure (wpAny_bind ?_)))
 refine wpAny_nsSet1 (s:={ s with toks:=s.toks+1 }) I.ns fun h' wD JZ=>?_
 obtain ⟨oD,Td,Te,QH,QI,QJ⟩:=wD.count (PySem.Within.cons name v hw)
 refine wpAny_bind (wpAny_lookBehind QH (by rw[QI];exact pastItsLine_dict (Ug QJ (by rw[Uu];omega))) ?_)
 exact wpAny_pure (h _ ⟨(JZ.2 _ (Ne.symm I.ne)).trans I.obj,wD,I.ne⟩ JZ)
theorem zG {R:Result->Shared->Prop} {vs:List Value} {kw:List (Str×Value)} (X:K.In s.heap) (hm:PySem.W.makesIn K C=true)
  (hi:PySem.W.findIn K (.ref C) "__init__"=some (some (.ref f))) (hf:PySem.W.typeIn K (.ref f)=some (.type "function"))
  (h:codeAny (model prog w) (A.under (.builtin "type.__call__" ⟨.ref C::vs,kw⟩)) (.call (.ref f) ⟨.ref (s.heap.objs.size+1)::vs,kw⟩) (PySem.W.InitBack (s.heap.objs.size+1) R)
   { s with heap:=(s.heap.push PySem.W.emptyDict).push (PySem.W.instObj C s.heap.objs.size) }):
  codeAny (model prog w) A (.call (.ref C) ⟨vs,kw⟩) R s:=by
 obtain ⟨hh,g,d,t,os⟩:=s
 exact PySem.W.make_core (PySem.W.makes_of X hm) (PySem.W.looks_findIn X hi) (fun self=>PySem.W.bind_fn X self hf) (.inl rfl) h
end
noncomputable def dh (f:Str) (v:V):List (Str×V)->List (Str×V)
 | []=>[(f,v)]
 |(g,x)::r=>if g=f then (g,v)::r else (g,x)::dh f v r
theorem aE (f g:Str) (v:V): ∀fs:List (Str×V),(dh f v fs).lookup g=if g=f then some v else fs.lookup g
 | []=>by
  show List.lookup g [(f,v)]=_
  by_cases h:g=f
  ·have hb:(g==f)=true:=beq_iff_eq.mpr h
   simp only[List.lookup,hb,if_pos h]
  ·have hb:(g==f)=false:=beq_eq_false_iff_ne.mpr h
   simp only[List.lookup,hb,if_neg h]
 |(k,x)::r=>by
  have ih:=aE f g v r
  rw[show dh f v ((k,x)::r)=(if k=f then (k,v)::r else (k,x)::dh f v r) from rfl]
  by_cases hk:k=f
  ·rw[if_pos hk]
   by_cases h:g=k
   ·have hb:(g==k)=true:=beq_iff_eq.mpr h
    simp only[List.lookup,hb,if_pos (h.trans hk)]
   ·have hb:(g==k)=false:=beq_eq_false_iff_ne.mpr h
    simp only[List.lookup,hb,if_neg (fun e:g=f=>h (e.trans hk.symm))]
  ·rw[if_neg hk]
   by_cases h:g=k
   ·have hb:(g==k)=true:=beq_iff_eq.mpr h
    simp only[List.lookup,hb,if_neg (fun e:g=f=>hk (h.symm.trans e))]
   ·have hb:(g==k)=false:=beq_eq_false_iff_ne.mpr h
    simp only[List.lookup,hb]
    exact ih
theorem j5 (f:Str) (v:V): ∀fs:List (Str×V),f∈(dh f v fs).map (·.1)/\ ∀g,g∈fs.map (·.1)->g∈(dh f v fs).map (·.1)
 | []=>⟨by simp[dh],fun g h=>by simp at h⟩
 |(k,x)::r=>by
  obtain ⟨i1,i2⟩:=j5 f v r
  rw[show dh f v ((k,x)::r)=(if k=f then (k,v)::r else (k,x)::dh f v r) from rfl]
  by_cases hk:k=f
  ·rw[if_pos hk]
   subst hk
   exact ⟨by simp,fun g h=>by simpa using h⟩
  ·rw[if_neg hk]
   refine ⟨?_,fun g h=>?_⟩
   ·rw[TV]
    exact Tj _ i1
   ·rw[TV]at h ⊢
    rcases QS.mp h with e | e
    ·exact QS.mpr (.inl e)
    ·exact Tj _ (i2 g e)
theorem kO (f:Str) (v:V): ∀fs:List (Str×V),(dh f v fs).length<=fs.length+1
 | []=>by simp[dh]
 |(k,x)::r=>by
  have ih:=kO f v r
  rw[show dh f v ((k,x)::r)=(if k=f then (k,v)::r else (k,x)::dh f v r) from rfl]
  by_cases hk:k=f
  ·rw[if_pos hk,Uu,Uu];omega
  ·rw[if_neg hk,Uu,Uu];omega
theorem jY.some_of {v:V} {o:Option Value} (r:jY (some v) o): ∃u,o=some u/\RelV v u:=by
 cases o with
 | none=>exact (show False from r).elim
 | some u=>exact ⟨u,rfl,r⟩
theorem x9 {v:V} {u:Value} (r:RelV v u):PySem.W.handedIn u=true:=by
 cases v with
 | gB=>cases (show u=Value.none from r);rfl
 | bl b=>cases (show u=Value.bool b from r);rfl
 | int i=>obtain ⟨t,e⟩:=(show ∃t,u=Value.int i t from r);cases e;rfl
 | str x=>obtain ⟨t,e⟩:=(show ∃t,u=Value.str x t from r);cases e;rfl
 | wg b=>obtain ⟨t,e⟩:=(show ∃t,u=Value.bytes b t from r);cases e;rfl
 | L8 b=>obtain ⟨t,e⟩:=(show ∃t,u=Value.float b t from r);cases e;rfl
 | ref a=>cases (show u=Value.ref a from r);rfl
 | ty n=>cases (show u=Value.type n from r);rfl
section
variable {P:Program} {w:World} {H H':Hp} {h h':Heap} {a C dx:Addr} {fs Qy:List (Str×V)}
theorem wF (bR:iY P w H h) (e:H a=some (.ins C dx fs)): ∃mA,x6 h a dx C mA/\(∀f,jY (fs.lookup f) (mA f))/\PySem.Within mA (fs.map (·.1))/\fs.length<=1000/\H dx=some (.own a):=by
 obtain ⟨d,z,ne,ob,mA,n,r,q⟩:=(show cw P w H h a (.ins C dx fs) from bR a _ e)
 exact ⟨mA,⟨ob,n,ne⟩,r,q,z,d⟩
end
structure EC (K:PySem.W.Frag) (C:Addr):Prop where
 pg:PySem.W.plainGet K C Str.empty=true
 hd:PySem.W.hasDictIn K C=true
 po:PySem.W.plainOver K C=true
 sa:PySem.W.findIn K (.ref C) "__setattr__"=some (some (.builtin "object.__setattr__"))
theorem EC.get {K:PySem.W.Frag} {C:Addr} (c:EC K C) (f:Str):PySem.W.plainGet K C f=true:=c.pg
def di (K:PySem.W.Frag) (C:Addr) (f:Str):Prop:=PySem.W.findIn K (.ref C) f=some none
theorem di.J9 {K:PySem.W.Frag} {C:Addr} {f:Str} (n:di K C f):PySem.W.takerIn K C f=some none:=by
 unfold PySem.W.takerIn
 rw[show PySem.W.findIn K (.ref C) f=some none from n]
 rfl
section
variable {X:Cx} {pins:List (Addr×Obj)} {σ:St} {H:Hp} {s:Shared} {a C dx:Addr} {fs:List (Str×V)} {f:Str} {v:V} {A:Around} {E:Value->Shared->Prop}
theorem uD {b:Bool} {Q:Value->Shared->Prop} (I:Inv X pins σ H s) (e:H a=some (.ins C dx fs)) (c:EC X.K C) (n:di X.K C f) (l:fs.lookup f=some v)
  (h: ∀u s',Inv X pins σ H s'->RelV v u->Q u s'):wpAny (model X.prog X.w) A (getAttr (.ref a) f b) Q E s:=by
 obtain ⟨mA,O,r,_,_,_⟩:=wF I.bR e
 obtain ⟨u,hu,ru⟩:=jY.some_of (v:=v) (o:=mA f) (by rw[<-l];exact r f)
 exact get_map I.xW O (c.get f) c.hd n hu (x9 ru) (h u _ (I.tok _) ru)
theorem uE {y:V} {u:Value} {Q:Unit->Shared->Prop} (I:Inv X pins σ H s) (e:H a=some (.ins C dx fs)) (c:EC X.K C) (n:di X.K C f) (hl:fs.length<1000) (ry:RelV y u)
  (h: ∀s',Inv X pins σ (upd H a (.ins C dx (dh f y fs))) s'->Q () s'):wpAny (model X.prog X.w) A (setAttr (.ref a) f u) Q E s:=by
 obtain ⟨mA,O,r,wi,_,ho⟩:=wF I.bR e
 have hz:(fs.map (·.1)).length<=sizeLine:=by rw[HX,sizeLine_eq];omega
 refine CH I.xW O c.sa c.po n.J9 c.hd wi hz fun h' O' sb=>h _ ?_
 have hd: ∃o,h'.get? dx=some o:=let ⟨o,_,_,e',_⟩:=O'.ns;⟨o,e'⟩
 refine I.write (x:=a) (e:=dx) (by rw[e];exact True.intro) (.inr ho) (fun b q hb z=>(sb.2 b hb).trans z) hd ?_
 refine ⟨by rw[az O.ne];exact ho,?_,O.ne,O'.obj,_,O'.ns,fun g=>?_,fun g hg=>?_⟩
 ·have:=kO f y fs;omega
 ·show jY ((dh f y fs).lookup g) (if g=f then some u else mA g)
  rw[aE]
  by_cases q:g=f
  ·rw[if_pos q,if_pos q];exact ry
  ·rw[if_neg q,if_neg q];exact r g
 ·by_cases q:g=f
  ·rw[q];exact (j5 f y fs).1
  ·refine (j5 f y fs).2 g (wi g fun z=>hg ?_)
   show (if g=f then some u else mA g)=none
   rw[if_neg q];exact z
theorem Inv.made (I:Inv X pins σ H s):Inv X pins σ (upd (upd H s.heap.objs.size (.own (s.heap.objs.size+1))) (s.heap.objs.size+1) (.ins C s.heap.objs.size []))
  { s with heap:=(s.heap.push PySem.W.emptyDict).push (PySem.W.instObj C s.heap.objs.size) }:=by
 have e1:(s.heap.push PySem.W.emptyDict).get? s.heap.objs.size=some PySem.W.emptyDict:=TX s.heap rfl
 have e2:((s.heap.push PySem.W.emptyDict).push (PySem.W.instObj C s.heap.objs.size)).get? (s.heap.objs.size+1)=some (PySem.W.instObj C s.heap.objs.size):=by
  have:=TX (s.heap.push PySem.W.emptyDict) (o:=PySem.W.instObj C s.heap.objs.size) rfl
  rwa [VH]at this
 have e3:(s.heap.push PySem.W.emptyDict).Ns s.heap.objs.size (fun _=>none):=⟨PySem.W.emptyDict, #[],_,e1,rfl,(fun e he=>absurd he (by simp)),fun _=>rfl⟩
 have I1:=I.laid (a:=s.heap.objs.size) (o:= .own (s.heap.objs.size+1)) (h':=s.heap.push PySem.W.emptyDict) (t':=s.toks) (fun b u q=>Pd _ q) (Mj _) ⟨_,e1⟩
 refine I1.laid (a:=s.heap.objs.size+1) (o:= .ins C s.heap.objs.size []) (t':=s.toks) (fun b u q=>Pd _ q) (Nat.le_of_eq (VH _ _)) ?_
 have ne:s.heap.objs.size≠s.heap.objs.size+1:=TY (UW _)
 refine ⟨by rw[az ne,ah],Ti _,ne,e2,fun _=>none,(Heap.Ns1.of_empty e3).at fun o q=>Pd _ q,fun _=>True.intro,fun y hy=>absurd rfl hy⟩
theorem CI {prog:Program} {w:World} {env:Env} {e:Expr} {f:Str} {pos:Pos} {s:Shared} {Q:Value->Shared->Prop} (hb:attributeBase e f env (eval e env)=eval e env)
  (h:wpAny (model prog w) A (eval e env) (fun o s₁=>wpAny (model prog w) A (getAttr o f true) Q E s₁) E s):wpAny (model prog w) A (eval (.Attribute e f pos) env) Q E s:=
 Attribute_any_ h (by rw[arm_eval_Attribute,hb])
end
def J_ (K:PySem.W.Frag) (ta:TE) (f:Str):TE:=fun σ H Q=>ta σ H fun x H1=> ∃a C dx fs v,x= .ref a/\H1 a=some (.ins C dx fs)/\EC K C/\di K C f/\fs.lookup f=some v/\Q v H1
def NC (K:PySem.W.Frag) (ta tv:TE) (f:Str):TS:=fun D σ H=>tv σ H fun y H1=>ta σ H1 fun x H2=> ∃a C dx fs,x= .ref a/\H2 a=some (.ins C dx fs)/\EC K C/\di K C f/\fs.length<1000/\
 D.nx σ (upd H2 a (.ins C dx (dh f y fs)))
section
variable {X:Cx} {o e value:Expr} {f:Str} {pos pos' Ka:Pos} {ta tv:TE}
theorem FE (he:PE X e ta) (hb:attributeBase e f X.env (eval e X.env)=eval e X.env):PE X (.Attribute e f pos) (J_ X.K ta f):=by
 intro pins s σ H Q I h
 refine CI hb (bV (he pins s σ H _ I h) fun u s1 ⟨x,H1,I1,rx,a,C,dx,fs,v,ex,ea,c,n,l,q⟩=>?_)
 subst ex
 obtain rfl:u=Value.ref a:=rx
 exact uD I1 ea c n l fun u' s2 I2 ru=>⟨v,H1,I2,ru,q⟩
theorem gQ (ha:PE X o ta) (hv:PE X value tv) (hs:swapsWith value (some (.Attribute o f pos')) pos.line X.env=pure false):PS X (.Assign [.Attribute o f pos'] value pos) (NC X.K ta tv f):=by
 intro pins s σ H D I h
 refine plainObj_wpAny_Assign_Attribute (bV (hv pins s σ H _ I h) fun u s1 ⟨y,H1,I1,ry,q⟩=>bV (ha pins s1 σ H1 _ I1 q) fun ov s2 ⟨x,H2,I2,rx,a,C,dx,fs,ex,ea,c,n,l,q2⟩=>?_) hs
 subst ex
 obtain rfl:ov=Value.ref a:=rx
 exact uE I2 ea c n l ry fun s3 I3=>⟨σ,_,I3,q2⟩
end
section
variable {X:Cx} {pins:List (Addr×Obj)} {σ:St} {H:Hp} {s:Shared} {A:Around} {E:Value->Shared->Prop} {Q:Value->Shared->Prop} {c:Value} {b:Bool}
end
structure dR (k:Nat) (A:Around):Prop where
 hd:A.handled=none
 dp:A.depth+3*k+5<recursionLimit
 un:A.units+16*k+200<cLine
 gd:A.guards=some []
theorem dR.mono {j k:Nat} {A:Around} (r:dR k A) (h:j<=k):dR j A:=⟨r.hd,by have:=r.dp;omega,by have:=r.un;omega,r.gd⟩
theorem dR.deeper {k:Nat} {A:Around} (r:dR (k+1) A) (env:Env):dR k (A.deeper env):=
 ⟨r.hd,by have:=r.dp;show A.depth+1+3*k+5<_;omega,by have:=r.un;show A.units+3+16*k+200<_;omega,r.gd⟩
theorem uF {A:Around} {C:Addr} {us:List Value} {kw:List (Str×Value)}:(A.under (.builtin "type.__call__" ⟨.ref C::us,kw⟩)).depth=A.depth+1:=by
 first | rfl | simp[Around.under,Code.weight,Code.isCreation,Code.isGuard,Code.isCaller,Code.frames,Code.isFrame,guardIds]
theorem uG {A:Around} {C:Addr} {us:List Value} {kw:List (Str×Value)}:(A.under (.builtin "type.__call__" ⟨.ref C::us,kw⟩)).units=A.units+1:=by
 first | rfl | simp[Around.under,Code.cUnits,Code.frames,Code.isFrame]
theorem dR.make {k:Nat} {A:Around} (r:dR (k+1) A) (C:Addr) (us:List Value) (kw:List (Str×Value)):dR k (A.under (.builtin "type.__call__" ⟨.ref C::us,kw⟩)):=
 ⟨r.hd,by have:=r.dp;rw[uF];omega,by have:=r.un;rw[uG];omega,by first | exact r.gd | (simpa [Around.under,Code.guards,Code.isGuard,pushGuards,guardIds]using r.gd)⟩
theorem dR.depth {k:Nat} {A:Around} (r:dR k A):A.depth<recursionLimit:=by have:=r.dp;omega
theorem dR.units {k:Nat} {A:Around} (r:dR k A):A.units+64<cLine:=by have:=r.un;omega
def CJ:TA:=fun _ H Q=>Q [] H
def mm (ta:TE) (tr:TA):TA:=fun σ H Q=>ta σ H fun x H1=>tr σ H1 fun xs H2=>Q (x::xs) H2
section
variable {X:Cx} {e:Expr} {es:List Expr} {te:TE} {t:TA} {pos:Pos}
theorem ae:PA X [] CJ:=fun _ _ _ _ H Q I h=>Calls.spliced_nil ⟨[],H,I, .nil,h⟩
theorem aa (ha:PE X e te) (hr:PA X es t) (hs:starEach (e::es) X.env=(false,eval e X.env)::starEach es X.env:=by rfl):PA X (e::es) (mm te t):=by
 intro pos pins s σ H Q I h
 rw[hs]
 show wpAny _ _ (spliced ((false,eval e X.env)::backTo pos (starEach es X.env))) _ _ s
 refine Calls.spliced_cons (bV (ha pins s σ H _ I h) fun u s1 ⟨x,H1,I1,r1,q1⟩=>?_)
 exact bV (hr pos pins s1 σ H1 _ I1 q1) fun us s2 ⟨xs,H2,I2,r2,q2⟩=>⟨x::xs,H2,I2, .cons r1 r2,q2⟩
def Kb (t:TA):TE:=fun σ H Q=>t σ H fun xs H1=>xs.length<=sizeLine/\ ∀p,H1 p=none->Q (.ref p) (upd H1 p (.tup xs))
def Kc (t:TA):TE:=fun σ H Q=>t σ H fun xs H1=>xs.length<=sizeLine/\ ∀p,H1 p=none->Q (.ref p) (upd H1 p (.lst xs))
theorem cC {x1} (h:PA X es t):PE X (.Tuple es x1 pos) (Kb t):=by
 intro pins s σ H Q I hq
 refine wpAny_Tuple_spliced (bV (h pos pins s σ H _ I hq) fun us s1 ⟨xs,H1,I1,r,z,q⟩=>⟨by rw[<-r.length];exact z,?_⟩)
 have hf:H1 s1.heap.objs.size=none:=I1.bR.fresh (Mj _)
 refine ⟨.ref s1.heap.objs.size,upd H1 s1.heap.objs.size (.tup xs),I1.laid (t':=s1.toks) (fun b u e=>Pd _ e) (Mj _) ?_,rfl,q _ hf⟩
 exact ⟨z,us,r,⟨_,TX _ rfl,rfl,_,rfl⟩⟩
theorem dj (h:PA X es t):PE X (.List es pos) (Kc t):=by
 intro pins s σ H Q I hq
 refine wpAny_List_spliced (bV (h pos pins s σ H _ I hq) fun us s1 ⟨xs,H1,I1,r,z,q⟩=>⟨by rw[<-r.length];exact z,?_⟩)
 have hf:H1 s1.heap.objs.size=none:=I1.bR.fresh (Mj _)
 refine ⟨.ref s1.heap.objs.size,upd H1 s1.heap.objs.size (.lst xs),I1.laid (t':=s1.toks) (fun b u e=>Pd _ e) (Mj _) ?_,rfl,q _ hf⟩
 exact ⟨z,us,0,r,TX _ rfl⟩
end
abbrev Sp:=List V->Hp->VK->XK->Prop
abbrev x_:=List Env->Hp->Shared->XK->Value->Shared->Prop
structure uH (P:Program) (w:World) (K:PySem.W.Frag) (mg:Str->Option Value) (base:Heap) (A:Around) (outer:List Env) (s:Shared) (H:Hp):Prop where
 frames:A.frames=some outer
 mod:Mod K mg base
 bs: ∀b o,base.get? b=some o->s.heap.get? b=some o/\H b=none
 CB:base.objs.size<=s.heap.objs.size
 kX:s.heap.FunFrames base outer
 Fl: ∀b∈wj outer,H b=none
 bR:iY P w H s.heap
 bare:AllBare s.gens
def CE (outer:List Env) (P:Program) (w:World) (H:Hp) (s:Shared) (Q:VK) (u:Value) (s':Shared):Prop:=
 ∃v H',s'.os=s.os/\AllBare s'.gens/\Un (wj outer) [] H H' s.heap s'.heap/\iY P w H' s'.heap/\RelV v u/\Q v H'
def CR (CX:x_) (outer:List Env) (P:Program) (w:World) (H:Hp) (s:Shared) (Q:VK) (E:XK) (r:Result) (s':Shared):Prop:=
 match r with
 | .ok (.ret u)=>CE outer P w H s Q u s'
 | .ok _=>False
 | .error e=>CX outer H s E e s'
structure bC (P:Program) (w:World) (K:PySem.W.Frag) (mg:Str->Option Value) (base:Heap) (CX:x_) (k:Nat) (f:Addr) (fd:FuncData) (ps:List Str) (sp:Sp):Prop where
 len: ∀vs H Q E,sp vs H Q E->vs.length=ps.length
 run: ∀(A:Around) (outer:List Env) (s:Shared) (H:Hp) (args:Args) (us:List Value) (vs:List V) (Q:VK) (E:XK),dR k A->uH P w K mg base A outer s H->BindsTo s fd args (ps.zip us)->Vals vs us->sp vs H Q E->
  codeAny (model P w) A (.call (.ref f) args) (CR CX outer P w H s Q E) s
theorem uH.make {P:Program} {w:World} {K:PySem.W.Frag} {mg:Str->Option Value} {base:Heap} {A:Around} {outer:List Env} {s:Shared} {H:Hp} (e:uH P w K mg base A outer s H) (C:Addr) (us:List Value) (kw:List (Str×Value)):
  uH P w K mg base (A.under (.builtin "type.__call__" ⟨.ref C::us,kw⟩)) outer s H:=⟨by first | exact e.frames | (simpa [Around.under,Code.envs,Code.isFrame,pushEnvs]using e.frames),e.mod,e.bs,e.CB,e.kX,e.Fl,e.bR,e.bare⟩
section
variable {X:Cx} {pins:List (Addr×Obj)} {σ:St} {H:Hp} {s s':Shared}
theorem Inv.Kd (I:Inv X pins σ H s):uH X.prog X.w X.K X.mg X.base X.A X.stack s H:=
 ⟨I.ok.frames,I.ok.mod,I.bs,Ug I.ok.CB I.sz,I.stack,I.wm,I.bR,I.bare⟩
theorem Inv.after {Q:VK} {u:Value} (I:Inv X pins σ H s) (h:CE X.stack X.prog X.w H s Q u s'):EP X pins σ Q u s':=by
 obtain ⟨v,H',os,bare,un,bR,r,q⟩:=h
 obtain ⟨hh,g,d,t,QK⟩:=s'
 obtain rfl:QK=s.os:=os
 exact ⟨v,H',I.call (h':=hh) (g':=g) (d':=d) (t':=t) (ch:=[]) un bR bare (fun b z=>absurd z (by simp)),r,q⟩
end
def wG (sp:Sp) (dvs:List V) (E:XK) (t:TA):TE:=fun σ H Q=>t σ H fun vs H1=>sp (vs++dvs) H1 Q E
def Ke (C:Addr) (sp:Sp) (dvs:List V) (E:XK) (t:TA):TE:=fun σ H Q=>t σ H fun vs H1=> ∀x dx,H1 x=none->H1 dx=none->dx≠x->
 sp (.ref x::(vs++dvs)) (upd (upd H1 dx (.own x)) x (.ins C dx [])) (fun v H2=>v= .gB/\Q (.ref x) H2) E
def Binds (K:PySem.W.Frag) (fd:FuncData) (ps:List Str) (ds:List Value):Prop:=
 ∀(s:Shared) (us:List Value),K.In s.heap->(us++ds).length=ps.length->BindsTo s fd ⟨us,[]⟩ (ps.zip (us++ds))
theorem Binds.all {K:PySem.W.Frag} {fd:FuncData} {ps:List Str} (h: ∀us:List Value,us.length=ps.length->bindArgs fd ⟨us,[]⟩=pure (ps.zip us)):Binds K fd ps []:=fun s us _ hl=>by
 rw[UH]at hl ⊢
 exact .of_eq (h us hl)
def Passes (CX:x_) (X:Cx) (E:XK):Prop:= ∀(pins:List (Addr×Obj)) (σ:St) (H:Hp) (s:Shared) (e:Value) (s':Shared),Inv X pins σ H s->CX X.stack H s E e s'->X.xe e s'
section
variable {X:Cx} {CX:x_} {k:Nat} {f C:Addr} {fd:FuncData} {ps:List Str} {sp:Sp} {dvs:List V} {ds:List Value} {E:XK} {x m:Str} {p pos apos:Pos} {e o:Expr} {es:List Expr} {ta:TE} {t:TA}
theorem uI {pins:List (Addr×Obj)} {σ:St} {H:Hp} {s:Shared} {Q:VK} {us:List Value} {vs:List V} (F:bC X.prog X.w X.K X.mg X.base CX k f fd ps sp) (hr:dR k X.A) (hb:Binds X.K fd ps ds) (hd:Vals dvs ds) (hx:Passes CX X E)
  (I:Inv X pins σ H s) (r:Vals vs us) (h:sp (vs++dvs) H Q E):wpAny (model X.prog X.w) X.A (call (.ref f) us) (EP X pins σ Q) X.xe s:=by
 have r2:Vals (vs++dvs) (us++ds):=r.append hd
 have hl:(us++ds).length=ps.length:=by rw[<-r2.length];exact F.len _ _ _ _ h
 refine wpAny_call (codeAny_mono (F.run X.A X.stack s H ⟨us,[]⟩ (us++ds) (vs++dvs) Q E hr I.Kd (hb s us I.xW hl) r2 h) fun r s' hq=>?_)
 cases r with
 | error e=>exact hx pins σ H s e s' I hq
 | ok fl=>
  cases fl with
  | ret u=>exact I.after hq
  | next=>exact False.elim hq
  | brk=>exact False.elim hq
  | cont=>exact False.elim hq
theorem ak (F:bC X.prog X.w X.K X.mg X.base CX k f fd ps sp) (hr:dR k X.A) (hg:Gl X x) (hm:X.mg x=some (.ref f)) (hk:PySem.W.keepIn X.K (.ref f)=true) (hb:Binds X.K fd ps ds) (hd:Vals dvs ds) (hx:Passes CX X E)
  (ha:PA X (e::es) t) (FF:(x==("__debug__":Str))=false:=by decide) (he:starEach (e::es) X.env=(false,eval e X.env)::starEach es X.env:=by rfl) (jV:(backTo pos (starEach es X.env)).any (·.1)=false:=by rfl):
  PE X (.Call (.Name x p) (e::es) [] pos) (wG sp dvs E t):=by
 intro pins s σ H Q I h
 refine wpAny_Call_Name_kw (p8 I hg hm ?_ FF)
 refine VS (h₀:=X.base) I.ok.mod.HS hk (bV (ha pos pins s σ H _ I h) fun us s1 ⟨vs,H1,I1,r,q⟩=>⟨I1.xW,?_⟩) he jV
 exact uI F hr hb hd hx I1 r q
structure Mk (K:PySem.W.Frag) (C f:Addr):Prop where
 makes:PySem.W.makesIn K C=true
 init:PySem.W.findIn K (.ref C) "__init__"=some (some (.ref f))
 fn:PySem.W.isFn K (.ref f)=true
 kp:PySem.W.keepIn K (.ref C)=true
theorem zH {pins:List (Addr×Obj)} {σ:St} {H:Hp} {s:Shared} {Q:VK} {us:List Value} {vs:List V} (M:Mk X.K C f) (F:bC X.prog X.w X.K X.mg X.base CX k f fd ps sp) (hr:dR (k+1) X.A) (hb:Binds X.K fd ps ds) (hd:Vals dvs ds)
  (hx:Passes CX X E) (I:Inv X pins σ H s) (r:Vals vs us)
  (h: ∀x dx,H x=none->H dx=none->dx≠x->sp (.ref x::(vs++dvs)) (upd (upd H dx (.own x)) x (.ins C dx [])) (fun v H2=>v= .gB/\Q (.ref x) H2) E):
  wpAny (model X.prog X.w) X.A (call (.ref C) us) (EP X pins σ Q) X.xe s:=by
 have hq:=h (s.heap.objs.size+1) s.heap.objs.size (I.bR.fresh (U9 _)) (I.bR.fresh (Mj _)) (TY (UW _))
 have I2:=Inv.made (C:=C) I
 have r2:Vals (V.ref (s.heap.objs.size+1)::(vs++dvs)) (Value.ref (s.heap.objs.size+1)::(us++ds)):= .cons rfl (r.append hd)
 have hl:(Value.ref (s.heap.objs.size+1)::us++ds).length=ps.length:=by
  have e:=r2.length
  rw[F.len _ _ _ _ hq]at e
  exact e.symm
 refine wpAny_call (zG (f:=f) I.xW M.makes M.init (beq_iff_eq.mp M.fn) (codeAny_mono (F.run _ X.stack _ _ ⟨Value.ref (s.heap.objs.size+1)::us,[]⟩ (Value.ref (s.heap.objs.size+1)::(us++ds)) _ _ E (hr.make C us [])
  (I2.Kd.make C us []) (hb _ (Value.ref (s.heap.objs.size+1)::us) I2.xW hl) r2 hq) fun r s' Kf=>?_))
 cases r with
 | error e=>exact hx pins σ _ _ e s' I2 Kf
 | ok fl=>
  cases fl with
  | ret u=>
   obtain ⟨v,H',I3,rv,ev,q3⟩:=I2.after Kf
   subst ev
   exact ⟨rv,⟨V.ref (s.heap.objs.size+1),H',I3,rfl,q3⟩⟩
  | next=>exact False.elim Kf
  | brk=>exact False.elim Kf
  | cont=>exact False.elim Kf
theorem lM (M:Mk X.K C f) (F:bC X.prog X.w X.K X.mg X.base CX k f fd ps sp) (hr:dR (k+1) X.A) (hg:Gl X x) (hm:X.mg x=some (.ref C)) (hb:Binds X.K fd ps ds) (hd:Vals dvs ds) (hx:Passes CX X E)
  (ha:PA X (e::es) t) (FF:(x==("__debug__":Str))=false:=by decide) (he:starEach (e::es) X.env=(false,eval e X.env)::starEach es X.env:=by rfl) (jV:(backTo pos (starEach es X.env)).any (·.1)=false:=by rfl):
  PE X (.Call (.Name x p) (e::es) [] pos) (Ke C sp dvs E t):=by
 intro pins s σ H Q I h
 refine wpAny_Call_Name_kw (p8 I hg hm ?_ FF)
 refine VS (h₀:=X.base) I.ok.mod.HS M.kp (bV (ha pos pins s σ H _ I h) fun us s1 ⟨vs,H1,I1,r,q⟩=>⟨I1.xW,?_⟩) he jV
 exact zH M F hr hb hd hx I1 r q
end
section
variable {X:Cx} {CX:x_} {k:Nat} {f C:Addr} {fd:FuncData} {ps ks:List Str} {sp:Sp} {E:XK} {x m:Str} {p pos apos QL:Pos} {e o:Expr} {es:List Expr} {Tf:List Keyword} {te ta:TE} {t tk:TA} {nm:Option Str}
variable {g:List Value->List Value->List Value} {gV:List V->List V->List V}
end
structure aD (N P:List Str) (sc:Scope):Prop where
 kind:sc.kind= .function
 co:sc.isCoroutine=false
 gen:sc.isGenerator=false
 nd:N.Nodup
 pre:N.take P.length=P
 par: ∀x∈P,sc.names.lookup x=some .local\/sc.names.lookup x=some .cell
 FG: ∀y∈sc.names,y.2≠ .free
theorem oM {kindOf:Str->Option NameKind} {x:Str}: ∀{binds:List (Str×Value)} {m:Str->Option Value},(∀v,(x,v)∉binds)->bindL kindOf binds m x=m x
 | [],_,_=>rfl
 |(n,v)::r,m,h=>by
  unfold bindL
  rw[oM fun w hw=>h w (Tj _ hw)]
  split
  ·have:x≠n:=by rintro rfl;exact h v TR
   simp[this]
  ·rfl
theorem oN {kindOf:Str->Option NameKind} {x:Str}: ∀{binds:List (Str×Value)} {m:Str->Option Value},(∀v,(x,v)∉binds)->bindC kindOf binds m x=m x
 | [],_,_=>rfl
 |(n,v)::r,m,h=>by
  unfold bindC
  rw[oN fun w hw=>h w (Tj _ hw)]
  split
  ·rfl
  ·have:x≠n:=by rintro rfl;exact h v TR
   simp[this]
theorem oO {kindOf:Str->Option NameKind} {x:Str} {v:Value}: ∀{P:List Str} {vs:List Value} {i:Nat} {m:Str->Option Value},P.Nodup->P[i]? =some x->vs[i]? =some v->kindOf x=some .local->
  bindL kindOf (P.zip vs) m x=some v
 | [],_,_,_,_,h,_,_=>by simp at h
 | _::_,[],_,_,_,_,h,_=>by simp at h
 | p::P,w::vs,0,m,nd,h1,h2,hk=>by
  simp at h1 h2;subst h1;subst h2
  show bindL kindOf ((p,w)::P.zip vs) m p=_
  unfold bindL
  rw[oM fun v hv=>(UA.mp nd).1 (WN hv).1,if_pos hk]
  simp
 | p::P,w::vs,i+1,m,nd,h1,h2,hk=>by
  show bindL kindOf ((p,w)::P.zip vs) m x=_
  unfold bindL
  exact oO (i:=i) (UA.mp nd).2 (by simpa using h1) (by simpa using h2) hk
theorem oP {kindOf:Str->Option NameKind} {x:Str} {v:Value}: ∀{P:List Str} {vs:List Value} {i:Nat} {m:Str->Option Value},P.Nodup->P[i]? =some x->vs[i]? =some v->kindOf x≠some .local->
  bindC kindOf (P.zip vs) m x=some v
 | [],_,_,_,_,h,_,_=>by simp at h
 | _::_,[],_,_,_,_,h,_=>by simp at h
 | p::P,w::vs,0,m,nd,h1,h2,hk=>by
  simp at h1 h2;subst h1;subst h2
  show bindC kindOf ((p,w)::P.zip vs) m p=_
  unfold bindC
  rw[oN fun v hv=>(UA.mp nd).1 (WN hv).1,if_neg hk]
  simp
 | p::P,w::vs,i+1,m,nd,h1,h2,hk=>by
  show bindC kindOf ((p,w)::P.zip vs) m x=_
  unfold bindC
  exact oP (i:=i) (UA.mp nd).2 (by simpa using h1) (by simpa using h2) hk
noncomputable def start (N:List Str) (vs:List V):St:=vs.map some++List.replicate (N.length - vs.length) none
noncomputable def yf (CX:x_) (P:Program) (w:World) (K:PySem.W.Frag) (mg:Str->Option Value) (base:Heap) (N:List Str) (qual:Str) (scope:Scope) (f:Addr) (cd:Value) (A:Around) (outer:List Env) (s:Shared) (H:Hp) (E:XK):Cx where
 prog:=P
 w:=w
 K:=K
 mg:=mg
 base:=base
 A:=A.deeper (envOfC qual scope s.heap.objs.size f cd)
 N:=N
 s₀:=s
 H₀:=H
 env:=envOfC qual scope s.heap.objs.size f cd
 outer:=outer
 stack:=envOfC qual scope s.heap.objs.size f cd::outer
 ex:=[]
 calm:=true
 fn:=fun _=>true
 pn:=[]
 xe:=fun e s'=>wpAny (model P w) (A.deeper (envOfC qual scope s.heap.objs.size f cd)) (leaving (envOfC qual scope s.heap.objs.size f cd) e) (fun _ ND=>CX outer H s E e ND) (fun e' ND=>CX outer H s E e' ND) s'
theorem r9 {sc:Scope} {n:Nat} {x:Str} (h:sc.names.lookup x=some .cell): ∃c,(cellsFrom n sc.names []).lookup x=some c:=by
 have q:=PySem.W.cellsFrom_some sc.names n [] (.inl h)
 exact Option.isSome_iff_exists.mp q
theorem yg {CX:x_} {P:Program} {w:World} {K:PySem.W.Frag} {mg:Str->Option Value} {base:Heap} {N ps:List Str} {qual:Str} {scope:Scope} {f:Addr} {cd:Value} {A:Around} {outer:List Env} {s s1:Shared} {H:Hp} {E:XK} {us:List Value} {vs:List V}
  (S:aD N ps scope) (hd:A.handled=none) (e0:uH P w K mg base A outer s H) (hl:vs.length=ps.length) (r:Vals vs us)
  (x:InCallC s s.heap.objs.size (bindL (envOfC qual scope s.heap.objs.size f cd).kindOf (ps.zip us) fun _=>none) (cellsFrom (s.heap.objs.size+1) scope.names []) (bindC (envOfC qual scope s.heap.objs.size f cd).kindOf (ps.zip us) fun _=>none) s1):
  Inv (yf CX P w K mg base N qual scope f cd A outer s H E) [] (start N vs) H s1:=by
 have jV:ps.length<=N.length:=by have:=congrArg List.length S.pre;rw[T4]at this;omega
 obtain ⟨h1,tk,rfl,hk⟩:=x.done
 have Kg: ∀b:Addr,b∉(yf CX P w K mg base N qual scope f cd A outer s H E).ex:=fun b z=>absurd (show b∈([]:List Addr) from z) (by simp)
 refine ⟨⟨e0.mod,S.kind,rfl,rfl,Mj _,fun y z c h1 h2=>?_,fun y hy=>?_,fun y c _ h=>?_,fun _=>hd,Around.frames_deeper e0.frames, .inr ⟨rfl,rfl⟩,fun b z=>absurd z (Kg b),e0.bs,e0.CB,fun b _ _=>Kg b,fun b z=>absurd z (Kg b),e0.kX,e0.Fl⟩,
  rfl,e0.bare,Un.kept hk,⟨_,x.toInCall.ns,fun i y v h1 h2 h3=>?_⟩,fun y c h=>⟨_,x.cell y c h⟩,e0.bR.fresh (Mj _),fun y c h=>?_,fun p hp=>absurd (show p∈([]:List (Addr×Obj)) from hp) (by simp),e0.bR.kept hk,?_⟩
 ·exact name_of_addr x.apart (Vp h1) (Vp h2)
 ·have hy:scope.names.lookup y=some .cell\/scope.names.lookup y=some .free:=hy
  rcases hy with hy | hy
  ·exact r9 hy
  ·exact absurd rfl (S.FG _ (Vp hy))
 ·exact Um (x.above y c (Vp h))
 ·have hi:i<vs.length:=by
   unfold start at h2
   by_cases hi:i<vs.length
   ·exact hi
   ·rw[UZ (by simpa using hi)]at h2
    rw[List.getElem?_replicate]at h2
    split at h2<;>cases h2
  have ha:vs[i]? =some v:=by
   unfold start at h2
   rw[U1 (by simpa using hi),TQ]at h2
   cases e:vs[i]? with
   | none=>rw[e]at h2;cases h2
   | some a=>rw[e]at h2;cases h2;rfl
  obtain ⟨u,hu,rv⟩:=r.get ha
  have hp:ps[i]? =some y:=by
   rw[<-S.pre,List.getElem?_take_of_lt (by omega)];exact h1
  have O8:ps.Nodup:=by rw[<-S.pre];exact S.nd.sublist (List.take_sublist _ _)
  refine ⟨u,rv,?_⟩
  rcases S.par y (TU hp) with k | k
  ·exact .inl ⟨k,oO O8 hp hu k⟩
  ·obtain ⟨c,e⟩:=r9 (n:=s.heap.objs.size+1) k
   refine .inr ⟨.inl k,c,e,?_⟩
   have q:=x.cell y c e
   rw[oP O8 hp hu (by show scope.names.lookup y≠_;rw[k];decide)]at q
   exact q
 ·exact e0.bR.fresh (Um (x.above y c (Vp h)))
 ·unfold start
  show _=N.length
  rw[Tn,HX,List.length_replicate]
  omega
theorem Kh {CX:x_} {P:Program} {w:World} {K:PySem.W.Frag} {mg:Str->Option Value} {base:Heap} {k:Nat} {f:Addr} {name qual:Str} {params:Arguments} {body:List Stmt} {scope:Scope} {dV kV doc pm cA ct oc:Value} {an od:Option Addr}
  {Cm:Array (Option Value)} {N ps:List Str} {sp:Sp} (lk:K.lookup f=some ⟨oc,od, .func (PySem.W.fnOf name qual params body scope dV kV doc pm an cA ct),Cm⟩) (kY:PySem.W.codeIn K cA qual=true) (S:aD N ps scope)
  (len: ∀vs H Q E,sp vs H Q E->vs.length=ps.length)
  (zI: ∀(A:Around) (outer:List Env) (s:Shared) (H:Hp) (vs:List V) (Q:VK) (E:XK),dR k (A.deeper (envOfC qual scope s.heap.objs.size f cA))->sp vs H Q E->
   ∃t,uu (yf CX P w K mg base N qual scope f cA A outer s H E) body t/\t { nx:=fun _ H'=>Q .gB H',rt:=Q } (start N vs) H):
  bC P w K mg base CX (k+1) f (PySem.W.fnOf name qual params body scope dV kV doc pm an cA ct) ps sp:=by
 refine ⟨len,fun A outer s H args us vs Q E hr e0 hb r ED=>?_⟩
 have hl:=len _ _ _ _ ED
 have KX:K.In s.heap:=e0.mod.HS.keeps fun b o e=>(e0.bs b o e).1
 have lim:s.heap.NoLimit:=e0.mod.nolimit.keeps fun b o e=>(e0.bs b o e).1
 have jo: ∀y∈ps.zip us,scope.names.lookup y.1=some .local\/(scope.names.lookup y.1=some .cell/\((cellsFrom (s.heap.objs.size+1) scope.names []).lookup y.1).isSome=true):=fun ⟨n,v⟩ hy=>by
  rcases S.par n (WN hy).1 with q | q
  ·exact .inl q
  ·exact .inr ⟨q,PySem.W.cellsFrom_some _ _ _ (.inl q)⟩
 refine codeAny_call_function hr.depth (KX _ _ lk) rfl S.co S.gen rfl (PySem.W.codeRec_of KX kY) (hb _ _ _ _ ?_)
 refine wpAny_newFunctionEnv_cells S.kind jo fun env he s1 x=>?_
 subst he
 refine ⟨lim.keeps x.toInCall.keep,codeAny_func ?_⟩
 obtain ⟨t,ht,hq⟩:=zI A outer s H vs Q E (hr.deeper _) ED
 have I:Inv (yf CX P w K mg base N qual scope f cA A outer s H E) [] (start N vs) H s1:=yg S hr.hd e0 hl r x
 refine wpAny_mono (ht [] s1 (start N vs) H _ I hq) (fun fl s' hs=>?_) fun e s' hs=>hs
 have fin: ∀{σ':St} {H':Hp} {v:V} {u:Value},Inv (yf CX P w K mg base N qual scope f cA A outer s H E) [] σ' H' s'->RelV v u->Q v H'->CE outer P w H s Q u s':=
  fun {σ' H' v u} J rv q=>⟨v,H',J.os,J.bare,J.base,J.bR,rv,q⟩
 cases fl with
 | ret u=>
  obtain ⟨v,σ',H',J,rv,q⟩:=hs
  exact fin J rv q
 | next=>
  obtain ⟨σ',H',J,q⟩:=hs
  exact fin (v:=V.gB) (u:=Value.none) J rfl q
 | brk=>
  obtain ⟨_,_,_,q⟩:=hs
  exact False.elim q
 | cont=>
  obtain ⟨_,_,_,q⟩:=hs
  exact False.elim q
section
variable {X:Cx} {x:Str} {p pos:Pos} {e:Expr} {es:List Expr} {t:TA} {id T:String} {r:List V->Hp->VK->Prop}
def O9 (r:List V->Hp->VK->Prop) (t:TA):TE:=fun σ H Q=>t σ H fun vs H1=>r vs H1 Q
theorem aL (hc:de X (.builtin id) r) (hg:Gl X x) (hm:X.mg x=none) (hv:bootBuiltins x=some (.builtin id)) (ha:PA X (e::es) t) (hn:x≠"__name__":=by decide) (FF:(x==("__debug__":Str))=false:=by decide)
  (he:starEach (e::es) X.env=(false,eval e X.env)::starEach es X.env:=by rfl) (jV:(backTo pos (starEach es X.env)).any (·.1)=false:=by rfl):PE X (.Call (.Name x p) (e::es) [] pos) (O9 r t):=by
 intro pins s σ H Q I h
 refine wpAny_Call_Name_kw (gh I hg hm hv ?_ hn FF)
 exact PyProof.Rows.callWith_builtin1 (bV (ha pos pins s σ H _ I h) fun us s1 ⟨vs,H1,I1,r1,q1⟩=>hc pins s1 σ H1 vs us Q I1 r1 q1) he jV
theorem cF (hc:de X (.type T) r) (hg:Gl X x) (hm:X.mg x=none) (hv:bootBuiltins x=some (.type T)) (ha:PA X (e::es) t) (hn:x≠"__name__":=by decide) (FF:(x==("__debug__":Str))=false:=by decide)
  (he:starEach (e::es) X.env=(false,eval e X.env)::starEach es X.env:=by rfl) (jV:(backTo pos (starEach es X.env)).any (·.1)=false:=by rfl):PE X (.Call (.Name x p) (e::es) [] pos) (O9 r t):=by
 intro pins s σ H Q I h
 refine wpAny_Call_Name_kw (gh I hg hm hv ?_ hn FF)
 exact UB (bV (ha pos pins s σ H _ I h) fun us s1 ⟨vs,H1,I1,r1,q1⟩=>hc pins s1 σ H1 vs us Q I1 r1 q1) he jV
end
end L2
namespace HT
open PySem PyProof.Rows
section
open PySem.SeqAt
open PySem.AutoSeq1 (wpAny_loadPart')
open PySem.MeetsSeq PySem.MeetsSeq2 PySem.MeetsSeq3
end
section
variable {prog:Program} {w:World} {A:Around} {E:Value->Shared->Prop} {s:Shared}
noncomputable def ir (n d:Nat):Option Int->Nat
 | none=>d
 | some v=>if v<0 then (v+(n:Int)).toNat else min v.toNat n
theorem r_ (n d:Nat):ir n d none=d:=rfl
theorem fz (n d k:Nat):ir n d (some (k:Int))=min k n:=by
 show (if (k:Int)<0 then ((k:Int)+(n:Int)).toNat else min (k:Int).toNat n)=min k n
 rw[if_neg (by omega),Pj]
theorem FH (n d:Nat) (hd:d<=n) (o:Option Int):ir n d o<=n:=by
 cases o with
 | none=>exact hd
 | some v=>
  show (if v<0 then (v+(n:Int)).toNat else min v.toNat n)<=n
  by_cases hv:v<0
  ·rw[if_pos hv];omega
  ·rw[if_neg hv];exact Nat.min_le_right _ _
end
end HT
namespace L2
open PySem PySem.Spec PyProof.Rows
abbrev TO:=St->Hp->(Option Int->Hp->Prop)->Prop
def PO (X:Cx) (e:Option Expr) (t:TO):Prop:=
 ∀(pins:List (Addr×Obj)) (s:Shared) (σ:St) (H:Hp) (Q:Option Int->Hp->Prop),Inv X pins σ H s->t σ H Q->
  wpAny (model X.prog X.w) X.A (evalPart e X.env) (fun u s'=> ∃o H',Inv X pins σ H' s'/\IsPart u o/\Q o H') X.xe s
def CK:TO:=fun _ H Q=>Q none H
def Ki (t:TE):TO:=fun σ H Q=>t σ H fun x H1=> ∃i,x= .int i/\Q (some i) H1
section
variable {X:Cx} {e:Expr} {te:TE} {lo hi:Option Expr} {tl th:TO} {pos p2:Pos}
theorem dI:PO X none CK:=by
 intro pins s σ H Q I h
 rw[evalPart_none]
 exact wpAny_pure ⟨none,H,I, .none,h⟩
theorem bI (h:PE X e te):PO X (some e) (Ki te):=by
 intro pins s σ H Q I hw
 rw[evalPart_some]
 refine bV (h pins s σ H _ I hw) fun u s1 ⟨x,H1,I1,r1,q1⟩=>?_
 obtain ⟨i,rfl,q⟩:=q1
 obtain ⟨t,rfl⟩:=r1
 exact ⟨some i,H1,I1, .int i t,q⟩
def Mg (X:Cx) (r:V->Option Int->Option Int->Hp->VK->Prop):Prop:=
 ∀(pins:List (Addr×Obj)) (s:Shared) (σ:St) (H:Hp) (x:V) (v vl vu:Value) (lo hi:Option Int) (sl:Addr) (Q:VK),Inv X pins σ H s->RelV x v->s.heap.IsSliceOf sl vl vu .none->IsPart vl lo->IsPart vu hi->r x lo hi H Q->
  ∃T id,typeLookup (.type T) "__getitem__"=pure (some (.builtin id))/\s.TypeIs v T/\wpAny (model X.prog X.w) X.A (getItem v (.ref sl)) (EP X pins σ Q) X.xe s
def QM (r:V->Option Int->Option Int->Hp->VK->Prop) (te:TE) (tl th:TO):TE:=fun σ H Q=>te σ H fun x H1=>tl σ H1 fun l H2=>th σ H2 fun u H3=>r x l u H3 Q
theorem bO {r:V->Option Int->Option Int->Hp->VK->Prop} (hr:Mg X r) (he:PE X e te) (hl:PO X lo tl) (hu:PO X hi th):PE X (.Subscript e (.Slice lo hi none p2) pos) (QM r te tl th):=by
 intro pins s σ H Q I h
 refine Subscript_ (bV (he pins s σ H _ I h) fun v s1 ⟨x,H1,I1,r1,q1⟩=>?_)
 refine wpAny_Slice (bV (hl pins s1 σ H1 _ I1 q1) fun vl s2 ⟨l,H2,I2,pl,q2⟩=>bV (hu pins s2 σ H2 _ I2 q2) fun vu s3 ⟨u,H3,I3,pu,q3⟩=>?_)
 rw[evalPart_none]
 refine wpAny_pure ?_
 have I4:Inv X pins σ H3 { s3 with heap:=s3.heap.push { cls:= .type "slice",data:= .fields #[vl,vu, .none] } }:=I3.kept (t':=s3.toks) fun b ob q=>Pd _ q
 obtain ⟨T,id,hT,ht,hg⟩:=hr pins { s3 with heap:=s3.heap.push { cls:= .type "slice",data:= .fields #[vl,vu, .none] } } σ H3 x v vl vu l u s3.heap.objs.size Q I4 r1 (Heap.IsSliceOf.new ..) pl pu q3
 show wpAny (model X.prog X.w) X.A (subscriptTail e (.Slice lo hi none p2) v (.ref s3.heap.objs.size)) (EP X pins σ Q) X.xe { s3 with heap:=s3.heap.push { cls:= .type "slice",data:= .fields #[vl,vu, .none] } }
 exact tail_any (ops:=[.ref s3.heap.objs.size,v]) ht hT hg (by with_unfolding_all rfl)
noncomputable def mq (xs:List V) (lo hi:Option Int):List V:=(xs.drop (HT.ir xs.length 0 lo)).take (HT.ir xs.length xs.length hi - HT.ir xs.length 0 lo)
theorem sd (xs:List V) (lo hi:Option Int):(mq xs lo hi).length<=xs.length:=by
 unfold mq
 rw[T4,T6]
 omega
end
noncomputable def Co (n:Nat) (i:Int):Option Nat:=if 0<=i then (if i<n then some i.toNat else none) else if -(n:Int)<=i then some (i+n).toNat else none
noncomputable def j6 {α:Type} (xs:List α) (i:Int):Option α:=(Co xs.length i).bind fun j=>xs[j]?
theorem wH {n:Nat} {i:Int} {j:Nat} (h:Co n i=some j):seqIndex? i n=some j/\j<n/\ -(n:Int)<=i/\i<n:=by
 unfold Co at h
 by_cases h0:0<=i
 ·rw[if_pos h0]at h
  by_cases h1:i<n
  ·rw[if_pos h1]at h
   have e:i.toNat=j:=TZ h
   exact ⟨by rw[seqIndex_of h0 h1,e],by omega,by omega,h1⟩
  ·rw[if_neg h1]at h;cases h
 ·rw[if_neg h0]at h
  by_cases h1: -(n:Int)<=i
  ·rw[if_pos h1]at h
   have e:(i+n).toNat=j:=TZ h
   exact ⟨by rw[seqIndex_neg (by omega) h1,e],by omega,h1,by omega⟩
  ·rw[if_neg h1]at h;cases h
theorem qc {α:Type} {xs:List α} {i:Int} {v:α} (h:j6 xs i=some v): ∃j,seqIndex? i xs.length=some j/\xs[j]? =some v/\j<xs.length/\ -(xs.length:Int)<=i/\i<xs.length:=by
 unfold j6 at h
 cases e:Co xs.length i with
 | none=>rw[e]at h;cases h
 | some j=>
  rw[e]at h
  obtain ⟨h1,h2,h3,h4⟩:=wH e
  exact ⟨j,h1,h,h2,h3,h4⟩
theorem cR {α:Type} {xs:List α} {j:Nat} {v:α} (h:xs[j]? =some v):j6 xs (j:Int)=some v:=by
 have hj:j<xs.length:=(FX.mp h).1
 have e:Co xs.length (j:Int)=some j:=by
  unfold Co
  rw[if_pos (by omega),if_pos (by omega)];simp
 unfold j6;rw[e];exact h
theorem zJ {α:Type} (xs:List α) (v:α):j6 (xs++[v]) (-1)=some v:=by
 have hl:(xs++[v]).length=xs.length+1:=by simp
 have e:Co (xs++[v]).length (-1)=some xs.length:=by
  unfold Co
  rw[hl,if_neg (by decide),if_pos (by omega)]
  congr 1
  omega
 unfold j6
 rw[e]
 show (xs++[v])[xs.length]? =some v
 simp
def CL (b:Expr):Prop:= ∀o i,subscripted b false o i=operate [o,i] (getItem o i)
def FI (X:Cx) (r:R2):Prop:=
 ∀(value slice:Expr) (pins:List (Addr×Obj)) (s:Shared) (σ:St) (H:Hp) (x y:V) (v u:Value) (Q:VK),Inv X pins σ H s->RelV x v->RelV y u->r x y H Q->
  subscripted slice false v u=operate [v,u] (getItem v u)->wpAny (model X.prog X.w) X.A (subscriptTail value slice v u) (EP X pins σ Q) X.xe s
def yh (X:Cx) (id:String) (r:V->List V->Hp->VK->Prop):Prop:=
 ∀(pins:List (Addr×Obj)) (s:Shared) (σ:St) (H:Hp) (x:V) (xs:List V) (v:Value) (us:List Value) (Q:VK),Inv X pins σ H s->RelV x v->Vals xs us->r x xs H Q->
  wpAny (model X.prog X.w) X.A (call (.builtin id) (v::us)) (EP X pins σ Q) X.xe s
section
variable {X:Cx} {a b:Expr} {ta tb:TE} {pos:Pos}
theorem aN {r:R2} (hr:FI X r) (ha:PE X a ta) (hb:PE X b tb) (hs:CL b):PE X (.Subscript a b pos) (HW r ta tb):=by
 intro pins s σ H Q I h
 exact Subscript_ (FC ha hb I h fun v u s2 x y H2 I2 rx ry q=>hr a b pins s2 σ H2 x y v u Q I2 rx ry q (hs _ _))
def FJ (K:PySem.W.Frag):R2:=fun x y H Q=> ∃p xs i v,x= .ref p/\y= .int i/\bK K H p xs/\j6 xs i=some v/\Q v H
def Kj (K:PySem.W.Frag):R2:=fun x y H Q=> ∃p xs i v,x= .ref p/\y= .int i/\cy K H p xs/\j6 xs i=some v/\Q v H
def NF:R2:=fun x y H Q=> ∃z i c,x= .str z/\y= .int i/\z.length<=sizeLine/\j6 z.cps.toList i=some c/\Q (.str ⟨#[c]⟩) H
theorem CM:FI X (FJ X.K):=by
 intro value slice pins s σ H x y v u Q I rx ry h hs
 obtain ⟨p,xs,i,z,rfl,rfl,hq,he,q⟩:=h
 cases rx
 obtain ⟨t,rfl⟩:=ry
 obtain ⟨aJ,r,pl,hz⟩:=I.list hq
 obtain ⟨j,h1,h2,h3,h4,h5⟩:=qc he
 obtain ⟨w,ew,p_⟩:=r.get h2
 have hl:=r.length
 have hn:=eT
 have fin:EP X pins σ Q w s:=⟨z,H,I,p_,q⟩
 by_cases h0:0<=i
 ·have hj:i.toNat=j:=by
   rw[seqIndex_of h0 h5]at h1
   exact TZ h1
  exact item_listR pl.isList h0 (by omega) (by rw[hj];simpa using ew) fin hs
 ·have hj:(i+(aJ.toArray.size:Int)).toNat=j:=by
   rw[seqIndex_neg (by omega) h4]at h1
   rw[QR, <-hl]
   exact TZ h1
  exact subscriptTail_builtinR (x:=w) pl.isList.typeIs slot_list_getitem.lookup
   (wpAny_getItem_list_neg (Q:=fun r s'=>r=w/\EP X pins σ Q r s') pl.isList (by omega) (by rw[QR]<;>omega) (by omega) (by rw[hj];simpa using ew) ⟨rfl,fin⟩) hs
theorem FK:FI X (Kj X.K):=by
 intro value slice pins s σ H x y v u Q I rx ry h hs
 obtain ⟨p,xs,i,z,rfl,rfl,hq,he,q⟩:=h
 cases rx
 obtain ⟨t,rfl⟩:=ry
 obtain ⟨aJ,r,pl,hz⟩:=I.tuple hq
 obtain ⟨j,h1,h2,h3,h4,h5⟩:=qc he
 obtain ⟨w,ew,p_⟩:=r.get h2
 have hl:=r.length
 have hn:=eT
 have fin:EP X pins σ Q w s:=⟨z,H,I,p_,q⟩
 exact subscriptTail_builtinR (x:=w) pl.typeIs slot_tuple_getitem.lookup
  (getItem_tuple (j:=j) (Q:=fun r s'=>r=w/\EP X pins σ Q r s') pl (by omega) (by omega) (by rw[QR, <-hl];exact h1) (by simpa using ew) ⟨rfl,fin⟩) hs
theorem FL:FI X NF:=by
 intro value slice pins s σ H x y v u Q I rx ry h hs
 obtain ⟨z,i,c,rfl,rfl,hz,he,q⟩:=h
 obtain ⟨t,rfl⟩:=rx
 obtain ⟨t',rfl⟩:=ry
 obtain ⟨j,h1,h2,h3,h4,h5⟩:=qc he
 have hl:z.cps.toList.length=z.length:=by simp[Str.length]
 rw[hl]at h1 h4 h5
 have hn:=eT
 exact tail_any (typeIs_str s z t) slot_str_getitem.lookup (getItem_str (c:=c) (by
  have e1:decide (i< -(2 ^ 63:Int))=false:=decide_eq_false (by omega)
  have e2:decide (i ≥ 2 ^ 63)=false:=decide_eq_false (by omega)
  rw[e1,e2,WU]) (by rw[h1];simpa using h2) ⟨.str ⟨#[c]⟩,H,I.tok _,⟨_,rfl⟩,q⟩) hs
theorem uJ (aJ:List Value) (n j:Nat) (u:Value):Obj.mapSeq (·.setIfInBounds j u) { cls:= .type "list",data:= .seq aJ.toArray n }={ cls:= .type "list",data:= .seq (aJ.set j u).toArray n }:=by
 simp[Obj.mapSeq]
theorem Inv.lst {pins:List (Addr×Obj)} {σ:St} {H:Hp} {s:Shared} {p:Addr} {xs:List V} (I:Inv X pins σ H s) (h:H p=some (.lst xs)):
  ∃(aJ:List Value) (n:Nat),Vals xs aJ/\s.heap.get? p=some { cls:= .type "list",data:= .seq aJ.toArray n }/\xs.length<=sizeLine:=by
 obtain ⟨z,aJ,n,r,e⟩:=I.bR p _ h
 exact ⟨aJ,n,r,e,z⟩
theorem Inv.FN {pins:List (Addr×Obj)} {σ:St} {H:Hp} {s:Shared} {p:Addr} {xs ys:List V} {aJ its':List Value} {n n':Nat} {f:Obj->Obj} (I:Inv X pins σ H s) (h:H p=some (.lst xs))
  (ho:s.heap.get? p=some { cls:= .type "list",data:= .seq aJ.toArray n }) (hf:f { cls:= .type "list",data:= .seq aJ.toArray n }={ cls:= .type "list",data:= .seq its'.toArray n' }) (r:Vals ys its') (hz:ys.length<=sizeLine) (t:Nat):
  Inv X pins σ (upd H p (.lst ys)) { s with heap:=s.heap.update p f,toks:=t }:=by
 have e:(s.heap.update p f).get? p=some { cls:= .type "list",data:= .seq its'.toArray n' }:=by
  rw[UN f ho (by rw[hf]<;>rfl),hf]
 refine I.write (x:=p) (e:=p) (by rw[h];trivial) (.inl rfl) (fun b u hb q=>(Ur _ _ (Ne.symm hb)).trans q) ⟨_,e⟩ ?_
 exact ⟨hz,its',n',r,e⟩
def Kk:V->V->V->Hp->(Hp->Prop)->Prop:=fun o i v H Q=> ∃p xs k j,o= .ref p/\i= .int k/\H p=some (.lst xs)/\Co xs.length k=some j/\Q (upd H p (.lst (xs.set j v)))
theorem set_list:JR X Kk:=by
 intro pins s σ H o i v ov iv u Q I ro ri rv h
 obtain ⟨p,xs,k,j,rfl,rfl,hp,hj,q⟩:=h
 cases ro
 obtain ⟨t,rfl⟩:=ri
 obtain ⟨aJ,n,r,ho,hz⟩:=I.lst hp
 obtain ⟨h1,h2,h3,h4⟩:=wH hj
 have hl:=r.length
 have hn:=eT
 have I':Inv X pins σ (upd H p (.lst (xs.set j v))) { s with heap:=s.heap.update p (Obj.mapSeq (·.setIfInBounds j u)) }:=
  I.FN hp ho (uJ aJ n j u) (r.set rv j) (by rw[List.length_set];exact hz) s.toks
 by_cases h0:0<=k
 ·have hk:k.toNat=j:=by
   rw[seqIndex_of h0 h4]at h1
   exact TZ h1
  exact PySem.W.ki_setAt ho h0 (by omega) (by rw[QR, <-hl];exact h4) (by rw[hk];exact ⟨_,I',q⟩)
 ·have hk:(k+(aJ.toArray.size:Int)).toNat=j:=by
   rw[seqIndex_neg (by omega) h3]at h1
   rw[QR, <-hl]
   exact TZ h1
  exact PySem.W.ki_setBack ho (by omega) (by rw[QR, <-hl];exact h3) (by omega) (by rw[hk];exact ⟨_,I',q⟩)
theorem qd (lo hi:Option Int) (n:Nat):(sliceBounds lo hi none n).1=((HT.ir n 0 lo:Nat):Int)/\(sliceBounds lo hi none n).2.1=((HT.ir n n hi:Nat):Int)/\(sliceBounds lo hi none n).2.2=1:=by
 refine ⟨?_,?_,rfl⟩
 ·cases lo with
  | none=>simp[sliceBounds,HT.ir]
  | some i=>
   simp only[sliceBounds,HT.ir,Option.getD_none,show (1:Int)>0 by decide,if_true]
   by_cases h:i<0
   ·simp only[h,if_true]<;>omega
   ·simp only[h,if_false]<;>omega
 ·cases hi with
  | none=>simp[sliceBounds,HT.ir]
  | some i=>
   simp only[sliceBounds,HT.ir,Option.getD_none,show (1:Int)>0 by decide,if_true]
   by_cases h:i<0
   ·simp only[h,if_true]<;>omega
   ·simp only[h,if_false]<;>omega
theorem nW (aJ:List Value) (lo hi:Option Int):slicePick aJ.toArray lo hi none=((aJ.drop (HT.ir aJ.length 0 lo)).take (HT.ir aJ.length aJ.length hi - HT.ir aJ.length 0 lo)).toArray:=by
 obtain ⟨h1,h2,h3⟩:=qd lo hi aJ.toArray.size
 unfold slicePick
 rw[h1,h2,h3]
 simp only[sliceRange_one,pick_run,QR]<;>rfl
def Kl (K:PySem.W.Frag):V->Option Int->Option Int->Hp->VK->Prop:=fun x lo hi H Q=> ∃a xs,x= .ref a/\bK K H a xs/\ ∀p,H p=none->Q (.ref p) (upd H p (.lst (mq xs lo hi)))
theorem CN:Mg X (Kl X.K):=by
 intro pins s σ H x v vl vu lo hi sl Q I rx hs pl pu h
 obtain ⟨a,xs,rfl,hx,q⟩:=h
 cases rx
 obtain ⟨aJ,r,ht,hz⟩:=I.list hx
 have hlen:=r.length
 refine ⟨"list",_,slot_list_getitem.lookup,ht.isList.typeIs,?_⟩
 refine wpAny_getItem_list_slice ht.isList hs pl pu .none (by simp) ?_ (by rw[QR]<;>omega)
 rw[nW, <-hlen]
 refine ⟨.ref s.heap.objs.size,_,I.laid (t':=s.toks) (o:= .lst (mq xs lo hi)) (fun b ob q=>Pd _ q) (Mj _) ?_,rfl,q _ (I.bR.fresh (Mj _))⟩
 exact ⟨Ug (sd xs lo hi) hz,_,0,(r.drop (HT.ir xs.length 0 lo)).take (HT.ir xs.length xs.length hi - HT.ir xs.length 0 lo),TX _ rfl⟩
theorem qe:de X (.builtin "len") (fun xs H Q=> ∃p ys,xs=[.ref p]/\(bK X.K H p ys\/cy X.K H p ys)/\Q (.int ys.length) H):=by
 intro pins s σ H xs us Q I r h
 obtain ⟨p,ys,rfl,hq,q⟩:=h
 obtain ⟨u,rfl,rx⟩:=vals1 r
 cases rx
 have hn:=eT
 rcases hq with hq | hq
 ·obtain ⟨aJ,r',pl,hz⟩:=I.list hq
  have hlen:=r'.length
  exact Calls.call_len_list pl.isList (by simp only[QR]<;>omega) ⟨.int ys.length,H,I.tok _,⟨s.toks+1,by rw[QR,hlen]⟩,q⟩
 ·obtain ⟨aJ,r',pl,hz⟩:=I.tuple hq
  have hlen:=r'.length
  exact len_tuple pl (by simp only[QR]<;>omega) ⟨.int ys.length,H,I.tok _,⟨s.toks+1,by rw[QR,hlen]⟩,q⟩
theorem qf:de X (.builtin "len") (fun xs H Q=> ∃z,xs=[.str z]/\z.length<=sizeLine/\Q (.int z.length) H):=by
 intro pins s σ H xs us Q I r h
 obtain ⟨z,rfl,hz,q⟩:=h
 obtain ⟨u,rfl,t,rfl⟩:=vals1 r
 have hn:=eT
 exact len_str (by omega) ⟨.int z.length,H,I.tok _,⟨_,rfl⟩,q⟩
theorem qg:de X (.type "list") (fun xs H Q=> ∃p ys,xs=[.ref p]/\(bK X.K H p ys\/cy X.K H p ys)/\ ∀l,H l=none->Q (.ref l) (upd H l (.lst ys))):=by
 intro pins s σ H xs us Q I r h
 obtain ⟨p,ys,rfl,hq,q⟩:=h
 obtain ⟨u,rfl,rx⟩:=vals1 r
 cases rx
 have fin: ∀(aJ:List Value),Vals ys aJ->ys.length<=sizeLine-> ∀(h':Heap) (c':Nat),(∀b o',s.heap.get? b=some o'->h'.get? b=some o')->
   h'.get? s.heap.objs.size=some { cls:= .type "list",dict:=none,data:= .seq aJ.toArray c',slots:= #[] }->EP X pins σ Q (.ref s.heap.objs.size) { s with heap:=h' }:=fun aJ r' hz h' c' kp e=>
  ⟨.ref s.heap.objs.size,_,I.laid (t':=s.toks) kp (Mj _) (show cw X.prog X.w _ h' _ (.lst ys) from ⟨hz,aJ,c',r',e⟩),rfl,q _ (I.bR.fresh (Mj _))⟩
 rcases hq with hq | hq
 ·obtain ⟨aJ,r',pl,hz⟩:=I.list hq
  have hlen:=r'.length
  obtain ⟨o,ho,hc,n,hd⟩:=pl.isList
  exact call_list_seq p (.inl rfl) ho hc hd (fun h' c' kp e=>fin aJ r' hz h' c' kp e) (by simp only[QR]<;>omega)
 ·obtain ⟨aJ,r',pl,hz⟩:=I.tuple hq
  have hlen:=r'.length
  obtain ⟨o,ho,hc,n,hd⟩:=pl
  exact call_list_seq p (.inr rfl) ho hc hd (fun h' c' kp e=>fin aJ r' hz h' c' kp e) (by simp only[QR]<;>omega)
theorem nX:de X (.type "tuple") (fun xs H Q=> ∃p ys,xs=[.ref p]/\((bK X.K H p ys/\ ∀l,H l=none->Q (.ref l) (upd H l (.tup ys)))\/(cy X.K H p ys/\Q (.ref p) H))):=by
 intro pins s σ H xs us Q I r h
 obtain ⟨p,ys,rfl,h⟩:=h
 obtain ⟨u,rfl,rx⟩:=vals1 r
 cases rx
 rcases h with ⟨hq,q⟩ | ⟨hq,q⟩
 ·obtain ⟨aJ,r',pl,hz⟩:=I.list hq
  have hlen:=r'.length
  refine call_tuple_list pl.isList (fun h' kp=>?_) (by simp only[QR]<;>omega)
  have I1:Inv X pins σ H { s with heap:=h' }:=I.kept (t':=s.toks) kp
  have I2:Inv X pins σ (upd H h'.objs.size (.tup ys)) { s with heap:=h'.push { cls:= .type "tuple",data:= .seq aJ.toArray } }:=
   I1.laid (t':=s.toks) (fun b o e=>Pd _ e) (Mj _) (show cw X.prog X.w _ _ _ (.tup ys) from ⟨hz,aJ,r',IsTup.new _ _⟩)
  exact ⟨.ref h'.objs.size,_,I2,rfl,q _ (I1.bR.fresh (Mj _))⟩
 ·obtain ⟨aJ,r',pl,hz⟩:=I.tuple hq
  exact call_tuple_same pl ⟨.ref p,H,I,rfl,q⟩
def NG (K:PySem.W.Frag) (T:String) (x:V) (H:Hp):Prop:=match x with
 | .str _=>T="str"
 | .int _=>T="int"
 | .ref p=>(T="list"/\ ∃xs,bK K H p xs)\/(T="tuple"/\ ∃o,K.lookup p=some o/\o.cls= .type "tuple"/\o.dict=none)\/
   (T="dict"/\((∃aI,H p=some (.dK aI))\/ ∃aI,H p=some (.dT aI)))\/(T="set"/\ ∃S n,H p=some (.set S n))
 | _=>False
theorem zK {pins:List (Addr×Obj)} {σ:St} {H:Hp} {s:Shared} {T:String} {x:V} {v:Value} (I:Inv X pins σ H s) (r:RelV x v) (ty:NG X.K T x H):
  s.TypeIs v T/\ ∀a,v= .ref a-> ∃ob,s.heap.get? a=some ob/\ob.dict=none:=by
 cases x with
 | str z=>
  obtain ⟨t,rfl⟩:=r
  cases (show T="str" from ty)
  exact ⟨typeIs_str s z t,fun _ e=>nomatch e⟩
 | int i=>
  obtain ⟨t,rfl⟩:=r
  cases (show T="int" from ty)
  exact ⟨typeIs_int s i t,fun _ e=>nomatch e⟩
 | ref p=>
  cases r
  rcases ty with ⟨rfl,xs,hq⟩ | ⟨rfl,o,hk,hc,hd⟩ | ⟨rfl,hk⟩ | ⟨rfl,S,n,hk⟩
  ·obtain ⟨aJ,_,pl,_⟩:=I.list hq
   refine ⟨pl.isList.typeIs,fun a e=>?_⟩
   cases e
   obtain ⟨o,n,e,c,hd,_⟩:=pl
   exact ⟨o,e,hd⟩
  ·refine ⟨⟨o,I.xW p o hk,hc⟩,fun a e=>?_⟩
   cases e
   exact ⟨o,I.xW _ o hk,hd⟩
  ·have z: ∃o,s.heap.get? p=some o/\o.ExactDict:=by
    rcases hk with ⟨aI,hk⟩ | ⟨aI,hk⟩
    ·obtain ⟨_,_,_,_,o,_,_,e,ex,_⟩:=I.bR p _ hk
     exact ⟨o,e,ex⟩
    ·obtain ⟨_,_,_,_,o,_,_,e,ex,_⟩:=I.bR p _ hk
     exact ⟨o,e,ex⟩
   obtain ⟨o,e,ex⟩:=z
   refine ⟨⟨o,e,ex.1⟩,fun a e2=>?_⟩
   cases e2
   exact ⟨o,e,ex.2.1⟩
  ·obtain ⟨o,_,_,_,e,ex,_⟩:=I.bR p _ hk
   refine ⟨⟨o,e,ex.1⟩,fun a e2=>?_⟩
   cases e2
   exact ⟨o,e,ex.2.1⟩
 | _=>exact False.elim ty
def Km (K:PySem.W.Frag) (T:String) (r:V->List V->Hp->VK->Prop) (to:TE):TE:=fun σ H Q=>to σ H fun x H1=>NG K T x H1/\r x [] H1 Q
def O_ (K:PySem.W.Frag) (T:String) (r:V->List V->Hp->VK->Prop) (to:TE) (t:TA):TE:=fun σ H Q=>to σ H fun x H1=>NG K T x H1/\t σ H1 fun xs H2=>r x xs H2 Q
variable {o e:Expr} {es:List Expr} {to:TE} {t:TA} {name:Str} {apos gJ:Pos} {T id:String} {r:V->List V->Hp->VK->Prop}
theorem FO (pa:PlainAttrs T) (slot:Slot T name id) (FP:typeOf (.builtin id)=pure (.type "method_descriptor")) (hm:yh X id r) (ho:PE X o to)
  (mr:attributeBase o name X.env (eval o X.env)=eval o X.env:=by rfl) (kP:(apos.endLine==gJ.line)=true:=by rfl):PE X (.Call (.Attribute o name apos) [] [] gJ) (Km X.K T r to):=by
 intro pins s σ H Q I h
 refine wpAny_Call_method0_late mr kP (bV (ho pins s σ H _ I h) fun v s1 ⟨x,H1,I1,r1,ty,q1⟩=>?_)
 obtain ⟨h1,h2⟩:=zK I1 r1 ty
 exact ⟨T,id,pa,slot,FP,h1,h2,Calls.callWith_builtin rfl (PySem.evalArgs_none (hm pins s1 σ H1 x [] v [] Q I1 r1 .nil q1))⟩
theorem Kn (pa:PlainAttrs T) (slot:Slot T name id) (FP:typeOf (.builtin id)=pure (.type "method_descriptor")) (hm:yh X id r) (ho:PE X o to) (ha:PA X (e::es) t)
  (mr:attributeBase o name X.env (eval o X.env)=eval o X.env:=by rfl)
  (FQ:((backTo gJ (starEach (e::es) X.env)).all (fun x=>!x.1)&&(backToKw gJ (keywordEach [] X.env)).all (fun x=>x.1.isSome)
   &&decide ((e::es).length+([]:List Keyword).length+(if ([]:List Keyword).isEmpty then 0 else 1)<30))=true:=by rfl)
  (kP:(apos.endLine==gJ.line)=true:=by rfl) (hs:starEach (e::es) X.env=(false,eval e X.env)::starEach es X.env:=by rfl) (uK:(backTo gJ (starEach es X.env)).any (·.1)=false:=by rfl):
  PE X (.Call (.Attribute o name apos) (e::es) [] gJ) (O_ X.K T r to t):=by
 intro pins s σ H Q I h
 refine wpAny_Call_method_late mr FQ kP rfl (bV (ho pins s σ H _ I h) fun v s1 ⟨x,H1,I1,r1,ty,q1⟩=>?_)
 obtain ⟨h1,h2⟩:=zK I1 r1 ty
 refine ⟨T,id,pa,slot,FP,h1,h2,?_⟩
 have hA:=ha gJ pins s1 σ H1 _ I1 q1
 rw[hs]at hA ⊢
 refine Calls.callWith_builtin (by show (false||(backTo gJ (starEach es X.env)).any (·.1))=false;rw[uK]<;>rfl) (Calls.evalArgs_plain ?_)
 exact bV hA fun us s2 ⟨vs,H2,I2,r2,q2⟩=>hm pins s2 σ H2 x vs v us Q I2 r1 r2 q2
end
def Ko (X:Cx) (id:String) (r:V->List V->Hp->VK->Prop):Prop:=
 ∀(pins:List (Addr×Obj)) (s:Shared) (σ:St) (H:Hp) (x:V) (xs:List V) (v:Value) (us:List Value) (Q:VK),Inv X pins σ H s->RelV x v->Vals xs us->r x xs H Q->
  wpAny (model X.prog X.w) X.A (call (.builtin id) (v::us)) (EP X pins σ Q) X.xe s
theorem Vals.one: ∀{x:V} {us:List Value},Vals [x] us-> ∃u,us=[u]/\RelV x u
 | _,_, .cons r .nil=>⟨_,rfl,r⟩
theorem Vals.zero: ∀{us:List Value},Vals [] us->us=[]
 | _, .nil=>rfl
theorem Vals.dropLast {xs:List V} {us:List Value} (h:Vals xs us):Vals xs.dropLast us.dropLast:=by
 induction h with
 | nil=>exact .nil
 | cons r t ih=>
  cases t with
  | nil=>exact .nil
  | cons q t'=>exact .cons r ih
theorem Vals.eraseIdx: ∀{xs:List V} {us:List Value} (i:Nat),Vals xs us->Vals (xs.eraseIdx i) (us.eraseIdx i)
 | _,_,_, .nil=> .nil
 | _,_,0, .cons _ t=>t
 | _,_,i+1, .cons r t=> .cons r (Vals.eraseIdx i t)
theorem Vals.reverse {xs:List V} {us:List Value} (h:Vals xs us):Vals xs.reverse us.reverse:=by
 induction h with
 | nil=>exact .nil
 | cons r t ih=>rw[List.reverse_cons,List.reverse_cons];exact Vals.append ih (.cons r .nil)
theorem uL {α:Type} (l:List α):l.eraseIdx (l.length - 1)=l.dropLast:=by
 induction l with
 | nil=>rfl
 | cons a r ih=>
  cases r with
  | nil=>rfl
  | cons b r=>
   have e:(a::b::r).length - 1=((b::r).length - 1)+1:=by
    have h1:(a::b::r).length=r.length+2:=rfl
    have h2:(b::r).length=r.length+1:=rfl
    omega
   rw[e,V1,ih]
   all_goals rfl
theorem oQ {α:Type}: ∀(l:List α) (i:Nat),(l.eraseIdx i).length<=l.length
 | [],_=>Mj _
 | _::_,0=>U9 _
 | _::r,i+1=>UU (oQ r i)
section
variable {X:Cx} {pins:List (Addr×Obj)} {σ:St} {H:Hp} {s:Shared} {l b:Addr} {xs ys zs:List V}
theorem Inv.zM {aJ its':List Value} {n:Nat} {f:Array Value->Array Value} {t':Nat} (I:Inv X pins σ H s) (hH:H l=some (.lst xs))
  (e:s.heap.get? l=some { cls:= .type "list",data:= .seq aJ.toArray n }) (hf:f aJ.toArray=its'.toArray) (hv:Vals ys its') (hz:ys.length<=sizeLine):
  Inv X pins σ (upd H l (.lst ys)) { s with heap:=s.heap.update l (Obj.mapSeq f),toks:=t' }:=by
 have q:=PySem.IsL.update e f
 rw[hf]at q
 refine I.write (x:=l) (e:=l) (by rw[hH];exact trivial) (.inl rfl) (fun b' u hb hu=>(Ur s.heap (Obj.mapSeq f) (Ne.symm hb)).trans hu) ⟨_,q⟩ ?_
 exact ⟨hz,its',_,hv,q⟩
theorem Inv.fresh (I:Inv X pins σ H s):H s.heap.objs.size=none:=I.bR.fresh (Mj _)
theorem Inv.zN (I:Inv X pins σ H s) (hH:H l=some (.lst xs)):xs.length<=sizeLine/\ ∃(aJ:List Value) (n:Nat),Vals xs aJ/\xs.length=aJ.length/\s.heap.get? l=some { cls:= .type "list",data:= .seq aJ.toArray n }:=by
 obtain ⟨z,aJ,n,r,e⟩:=I.bR l _ hH
 exact ⟨z,aJ,n,r,r.length,e⟩
end
section
variable {X:Cx}
def CO:V->List V->Hp->VK->Prop:=fun x vs H Q=> ∃l xs y,x= .ref l/\vs=[y]/\H l=some (.lst xs)/\xs.length<sizeLine/\Q .gB (upd H l (.lst (xs++[y])))
theorem fU:Ko X "list.append" CO:=by
 intro pins s σ H x vs v us Q I rx rv h
 obtain ⟨l,xs,y,rfl,rfl,hH,hz,q⟩:=h
 cases rx
 obtain ⟨u,rfl,ru⟩:=rv.one
 obtain ⟨z,aJ,n,r,hl,e⟩:=I.zN hH
 refine call_meets F.slot_list_append ⟨_,e,rfl⟩ F.entry_list_append (F.args_list_append_2 _ _) (PySem.list_append l aJ.toArray n u (by rw[QR];omega)) ⟨e,?_⟩
 refine ⟨.gB,_,I.zM (its':=aJ++[u]) hH e (by simp) (r.append (.cons ru .nil)) ?_,rfl,q⟩
 rw[Tn,List.length_singleton]
 omega
def NH:V->List V->Hp->VK->Prop:=fun x vs H Q=> ∃l xs y,x= .ref l/\vs=[]/\H l=some (.lst xs)/\xs[xs.length - 1]? =some y/\Q y (upd H l (.lst xs.dropLast))
theorem FR:Ko X "list.pop" NH:=by
 intro pins s σ H x vs v us Q I rx rv h
 obtain ⟨l,xs,y,rfl,rfl,hH,hy,q⟩:=h
 cases rx
 have zl:=rv.zero
 subst zl
 obtain ⟨z,aJ,n,r,hl,e⟩:=I.zN hH
 obtain ⟨u,hu,ru⟩:=r.get hy
 have Kp:aJ.toArray[aJ.toArray.size - 1]? =some u:=by
  show aJ.toArray[aJ.length - 1]? =some u
  rw[<-Array.getElem?_toList, <-hl]
  exact hu
 refine call_meets F.slot_list_pop ⟨_,e,rfl⟩ F.entry_list_pop (F.args_list_pop_1 _) (MeetsSeq.list_pop_last l aJ.toArray n u Kp (by rw[QR];omega)) ⟨e,?_⟩
 refine ⟨y,_,I.zM (its':=aJ.dropLast) hH e ?_ r.dropLast ?_,ru,q⟩
 ·show aJ.toArray.eraseIdxIfInBounds (aJ.toArray.size - 1)=aJ.dropLast.toArray
  rw[QR,List.eraseIdxIfInBounds_toArray,uL]
 ·rw[List.length_dropLast]
  omega
def FT:V->List V->Hp->VK->Prop:=fun x vs H Q=> ∃l xs i k y,x= .ref l/\vs=[.int i]/\H l=some (.lst xs)/\ -(2 ^ 63)<=i/\i<2 ^ 63/\seqIndex? i xs.length=some k/\xs[k]? =some y/\Q y (upd H l (.lst (xs.eraseIdx k)))
theorem mw:Ko X "list.pop" FT:=by
 intro pins s σ H x vs v us Q I rx rv h
 obtain ⟨l,xs,i,k,y,rfl,rfl,hH,h1,h2,hk,hy,q⟩:=h
 cases rx
 obtain ⟨u,rfl,ru⟩:=rv.one
 obtain ⟨t,rfl⟩:=ru
 obtain ⟨z,aJ,n,r,hl,e⟩:=I.zN hH
 obtain ⟨w,hw,p_⟩:=r.get hy
 refine call_meets F.slot_list_pop ⟨_,e,rfl⟩ F.entry_list_pop (F.args_list_pop_2 _ _)
  (MeetsSeq.list_pop_at l aJ.toArray n i t k w (fitsIndex_both h1 h2) (by rw[QR, <-hl];exact hk) (by rw[<-Array.getElem?_toList];exact hw) (by rw[QR];omega)) ⟨e,?_⟩
 refine ⟨y,_,I.zM (its':=aJ.eraseIdx k) hH e ?_ (r.eraseIdx k) ?_,p_,q⟩
 ·show aJ.toArray.eraseIdxIfInBounds k=(aJ.eraseIdx k).toArray
  rw[List.eraseIdxIfInBounds_toArray]
 ·have:=oQ xs k
  omega
def zO:V->List V->Hp->VK->Prop:=fun x vs H Q=> ∃l xs,x= .ref l/\vs=[]/\H l=some (.lst xs)/\Q .gB (upd H l (.lst xs.reverse))
theorem uM:Ko X "list.reverse" zO:=by
 intro pins s σ H x vs v us Q I rx rv h
 obtain ⟨l,xs,rfl,rfl,hH,q⟩:=h
 cases rx
 have zl:=rv.zero
 subst zl
 obtain ⟨z,aJ,n,r,hl,e⟩:=I.zN hH
 refine call_meets F.slot_list_reverse ⟨_,e,rfl⟩ F.entry_list_reverse (F.args_list_reverse_1 _) (AutoSeq1.list_reverse_list_0 l aJ.toArray n (by rw[QR];omega)) ⟨e,?_⟩
 refine ⟨.gB,_,I.zM (its':=aJ.reverse) hH e (by simp) r.reverse ?_,rfl,q⟩
 rw[Ul]
 omega
end
section
variable {prog:Program} {w:World} {A:Around} {E:Value->Shared->Prop} {s:Shared}
end
section
variable {X:Cx}
end
end L2
namespace Pa
open PySem PySem.W PySem.Calls PyProof.Rows
theorem k_ {P:Params} {h:Heap}: ∀(ns:List Int) (vs:List Value),WellAll P h vs (ns.map WData.int)->IntsAre vs ns:=by
 intro ns
 induction ns with
 | nil=>
  intro vs w
  rw[List.map_nil]at w
  cases w
  exact .nil
 | cons n ns ih=>
  intro vs w
  rw[TV]at w
  cases w with
  | cons a b=>
   cases a
   exact .cons _ _ (ih _ b)
theorem yi {l:OpenLaw} {n:Nat} (hn:l.most=some n) {P:Params} {h:Heap} {args:List WData} {vals:List Value}
  (CP:l.row.toRowW.claim.pre args=true) (uN:WellAll P h vals args):
  ∃a vs ns,vals=[Value.ref a]/\args=[WData.list (ns.map WData.int)]/\h.get? a=some { cls:= .type "list",data:= .seq vs.toArray }/\IntsAre vs ns/\ns.length<=n:=by
 have QN:WShape.hasAll [] args [.list .int]=true:=(pre_splitW CP).1
 have hc:l.pre.holds [] { args:=args }=true:=(pre_splitW CP).2
 obtain ⟨d,r,rfl,h1,h2⟩:=hasAllW_cons QN
 obtain rfl:=hasAllW_nil h2
 obtain ⟨xs,rfl,h3⟩:=hasW_list h1
 obtain ⟨ns,rfl⟩:=items_int h3
 have hlen:ns.length<=n:=by
  unfold OpenLaw.pre at hc
  have h4:(WTm.not (.lt (.lit (.int (n:Int))) (.len (.arg 0)))).holds [] { args:=[.list (ns.map .int)] }=true:=by
   have h4:=(holds_andW hc).1
   rw[hn]at h4
   exact h4
  have h5:=condW_of h4 (w_not (w_lt w_lit (w_len_list (w_arg rfl))))
  rw[HX]at h5
  refine Nat.le_of_not_lt fun q=>?_
  have q':(n:Int)<((ns.length:Nat):Int):=by omega
  first
   |(rw[decide_eq_true q']at h5;exact absurd h5 (by decide))
   |(simp at h5;omega)
 cases uN with
 | cons w1 w2=>
  cases w2
  cases w1 with
  | list ho NI=>exact ⟨_,_,ns,rfl,rfl,ho,k_ ns _ NI,hlen⟩
theorem yj (l:OpenLaw) (args:List WData):l.row.toRowW.claim.post args (.bool true) args=true:=
 postW_of (r:=l.row.toRowW) (X:=(true==true))
  (show WShape.has [] (.bool true) .bool=true by first | rfl | decide | simp[WShape.has,WShape.arms,WShape.armsAll])
  (show (WTm.eq .res (.lit (.bool true))).value [] { args:=args,res:=some (.bool true),after:=args }=some (.bool (true==true)) from w_eq_bool (w_res rfl) w_lit) rfl
theorem se {l:OpenLaw} {n:Nat} {q:Program} {loose:List Str} {XP:(Str->Option Value)->Heap->Prop} {YP:World->Heap->Prop} {d:DefRec}
  (hn:l.most=some n) (Kq:d.params.defaults=[])
  (call: ∀(w:World) (s₀ s₁:Shared) (mg mb:Str->Option Value) (fa:Addr) (o:Obj) (pm cd doc:Value) (a:Addr) (vs:List Value) (ns:List Int),
   Ground q loose [] XP w s₀ mg mb s₁.heap->YP w s₁.heap->
   s₁.heap.get? fa=some o->o.data= .func (docDef d.name d.params d.body d.scope pm cd doc)->s₁.heap.CodeRec cd d.name->mg d.name=some (.ref fa)->
   s₁.heap.get? a=some { cls:= .type "list",data:= .seq vs.toArray }->IntsAre vs ns->ns.length<=n->s₁.gens= #[]->
   codeAny (model l.prog w) callerA (.call (.ref fa) ⟨[.ref a],[]⟩) (fun r s'=>r= .ok (.ret (.bool true))/\OldK s₁.heap s'.heap/\s'.os=s₁.os/\AllBare s'.gens) s₁):
  WalkO q loose XP YP l.row.toRowW d [] (fun f vs=>PySem.call f vs):=by
 intro w s₀ s₁ mg mb G Y fa o pm cd doc dV kV ho hd kY hD hmg hg args vals as CP QO Tg uN Th
 obtain rfl:dV= .none:=Dflts.none hD Kq
 obtain rfl:kV= .none:=Dflts.noKw hD
 obtain ⟨a,vs,ns,rfl,rfl,FU,hints,hlen⟩:=yi hn CP uN
 refine enter_call (codeAny_mono (call w s₀ s₁ mg mb fa o pm cd doc a vs ns G Y ho (fd_plain hd) kY hmg FU hints hlen hg) fun r s' hq=>?_)
 obtain ⟨rfl,h2,h3,h4⟩:=hq
 exact ⟨.inl ⟨.bool true, .bool true,[],rfl,fun _=>rfl, .bool true,yj l _,fun _=>⟨List.Pairwise.nil,fun _ hm=>(nomatch hm)⟩⟩,h2,h3,h4⟩
section
variable {prog:Program} {w:World} {A:Around} {E:Value->Shared->Prop} {s:Shared} {K:Frag}
end
end Pa
namespace L2
open PySem PySem.Spec PyProof.Rows
theorem oR: ∀{vs:List Value} {ns:List Int},IntsAre vs ns->Vals (ns.map V.int) vs
 | _,_, .nil=> .nil
 | _,_, .cons n t h=> .cons ⟨t,rfl⟩ (oR h)
def FV (H:Hp):Prop:= ∀b,H b=none\/ ∃o xs,H b=some (.Cg o (.lst xs))
theorem zP {P:Program} {w:World} {K:PySem.W.Frag} {mg mb:Str->Option Value} {CX:x_} {k:Nat} {fa a:Addr} {fd:FuncData} {x:Str} {sp:Sp} {s₁:Shared} {vs:List Value} {ns:List Int}
  (KX:K.In s₁.heap) (Mh:s₁.heap.Ns mainGlobals mg) (hb:s₁.heap.Ns builtinsNs mb) (QP: ∀x:Str,x≠"__name__"->mb x=bootBuiltins x) (NJ:s₁.heap.NoLimit) (hg:s₁.gens= #[])
  (ha:s₁.heap.get? a=some { cls:= .type "list",data:= .seq vs.toArray }) (hi:IntsAre vs ns) (hl:ns.length<=sizeLine) (hr:dR k callerA)
  (F: ∀base:Heap,K.In base->base.Ns mainGlobals mg->bC P w K mg base CX k fa fd [x] sp) (Kr: ∀(s:Shared) (u:Value),BindsTo s fd ⟨[u],[]⟩ [(x,u)])
  (ED: ∀H:Hp,FV H->bK K H a (ns.map V.int)->sp [.ref a] H (fun v _=>v= .bl true) fun _ _ _=>False)
  (NK: ∀H e s',CX [] H s₁ (fun _ _ _=>False) e s'->False):
  codeAny (model P w) callerA (.call (.ref fa) ⟨[.ref a],[]⟩) (fun r s'=>r= .ok (.ret (.bool true))/\OldK s₁.heap s'.heap/\s'.os=s₁.os/\AllBare s'.gens) s₁:=by
 have rv:=oR hi
 have NL:=hi.length
 -- from an abstract heap in Pb nothing but Cj script may be tracked
 have core: ∀H:Hp,FV H->bK K H a (ns.map V.int)->iY P w H s₁.heap->(∀b,H b≠none->b=a)->(H a≠none->K.lookup a=none)->
   codeAny (model P w) callerA (.call (.ref fa) ⟨[.ref a],[]⟩) (fun r s'=>r= .ok (.ret (.bool true))/\OldK s₁.heap s'.heap/\s'.os=s₁.os/\AllBare s'.gens) s₁:=by
  intro H hO hS bR hA hK
  have wI: ∀{b:Addr} {o:Obj},s₁.heap.get? b=some o->H b=none->(p7 s₁.heap H).get? b=some o:=fun e n=>zu e n
  have Kg: ∀{b:Addr} {o:Obj} {es:Array DictEntry} {ep:Nat},s₁.heap.get? b=some o->o.data= .dict es ep->H b=none:=fun {b o es ep} e d=>by
   cases q:H b with
   | none=>rfl
   | some u=>
    have e':b=a:=hA b (by rw[q];simp)
    subst e'
    rw[ha]at e;cases e
    have d':Data.seq vs.toArray _=Data.dict es ep:=d
    cases d'
  have Mi: ∀{b:Addr} {m:Str->Option Value},s₁.heap.Ns b m->(p7 s₁.heap H).Ns b m:=fun {b m} ⟨o,es,ep,e,d,r⟩=>⟨o,es,ep,wI e (Kg e d),d,r⟩
  have Pc:K.In (p7 s₁.heap H):=fun b o e=>wI (KX b o e) (by
   cases q:H b with
   | none=>rfl
   | some u=>
    have e':b=a:=hA b (by rw[q];simp)
    subst e'
    rw[hK (by rw[q];simp)]at e;cases e)
  have hM:Mod K mg (p7 s₁.heap H):=⟨Pc,Mi Mh,⟨mb,Mi hb,QP⟩,let ⟨mc,h1,h2⟩:=NJ;⟨mc,Mi h1,h2⟩⟩
  have e0:uH P w K mg (p7 s₁.heap H) callerA [] s₁ H:=⟨rfl,hM,fun b o e=>CA e,Nat.le_of_eq (xV _ _),trivial,fun b hb=>absurd (show b∈([]:List Addr) from hb) (by simp),bR, .of_eq hg⟩
  refine codeAny_mono ((F _ Pc (Mi Mh)).run callerA [] s₁ H ⟨[.ref a],[]⟩ [.ref a] [.ref a] _ _ hr e0 (Kr s₁ (.ref a)) (.cons rfl .nil) (ED H hO hS)) fun r s' h=>?_
  cases r with
  | error e=>exact (NK H e s' h).elim
  | ok fl=>
   cases fl with
   | next=>exact False.elim h
   | brk=>exact False.elim h
   | cont=>exact False.elim h
   | ret u=>
    obtain ⟨v,H',os,bare,un,NM,r',q⟩:=h
    have q':v= .bl true:=q
    subst q'
    obtain rfl:u=Value.bool true:=r'
    refine ⟨rfl,OldK.of_keep fun b o e=>?_,os,bare⟩
    cases q:H b with
    | none=>exact un.keep b o e q (by intro z;exact absurd (show b∈([]:List Addr) from z) (by simp)) (by simp)
    | some u=>
     rcases hO b with z | ⟨ob,xs,z⟩
     ·rw[q]at z;cases z
     ·have z2:=un.mf b ob _ z
      obtain ⟨e1,_⟩:=bR b _ z
      obtain ⟨e2,_⟩:=NM b _ z2
      rw[e]at e1;cases e1
      exact e2
 cases hk:K.lookup a with
 | some o=>
  -- Cj script is one of Cj zL own objects
  have e:=KX a o hk
  rw[ha]at e
  cases e
  refine core (fun _=>none) (fun _=> .inl rfl) (.inr ⟨_,vs.toArray,_,hk,rfl,rfl,rfl,by rw[QR,NL];exact hl,by simpa using rv⟩) (fun b u z=>by have z':(none:Option HO)=some u:=z;cases z') (fun b z=>absurd rfl z) fun z=>absurd rfl z
 | none=>
  refine core (fun b=>if b=a then some (.Cg { cls:= .type "list",data:= .seq vs.toArray } (.lst (ns.map V.int))) else none) (fun b=>?_) (.inl (.inr ⟨{ cls:= .type "list",data:= .seq vs.toArray },if_pos rfl⟩)) (fun b u z=>?_) (fun b z=>?_) fun _=>hk
  ·by_cases hb:b=a
   ·exact .inr ⟨_,_,if_pos hb⟩
   ·exact .inl (if_neg hb)
  ·by_cases hb:b=a
   ·have z':=(if_pos hb).symm.trans z
    cases z'
    subst hb
    exact ⟨ha,by rw[HX];exact hl,vs,_,rv,ha⟩
   ·have z':=(if_neg hb).symm.trans z
    cases z'
  ·by_cases hb:b=a
   ·exact hb
   ·exact absurd (if_neg hb) z
theorem wJ {l:PySem.W.OpenLaw} {n k:Nat} {q:Program} {loose:List Str} {XP:(Str->Option Value)->Heap->Prop} {YP:World->Heap->Prop} {d:DefRec} {K:Params->PySem.W.Frag} {CX:World->x_} {sp:World->Sp} {x:Str}
  (hn:l.most=some n) (wD:n<=sizeLine) (Kq:d.params.defaults=[]) (hr:dR k callerA)
  (hY: ∀(w:World) (h:Heap),YP w h->(K w.params).In h)
  (F: ∀(w:World) (mg:Str->Option Value) (fa:Addr) (h:Heap),(K w.params).In h->h.Ns mainGlobals mg->mg d.name=some (.ref fa)->
   ∃fd:FuncData,(∀(s:Shared) (u:Value),BindsTo s fd ⟨[u],[]⟩ [(x,u)])/\
    ∀base:Heap,(K w.params).In base->base.Ns mainGlobals mg->bC l.prog w (K w.params) mg base (CX w) k fa fd [x] (sp w))
  (ED: ∀(w:World) (H:Hp) (a:Addr) (ns:List Int),ns.length<=n->FV H->bK (K w.params) H a (ns.map V.int)->sp w [.ref a] H (fun v _=>v= .bl true) fun _ _ _=>False)
  (NK: ∀(w:World) (H:Hp) (s:Shared) (e:Value) (s':Shared),CX w [] H s (fun _ _ _=>False) e s'->False):
  PySem.W.WalkO q loose XP YP l.row.toRowW d [] (fun f vs=>PySem.call f vs):=by
 refine Pa.se hn Kq fun w s₀ s₁ mg mb fa o pm cd doc a vs ns G Y ho hd kY hmg FU hints hlen hg=>?_
 have KX:=hY w _ Y
 obtain ⟨fd,hb,hF⟩:=F w mg fa _ KX G.T.g hmg
 exact zP KX G.T.g G.T.b G.T.builtins G.T.nolimit hg FU hints (Ug hlen wD) hr hF hb (fun H hO hS=>ED w H a ns hlen hO hS) fun H e s'=>NK w H s₁ e s'
noncomputable def eN (s:Stmt):Arguments:=match s with
 | .FunctionDef _ a _ _ _ _ _ _ _ _=>a
 | _=>{ posonlyargs:=[],args:=[],vararg:=none,kwonlyargs:=[],kw_defaults:=[],kwarg:=none,defaults:=[] }
noncomputable def dJ (s:Stmt):List Stmt:=match s with
 | .FunctionDef _ _ b _ _ _ _ _ _ _=>b
 | _=>[]
noncomputable def ar (s:Stmt):Scope:=match s with
 | .FunctionDef _ _ _ _ _ _ sc _ _ _=>sc
 | _=>{ kind:= .function,names:=[],isGenerator:=false,isCoroutine:=false }
abbrev fu:x_:=fun _ _ _ _ _ _=>False
abbrev E0:XK:=fun _ _ _=>False
theorem aC {X:Cx}:Passes fu X E0:=fun _ _ _ _ _ _ _ h=>h.elim
structure CQ (K:PySem.W.Frag) (x qual:Str) (st:Stmt) (f:Addr) (fd:FuncData):Prop where
 ex: ∃(oc:Value) (od:Option Addr) (kV doc pm:Value) (an:Option Addr) (cA ct:Value) (Cm:Array (Option Value)),
  fd=PySem.W.fnOf x qual (eN st) (dJ st) (ar st) .none kV doc pm an cA ct/\K.lookup f=some ⟨oc,od, .func fd,Cm⟩/\PySem.W.codeIn K cA qual=true
 kp:PySem.W.keepIn K (.ref f)=true
section
variable {P:Program} {w:World} {K:PySem.W.Frag} {mg:Str->Option Value} {base:Heap}
theorem CQ.ok {x qual:Str} {st:Stmt} {f:Addr} {fd:FuncData} {N ps:List Str} {k:Nat} {sp:Sp} (F:CQ K x qual st f fd) (S:aD N ps (ar st)) (len: ∀vs H Q E,sp vs H Q E->vs.length=ps.length)
  (zI: ∀(cA:Value) (A:Around) (outer:List Env) (s:Shared) (H:Hp) (vs:List V) (Q:VK) (E:XK),dR k (A.deeper (envOfC qual (ar st) s.heap.objs.size f cA))->sp vs H Q E->
   ∃t,uu (yf fu P w K mg base N qual (ar st) f cA A outer s H E).Mc (dJ st) t/\t { nx:=fun _ H'=>Q .gB H',rt:=Q } (start N vs) H):bC P w K mg base fu (k+1) f fd ps sp:=by
 obtain ⟨oc,od,kV,doc,pm,an,cA,ct,Cm,rfl,lk,kY⟩:=F.ex
 refine Kh lk kY S len fun A outer s H vs Q E hr ED=>?_
 obtain ⟨t,h,q⟩:=zI cA A outer s H vs Q E hr ED
 exact ⟨t,h.Mc,q⟩
theorem CQ.binds {x qual:Str} {st:Stmt} {f:Addr} {fd:FuncData} {ps:List Str} (F:CQ K x qual st f fd)
  (h: ∀(kV doc pm:Value) (an:Option Addr) (cA ct:Value) (us:List Value),us.length=ps.length->bindArgs (PySem.W.fnOf x qual (eN st) (dJ st) (ar st) .none kV doc pm an cA ct) ⟨us,[]⟩=pure (ps.zip us)):Binds K fd ps []:=by
 obtain ⟨oc,od,kV,doc,pm,an,cA,ct,Cm,rfl,lk,kY⟩:=F.ex
 exact .all (h kV doc pm an cA ct)
theorem uO {x qual:Str} {st:Stmt} {f:Addr} {oc:Value} {od an:Option Addr} {Cm:Array (Option Value)} {kV doc pm cA ct:Value} (l:K.lookup f=some ⟨oc,od, .func (PySem.W.fnOf x qual (eN st) (dJ st) (ar st) .none kV doc pm an cA ct),Cm⟩)
  (c:PySem.W.codeIn K cA qual=true) (k:PySem.W.keepIn K (.ref f)=true):CQ K x qual st f (PySem.W.fnOf x qual (eN st) (dJ st) (ar st) .none kV doc pm an cA ct):=⟨⟨oc,od,kV,doc,pm,an,cA,ct,Cm,rfl,l,c⟩,k⟩
end
theorem mz {A:Around} {k:Nat} (hr:dR k A):A.units+1<cLine:=Ua (Nat.add_le_add_left (by decide:1<=64) _) hr.units
section
variable {X:Cx}
theorem pv (i:Nat) {x:Str} {pos:Pos} (hN:X.N[i]? =some x:=by rfl) (hv:JG X.env.scope x:=by first | exact Or.inl rfl | exact Or.inr (Or.inl rfl) | exact Or.inr (Or.inr rfl)) (hd:(x==("__debug__":Str))=false:=by decide)
  (kY:(x==("__classdict__":Str))=false:=by decide):PE X (.Name x pos) (xY i):=Fp hN hv hd kY
end
theorem Ks {A B:Prop} (h:B):if false=true then A else B:=by
 rw[if_neg T7]
 exact h
theorem NN {A B:Prop} (h:A):if true=true then A else B:=by
 rw[if_pos rfl]
 exact h
theorem dk {c A B:Prop} [Decidable c] (h1:c->A) (h2: ¬c->B):if c then A else B:=by
 by_cases h:c
 ·rw[if_pos h]
  exact h1 h
 ·rw[if_neg h]
  exact h2 h
def au (H H':Hp):Prop:= ∀b o,H b=some o->H' b=some o
theorem au.refl (H:Hp):au H H:=fun _ _ h=>h
theorem au.trans {H H1 H2:Hp} (a:au H H1) (b:au H1 H2):au H H2:=fun c o h=>b c o (a c o h)
theorem au.free {H H':Hp} (e:au H H') {l:Addr} (h:H' l=Option.none):H l=Option.none:=by
 cases q:H l with
 | none=>rfl
 | some o=>
  rw[e l o q]at h
  cases h
theorem au.seq {K:PySem.W.Frag} {H H':Hp} {a:Addr} {xs:List V} (e:au H H') (h:bK K H a xs):bK K H' a xs:=by
 rcases h with (h | ⟨o,h⟩) | h
 ·exact .inl (.inl (e _ _ h))
 ·exact .inl (.inr ⟨o,e _ _ h⟩)
 ·exact .inr h
noncomputable def gK (env:Env):List (Str×NameKind)->List (Str×Addr)->List (Str×Addr)
 | [],acc=>acc
 |(n,k)::r,acc=>gK env r (if k== .free then (match env.cells.lookup n with | some a=>(n,a)::acc | none=>acc) else acc)
theorem eB {env:Env}: ∀(names:List (Str×NameKind)) (acc:List (Str×Addr)),(∀y∈names,y.2= .free-> ∃c,env.cells.lookup y.1=some c)->
  (forIn names acc fun (x:Str×NameKind) (cs:List (Str×Addr))=>(if (x.2==NameKind.free)=true then do let a <-cellOf env x.1;pure (ForInStep.yield ((x.1,a)::cs)) else pure (ForInStep.yield cs):Sem (ForInStep (List (Str×Addr)))))=pure (gK env names acc)
 | [],acc,_=>rfl
 |(n,k)::r,acc,h=>by
  rw[VL]
  have hr: ∀y∈r,y.2= .free-> ∃c,env.cells.lookup y.1=some c:=fun y hy=>h y (Tj _ hy)
  cases hk:(k==NameKind.free) with
  | false=>
   have e1:gK env ((n,k)::r) acc=gK env r acc:=by
    show gK env r (if (k==NameKind.free)=true then (match env.cells.lookup n with | some a=>(n,a)::acc | none=>acc) else acc)=_
    rw[hk,if_neg T7]
   rw[e1, <-eB r acc hr]
   simp only[hk,Ve,if_false,pure_bind]
  | true=>
   obtain ⟨c,hc⟩:=h (n,k) TR (by simpa using hk)
   have e1:gK env ((n,k)::r) acc=gK env r ((n,c)::acc):=by
    have rK:env.cells.lookup n=some c:=hc
    show gK env r (if (k==NameKind.free)=true then (match env.cells.lookup n with | some a=>(n,a)::acc | none=>acc) else acc)=_
    rw[hk,rK,if_pos rfl]
   have e2:cellOf env n=pure c:=by
    have rK:env.cells.lookup n=some c:=hc
    unfold cellOf
    rw[rK]
   rw[e1, <-eB r ((n,c)::acc) hr]
   simp only[hk,if_true,e2,pure_bind]
theorem nY {scope:Scope} {env:Env} (h: ∀y∈scope.names,y.2= .free-> ∃c,env.cells.lookup y.1=some c):closureFor scope env=pure (gK env scope.names []):=by
 have e:=eB scope.names [] h
 simp only[closureFor]
 rw[e]
 rfl
theorem j8 {env:Env} {x:Str} {c:Addr}: ∀(names:List (Str×NameKind)) (acc:List (Str×Addr)),(∀y d,acc.lookup y=some d->env.cells.lookup y=some d)->(gK env names acc).lookup x=some c->env.cells.lookup x=some c
 | [],acc,ha,h=>ha x c h
 |(n,k)::r,acc,ha,h=>by
  refine j8 r _ (fun y d q=>?_) h
  by_cases hk:(k==NameKind.free)=true
  ·rw[if_pos hk]at q
   cases e:env.cells.lookup n with
   | none=>rw[e]at q;exact ha y d q
   | some a=>
    rw[e]at q
    have q':List.lookup y ((n,a)::acc)=some d:=q
    rw[Up]at q'
    cases hy:(y==n) with
    | true=>
     rw[hy]at q'
     have:y=n:=by simpa using hy
     subst this
     rw[e];exact q'
    | false=>rw[hy]at q';exact ha y d q'
  ·rw[if_neg hk]at q;exact ha y d q
theorem si {env:Env} {x:Str}: ∀(names:List (Str×NameKind)) (acc:List (Str×Addr)),(∃c,acc.lookup x=some c)-> ∃c,(gK env names acc).lookup x=some c
 | [],acc,h=>h
 |(n,k)::r,acc,⟨c,hc⟩=>by
  refine si r _ ?_
  by_cases hk:(k==NameKind.free)=true
  ·rw[if_pos hk]
   cases e:env.cells.lookup n with
   | none=>exact ⟨c,hc⟩
   | some a=>
    show ∃c,List.lookup x ((n,a)::acc)=some c
    rw[Up]
    cases hy:(x==n) with
    | true=>exact ⟨a,rfl⟩
    | false=>exact ⟨c,hc⟩
  ·rw[if_neg hk];exact ⟨c,hc⟩
theorem mB {env:Env} {x:Str}: ∀(names:List (Str×NameKind)) (acc:List (Str×Addr)),(∀y∈names,y.2= .free-> ∃c,env.cells.lookup y.1=some c)->names.lookup x=some .free-> ∃c,(gK env names acc).lookup x=some c
 | [],acc,_,h=>by simp at h
 |(n,k)::r,acc,hf,h=>by
  have hr: ∀y∈r,y.2= .free-> ∃c,env.cells.lookup y.1=some c:=fun y hy=>hf y (Tj _ hy)
  rw[Up]at h
  cases hy:(x==n) with
  | true=>
   rw[hy]at h
   have hk:k= .free:=TZ h
   subst hk
   have hx:x=n:=by simpa using hy
   subst hx
   obtain ⟨c,hc⟩:=hf (x, .free) TR rfl
   have rK:env.cells.lookup x=some c:=hc
   refine si r _ ⟨c,?_⟩
   rw[if_pos (show (NameKind.free==NameKind.free)=true by decide),rK]
   show List.lookup x ((x,c)::acc)=some c
   rw[Up]
   simp
  | false=>
   rw[hy]at h
   exact mB r _ hr h
theorem jq {env:Env}: ∀{names:List (Str×NameKind)} {x:Str},names.lookup x=some .free->
  ((names.map fun (n,k)=>if (k==NameKind.free&&env.scope.kind== .function&&env.kindOf n==some .cell) then (n,NameKind.cell) else (n,k)).lookup x=some .cell\/
   (names.map fun (n,k)=>if (k==NameKind.free&&env.scope.kind== .function&&env.kindOf n==some .cell) then (n,NameKind.cell) else (n,k)).lookup x=some .free)
 | [],_,h=>by simp at h
 |(n,k)::r,x,h=>by
  have ih:= @jq env r x
  show (List.lookup x ((if (k==NameKind.free&&env.scope.kind== .function&&env.kindOf n==some .cell)=true then (n,NameKind.cell) else (n,k))::_)=_\/List.lookup x ((if (k==NameKind.free&&env.scope.kind== .function&&env.kindOf n==some .cell)=true then (n,NameKind.cell) else (n,k))::_)=_)
  cases hx:x==n with
  | true=>
   simp only[Up,hx]at h
   cases h
   by_cases hc:((NameKind.free==NameKind.free)&&env.scope.kind== .function&&env.kindOf n==some .cell)=true
   ·rw[if_pos hc];simp[Up,hx]
   ·rw[if_neg hc];simp[Up,hx]
  | false=>
   simp only[Up,hx]at h
   by_cases hc:(k==NameKind.free&&env.scope.kind== .function&&env.kindOf n==some .cell)=true
   ·rw[if_pos hc];simp only[Up,hx];exact ih h
   ·rw[if_neg hc];simp only[Up,hx];exact ih h
theorem jr {env:Env}: ∀{names:List (Str×NameKind)} {x:Str},(∀y∈names,y.2≠ .cell)->
  ((names.map fun (n,k)=>if (k==NameKind.free&&env.scope.kind== .function&&env.kindOf n==some .cell) then (n,NameKind.cell) else (n,k)).lookup x=some .cell\/
   (names.map fun (n,k)=>if (k==NameKind.free&&env.scope.kind== .function&&env.kindOf n==some .cell) then (n,NameKind.cell) else (n,k)).lookup x=some .free)->names.lookup x=some .free
 | [],_,_,h=>by simp at h
 |(n,k)::r,x,hn,h=>by
  have ih:= @jr env r x (fun y hy=>hn y (Tj _ hy))
  have hk:=hn (n,k) TR
  have h':(List.lookup x ((if (k==NameKind.free&&env.scope.kind== .function&&env.kindOf n==some .cell)=true then (n,NameKind.cell) else (n,k))::(r.map fun (n,k)=>if (k==NameKind.free&&env.scope.kind== .function&&env.kindOf n==some .cell) then (n,NameKind.cell) else (n,k)))=some .cell\/List.lookup x ((if (k==NameKind.free&&env.scope.kind== .function&&env.kindOf n==some .cell)=true then (n,NameKind.cell) else (n,k))::(r.map fun (n,k)=>if (k==NameKind.free&&env.scope.kind== .function&&env.kindOf n==some .cell) then (n,NameKind.cell) else (n,k)))=some .free):=h
  cases hx:x==n with
  | true=>
   rw[Up,hx]
   by_cases hc:(k==NameKind.free&&env.scope.kind== .function&&env.kindOf n==some .cell)=true
   ·have:(k==NameKind.free)=true:=by
     rw[UJ,UJ]at hc;exact hc.1.1
    have Kt:k= .free:=by simpa using this
    rw[Kt]
   ·rw[if_neg hc]at h'
    simp only[Up,hx]at h'
    rcases h' with h' | h'
    ·exact absurd (TZ h') hk
    ·exact h'
  | false=>
   rw[Up,hx]
   by_cases hc:(k==NameKind.free&&env.scope.kind== .function&&env.kindOf n==some .cell)=true
   ·rw[if_pos hc]at h';simp only[Up,hx]at h';exact ih h'
   ·rw[if_neg hc]at h';simp only[Up,hx]at h';exact ih h'
abbrev Cp:Value->Shared->Prop:=fun _ _=>False
theorem qh {prog:Program} {w:World} {A:Around} {R:Result->Shared->Prop} {s:Shared} {elt target iter:Expr} {ifs:List Expr} {scope:Scope} {pos:Pos} {it acc:Value} {env:Env} (I:Nat->Shared->Prop)
  (turn: ∀n s,I n s->wpAny (model prog w) A (pyNext it) (fun r s₁=>match r with
   | none=>R (.ok .next) s₁
   | some v=>wpAny (model prog w) A (letOwnedTupleGo target it v) (fun _ Pk=>wpAny (model prog w) A (assign target env v) (fun _ s₂=>
     wpAny (model prog w) A (forIn ifs true fun c r=>if r=true then do let ok <-isTrue c env (eval c env);pure (ForInStep.yield ok) else pure (ForInStep.yield r)) (fun ok s₃=>
      if ok=true then wpAny (model prog w) A (eval elt env) (fun x s₄=>
       wpAny (model prog w) A (call (.builtin "list.append") [acc,x]) (fun _ s₅=> ∃m,m<n/\I m s₅) Cp s₄) Cp s₃
      else ∃m,m<n/\I m s₃) Cp s₂) Cp Pk) Cp s₁) Cp s)
  (n:Nat) (h:I n s):codeAny (model prog w) A (.compLoop (.ListComp elt [⟨target,iter,ifs,0⟩] scope pos) 0 it acc env) R s:=by
 refine codeAny_loop rfl I (fun n s hI=>?_) n h
 show wpAny _ A ((compTurn (.ListComp elt [⟨target,iter,ifs,0⟩] scope pos) 0 it acc env).onRaise (fun x=>do noteFrame x env;theTreesLotGoes x)) _ _ s
 refine wpAny_noted ?_
 rw[compTurn_list]
 have no: ∀{F:Value->Shared->Prop} (e:Value) (s':Shared),Cp e s'->F e s':=fun _ _ h=>h.elim
 refine wpAny_bind (wpAny_standAt (wpAny_bind (wpAny_mono (turn n s hI) (fun r s₁ h₁=>?_) no)))
 cases r with
 | none=>exact wpAny_pure h₁
 | some v=>
  refine wpAny_bind (wpAny_mono h₁ (fun _ Pk QV=>?_) no)
  refine wpAny_bind (wpAny_mono QV (fun _ s₂ h₂=>wpAny_bind (wpAny_mono h₂ (fun ok s₃ h₃=>?_) no)) no)
  cases ok with
  | false=>exact wpAny_pure ⟨rfl,h₃⟩
  | true=>
   exact wpAny_bind (wpAny_bind (wpAny_mono h₃ (fun x s₄ h₄=>wpAny_bind (wpAny_mono h₄ (fun _ s₅ h₅=>wpAny_pure (wpAny_pure ⟨rfl,h₅⟩)) no)) no))
noncomputable def b6 (X:Cx) (scope:Scope) (C:Addr) (Nc:List Str) (s:Shared) (H:Hp) (fp:List Addr):Cx where
 prog:=X.prog
 w:=X.w
 K:=X.K
 mg:=X.mg
 base:=X.base
 A:=X.A
 N:=Nc
 s₀:=s
 H₀:=H
 env:=compEnvC scope (gK X.env scope.names []) C X.env
 outer:=X.stack
 stack:=X.stack
 ex:=fp
 fn:=fun _=>false
 calm:=X.calm
 pn:=[]
 xe:=Cp
def js (X:Cx) (scope:Scope):List Str->List (Option Nat)->Prop
 | [],[]=>True
 | _::ys,none::os=>js X scope ys os
 | y::ys,some j::os=>(X.N[j]? =some y/\scope.names.lookup y=some .free/\(X.env.kindOf y=some .cell\/X.env.kindOf y=some .free))/\js X scope ys os
 | _,_=>False
noncomputable def jt (σ:St) (ix:List (Option Nat)):St:=ix.map fun o=>match o with | none=>none | some j=>(σ[j]?).getD none
def Wk:St->St->Prop
 | [],[]=>True
 | none::a,_::b=>Wk a b
 | some v::a,w::b=>w=some v/\Wk a b
 | _,_=>False
theorem Wk.len: ∀{a b:St},Wk a b->a.length=b.length
 | [],[],_=>rfl
 | none::a,_::b,h=>congrArg (· +1) (Wk.len (a:=a) (b:=b) h)
 | some _::a,_::b,h=>congrArg (· +1) (Wk.len (a:=a) (b:=b) h.2)
theorem Wk.get: ∀{a b:St} {i:Nat} {v:V},Wk a b->a[i]? =some (some v)->b[i]? =some (some v)
 | [],[],i,v,_,h=>by simp at h
 | none::a,x::b,0,v,_,h=>by simp at h
 | none::a,x::b,i+1,v,k,h=>by
  have:=Wk.get (a:=a) (b:=b) (i:=i) (v:=v) k (by simpa using h)
  simpa using this
 | some y::a,x::b,0,v,k,h=>by
  have e:y=v:=by simpa using h
  subst e
  simp[k.1]
 | some y::a,x::b,i+1,v,k,h=>by
  have:=Wk.get (a:=a) (b:=b) (i:=i) (v:=v) k.2 (by simpa using h)
  simpa using this
theorem js.len {X:Cx} {scope:Scope}: ∀{N:List Str} {ix:List (Option Nat)},js X scope N ix->ix.length=N.length
 | [],[],_=>rfl
 | _::ys,none::os,h=>congrArg (· +1) (js.len (N:=ys) (ix:=os) h)
 | _::ys,some _::os,h=>congrArg (· +1) (js.len (N:=ys) (ix:=os) h.2)
theorem js.get {X:Cx} {scope:Scope}: ∀{N:List Str} {ix:List (Option Nat)} {i j:Nat},js X scope N ix->ix[i]? =some (some j)-> ∃y,N[i]? =some y/\X.N[j]? =some y/\scope.names.lookup y=some .free/\(X.env.kindOf y=some .cell\/X.env.kindOf y=some .free)
 | [],[],i,j,_,h=>by simp at h
 | y::ys,none::os,0,j,_,h=>by simp at h
 | y::ys,none::os,i+1,j,k,h=>by
  obtain ⟨z,h1,h2⟩:=js.get (N:=ys) (ix:=os) (i:=i) (j:=j) k (by simpa using h)
  exact ⟨z,by simpa using h1,h2⟩
 | y::ys,some j'::os,0,j,k,h=>by
  have e:j'=j:=by simpa using h
  subst e
  exact ⟨y,by simp,k.1⟩
 | y::ys,some j'::os,i+1,j,k,h=>by
  obtain ⟨z,h1,h2⟩:=js.get (N:=ys) (ix:=os) (i:=i) (j:=j) k.2 (by simpa using h)
  exact ⟨z,by simpa using h1,h2⟩
theorem yk {σ:St} {ix:List (Option Nat)} {i:Nat} {v:V} (h:(jt σ ix)[i]? =some (some v)): ∃j,ix[i]? =some (some j)/\σ[j]? =some (some v):=by
 unfold jt at h
 rw[TQ]at h
 cases e:ix[i]? with
 | none=>rw[e]at h;cases h
 | some o=>
  rw[e]at h
  cases o with
  | none=>cases h
  | some j=>
   refine ⟨j,rfl,?_⟩
   have h':some ((σ[j]?).getD none)=some (some v):=h
   cases q:σ[j]? with
   | none=>rw[q]at h';cases h'
   | some z=>rw[q]at h';cases h';rfl
theorem uQ {X:Cx} {pins:List (Addr×Obj)} {σ:St} {H:Hp} {s:Shared} (I:Inv X pins σ H s) {scope:Scope} {Nc:List Str} {ix:List (Option Nat)} (zQ:js X scope Nc ix) (gO: ∀y∈scope.names,y.2≠ .cell)
  (jo:scope.kind= .function) (HY: ∀y∈scope.names,y.2= .free->X.env.kindOf y.1=some .cell\/X.env.kindOf y.1=some .free) {fp:List Addr} (hf: ∀b∈fp,kZ X pins H b) (Ku: ∀b∈fp, ∃o,s.heap.get? b=some o)
  {C:Addr} {h':Heap} {t':Nat} {m0:Str->Option Value} (hC:s.heap.objs.size<=C) (Mh:h'.Ns C m0) (k: ∀b o,s.heap.get? b=some o->h'.get? b=some o):
  Inv (b6 X scope C Nc s H fp) [] (jt σ ix) H { s with heap:=h',toks:=t' }:=by
 have Ml: ∀y∈scope.names,y.2= .free-> ∃c,X.env.cells.lookup y.1=some c:=fun y hy e=>I.ok.has y.1 (HY y hy e)
 have ju: ∀{x:Str} {c:Addr},(gK X.env scope.names []).lookup x=some c->X.env.cells.lookup x=some c:=fun {x c} e=>j8 scope.names [] (fun y d q=>by simp at q) e
 refine ⟨⟨I.ok.mod,jo,I.ok.glob,I.ok.blt,hC,fun x y c h1 h2=>I.ok.inj x y c (ju h1) (ju h2),fun x hx=>?_,fun x c h=>?_,I.ok.hd,I.ok.frames, .inl rfl,fun b hb=>?_,I.bs,Ug I.ok.CB I.sz,fun b o e hb=>?_,fun b hb hs=>?_,I.stack,I.wm⟩,
  rfl,I.bare,Un.kept k,⟨m0,Mh,fun i x v h1 h2 h3=>?_⟩,fun x c e=>?_,I.bR.fresh hC,fun x c e=>I.gM x c (ju e),fun p hp=>absurd (show p∈([]:List (Addr×Obj)) from hp) (by simp),I.bR.kept k,?_⟩
 ·have zk:scope.names.lookup x=some .free:=jr gO hx
  exact mB scope.names [] Ml zk
 ·exact absurd (show false=true from h) (by decide)
 ·refine ⟨?_,fun x c e=>(hf b hb).2.2.2.2.1 x c (ju e)⟩
  obtain ⟨o,ho⟩:=Ku b hb
  exact TY (T1 (To ho) hC)
 ·rcases (hf b hb).2.2.2.1 with z | z
  ·exact I.ok.zw b o e z
  ·exact absurd (T1 (To e) (Ug I.ok.CB z)) (Ut _)
 ·rcases QS.mp (I.mh b hs) with z | z
  ·exact (hf b hb).2.1 z
  ·exact (hf b hb).2.2.1 z
 ·obtain ⟨j,e1,e2⟩:=yk h2
  obtain ⟨y,y1,y2,y3,y4⟩:=zQ.get e1
  have Pl:Nc[i]? =some x:=h1
  rw[y1]at Pl
  cases Pl
  obtain ⟨m,hn,hl⟩:=I.loc
  have hv:JG X.env.scope x:=by
   rcases y4 with z | z
   ·exact .inr (.inl z)
   ·exact .inr (.inr z)
  obtain ⟨u,r,l⟩:=hl j x v y2 e2 hv
  refine ⟨u,r, .inr ⟨jq y3,?_⟩⟩
  rcases l with ⟨l,_⟩ | ⟨_,c,hc,q⟩
  ·rcases y4 with z | z
   ·rw[z]at l;cases l
   ·rw[z]at l;cases l
  ·obtain ⟨c',rK⟩:=mB scope.names [] Ml y3
   have e:=ju rK
   rw[hc]at e
   cases e
   obtain ⟨o,ho,hd⟩:=q
   exact ⟨c,rK,o,k _ _ ho,hd⟩
 ·obtain ⟨v,o,ho,hd⟩:=I.cell x c (ju e)
  exact ⟨v,o,k _ _ ho,hd⟩
 ·show (jt σ ix).length=Nc.length
  unfold jt
  rw[HX]
  exact zQ.len
theorem yl {X:Cx} {pins wq:List (Addr×Obj)} {σ σ':St} {H H':Hp} {s s':Shared} (I:Inv X pins σ H s) {scope:Scope} {Nc:List Str} {fp:List Addr} {C D:Addr} (J:Inv (b6 X scope C Nc s H fp) wq σ' H' s')
  (hf: ∀b∈fp,kZ X pins H b) (hD:s.heap.objs.size<=D) (hC:s.heap.objs.size<=C) (FY:D≠C) {aJ:List Value} {n:Nat} {acc:List V} (eD:s'.heap.get? D=some { cls:= .type "list",data:= .seq aJ.toArray n }) (r:Vals acc aJ)
  (hz:acc.length<=sizeLine) (nD:H' D=none) {oC:Obj} (eC:s'.heap.get? C=some oC) (dC: ∀v,oC.data≠ .cell v):Inv X (pins++[(C,oC)]) σ (upd H' D (.lst acc)) s':=by
 have lt: ∀b o,s.heap.get? b=some o->b≠D:=fun b o e=>TY (T1 (To e) hD)
 have U:Un (wj X.stack) fp H H' s.heap s'.heap:=J.base
 have U':Un (wj X.stack) fp H (upd H' D (.lst acc)) s.heap s'.heap:=
  ⟨U.keep,U.slot,fun b o e n hx=>by rw[az (lt b o e)];exact U.free b o e n hx,U.there,fun b xs e=>by rw[az (aq (U.nS b xs e) nD)];exact U.nS b xs e,
   fun b o u e=>by rw[az (aq (U.mf b o u e) nD)];exact U.mf b o u e,fun b ps e=>by
    obtain ⟨more,q⟩:=U.p6 b ps e
    exact ⟨more,by rw[az (aq q nD)];exact q⟩⟩
 have bR:iY X.prog X.w (upd H' D (.lst acc)) s'.heap:=fun b u e=>by
  by_cases hb:b=D
  ·subst hb
   rw[ah]at e;cases e
   exact ⟨hz,aJ,n,r,eD⟩
  ·rw[az hb]at e
   exact (J.bR b u e).rT (fun c v _ q=>q) (fun c q=>by rw[az (aq q nD)];exact q) fun c xs q=>by rw[az (aq q nD)];exact q
 have I':Inv X pins σ (upd H' D (.lst acc)) s':=I.JL (ch:=fp) J.os U' bR J.bare fun b hb=>by
  obtain ⟨_,h1,_,h2,h3,h4⟩:=hf b hb
  exact ⟨h2,h1,h3,h4⟩
 refine I'.jj fun p hp=>?_
 rcases T9.mp hp with z | z
 ·exact I'.pin p (T8 _ z)
 ·have e:p=(C,oC):=QU.mp z
  subst e
  refine ⟨eC,?_,V9 (T1 I.lt hC),I.Fm hC,dC⟩
  rw[az (Ne.symm FY)]
  exact J.free
def PF (Y:Cx) (ifs:List Expr) (tc:TT):Prop:=
 ∀(pins:List (Addr×Obj)) (s:Shared) (σ:St) (H:Hp) (Q:Bool->Hp->Prop),Inv Y pins σ H s->tc σ H Q->
  wpAny (model Y.prog Y.w) Y.A (forIn ifs true fun c r=>if r=true then do let ok <-isTrue c Y.env (eval c Y.env);pure (ForInStep.yield ok) else pure (ForInStep.yield r)) (TP Y pins σ Q) Y.xe s
def Kv:TT:=fun _ H Q=>Q true H
theorem j9 {Y:Cx}:PF Y [] Kv:=fun _ _ _ H _ I h=>wpAny_tests_nil ⟨H,I,h⟩
theorem FZ {Y:Cx} {c:Expr} {tc:TT} (h:PT Y c tc):PF Y [c] tc:=fun pins s σ H Q I hw=>wpAny_tests_one (h pins s σ H Q I hw)
def oS (J:It) (σc:St) (g:TG) (tc:TT) (te:TE) (Q:VK) (H1:Hp):Prop:=
 ∃W:Nat->Nat->List V->Hp->Prop,(∃m,W 0 m [] H1)/\ ∀i m acc H,W i m acc H->acc.length<sizeLine/\
 ((J.stop i H/\ ∀D,H D=none->Q (.ref D) (upd H D (.lst acc)))\/
  (J.go i H/\ ∀x H',J.zC i H x H'->g x σc H' fun σ2 H2=>Wk σc σ2/\tc σ2 H2 fun b H3=>if b=true then te σ2 H3 fun v H4=> ∃m',m'<m/\W (i+1) m' (acc++[v]) H4 else ∃m',m'<m/\W (i+1) m' acc H3))
def zR (wi:TI) (ix:List (Option Nat)) (g:TG) (tc:TT) (te:TE):TE:=fun σ H Q=>wi σ H fun J H1=>oS J (jt σ ix) g tc te Q H1
theorem ym {X:Cx} {tg iter elt:Expr} {ifs:List Expr} {scope:Scope} {pos:Pos} {wi:TI} {g:TG} {tc:TT} {te:TE} {Nc:List Str} {ix:List (Option Nat)} (hi:PI X tg iter wi) (oT:X.calm=true) (zQ:js X scope Nc ix)
  (gO: ∀y∈scope.names,y.2≠ .cell) (jo:scope.kind= .function) (HY: ∀y∈scope.names,y.2= .free->X.env.kindOf y.1=some .cell\/X.env.kindOf y.1=some .free)
  (hG: ∀C s H fp,PG (b6 X scope C Nc s H fp) tg g) (hT: ∀C s H fp,PF (b6 X scope C Nc s H fp) ifs tc) (hE: ∀C s H fp,PE (b6 X scope C Nc s H fp) elt te)
  {pins:List (Addr×Obj)} {s:Shared} {σ:St} {H:Hp} {Q:VK} (I:Inv X pins σ H s) (h:zR wi ix g tc te σ H Q) {RR:Value->Addr->Result->Shared->Prop}
  (QW: ∀(D C:Addr) (oC:Obj) (m:Str->Option Value) (H':Hp) (s':Shared),s'.heap.get? C=some oC->s'.heap.Ns C m->kZ X pins H' C->Inv X (pins++[(C,oC)]) σ H' s'->Q (.ref D) H'->RR (.ref D) C (.ok .next) s'):
  wpAny (model X.prog X.w) X.A (eval iter X.env) (fun v s1=>wpAny (model X.prog X.w) X.A (pyIter v) (fun it s2=>wpAny (model X.prog X.w) X.A (newList []) (fun acc s3=>
   wpAny (model X.prog X.w) X.A (newFunctionEnv scope X.env.globals (gK X.env scope.names []) [] X.env.qual none .none (some X.env)) (fun Kw s4=>
    codeAny (model X.prog X.w) X.A (.compStart (.ListComp elt [⟨tg,iter,ifs,0⟩] scope pos) 0 it acc { Kw with scope:=relabel scope X.env }) (RR acc Kw.locals) s4) X.xe s3) X.xe s2) X.xe s1) X.xe s:=by
 refine bV (hi pins s σ H _ I h) fun v s1 h1=>bV h1 fun Np s2 h2=>?_
 obtain ⟨it,fp,tn,J,H2,e,I2,T,ug,f2,W,⟨m0,w0⟩,turn⟩:=h2
 subst e
 refine wpAny_newObj_type (wpAny_newFunctionEnv gO (by intro y hy;simp at hy) (fun h₁ F_ CT=>?_) jo)
 dsimp only at F_ CT ⊢
 generalize EE:s2.heap.push { cls:= .type "list",dict:=none,data:= .seq ([]:List Value).toArray }=P2 at F_ CT ⊢
 have hC:P2.objs.size=s2.heap.objs.size+1:=by rw[<-EE,VH]
 have FY:s2.heap.objs.size≠P2.objs.size:=by rw[hC];exact TY (UW _)
 have Ga:s2.heap.objs.size<=P2.objs.size:=by rw[hC];exact U9 _
 have Fo: ∀b,b<s2.heap.objs.size->b≠P2.objs.size:=fun b hb=>by rw[hC];exact TY (Vg hb)
 have old: ∀b o,s2.heap.get? b=some o->h₁.get? b=some o:=fun b o e=>CT.extBut b o (Fo b (To e)) (Pd _ (EE▸Pd _ e))
 have uR:h₁.get? s2.heap.objs.size=some { cls:= .type "list",data:= .seq ([]:List Value).toArray }:=CT.extBut _ _ FY (Pd _ (EE▸TX _ rfl))
 have Pm:tn 0 h₁:=T.keep 0 _ _ ug fun b _ o e=>old b o e
 have Ku: ∀b∈fp, ∃o,s2.heap.get? b=some o:=fun b hb=>let ⟨o,e,_⟩:=T.obj 0 _ ug b hb;⟨o,e⟩
 have Pn: ∀b∈fp,s2.heap.objs.size≠b:=fun b hb=>let ⟨o,e⟩:=Ku b hb;V9 (To e)
 have IY:=uQ I2 zQ gO jo HY f2 Ku (t':=s2.toks+([]:List (Str×Value)).length) Ga F_ old
 have NO: ∀b,s2.heap.objs.size<=b->b∉wj X.stack:=fun b hb hs=>by
  rcases QS.mp (I2.mh b hs) with z | z
  ·exact absurd (T1 I2.lt hb) (by rw[z];exact Ut _)
  ·exact I2.Fm hb z
 have ju: ∀{x:Str} {c:Addr},(gK X.env scope.names []).lookup x=some c->X.env.cells.lookup x=some c:=fun {x c} e=>j8 scope.names [] (fun y d q=>by simp at q) e
 have Kx: ∀x c,(gK X.env scope.names []).lookup x=some c->c≠s2.heap.objs.size:=fun x c e z=>by
  obtain ⟨v,q⟩:=I2.cell x c (ju e)
  exact absurd (q.lt) (by rw[z];exact Ut _)
 have fY: ∀{pl:List (Addr×Obj)} {H':Hp},(∀p∈pl,p.1=s2.heap.objs.size)->(∀b∈fp,H' b=none)-> ∀b∈fp,kZ (b6 X scope P2.objs.size Nc s2 H2 fp) pl H' b:=fun {pl H'} jV hn b hb=>by
  refine ⟨hn b hb,?_,?_, .inl hb,fun x c e=>(f2 b hb).2.2.2.2.1 x c (ju e),fun p hp=>?_⟩
  ·obtain ⟨o,e⟩:=Ku b hb
   exact Fo b (To e)
  ·intro hs
   rcases QS.mp (I2.mh b hs) with z | z
   ·exact (f2 b hb).2.1 z
   ·exact (f2 b hb).2.2.1 z
  ·rw[jV p hp]
   exact Pn b hb
 have loop: ∀s₃:Shared,s₃={ s2 with heap:=h₁,toks:=s2.toks+([]:List (Str×Value)).length }->
   codeAny (model X.prog X.w) X.A (.compLoop (.ListComp elt [⟨tg,iter,ifs,0⟩] scope pos) 0 (.ref it) (.ref s2.heap.objs.size) (compEnvC scope (gK X.env scope.names []) P2.objs.size X.env)) (RR (.ref s2.heap.objs.size) P2.objs.size) s₃:=by
  rintro s₃ rfl
  refine qh (fun n s'=> ∃i acc aJ nn H',Inv (b6 X scope P2.objs.size Nc s2 H2 fp) [] (jt σ ix) H' s'/\tn i s'.heap/\(∀b∈fp,H' b=none)/\
   s'.heap.get? s2.heap.objs.size=some { cls:= .type "list",data:= .seq (aJ:List Value).toArray nn }/\Vals acc aJ/\H' s2.heap.objs.size=none/\W i n acc H') ?_ m0
   ⟨0,[],[],0,H2,IY,Pm,fun b hb=>(f2 b hb).1,uR, .nil,I2.bR.fresh (Mj _),w0⟩
  rintro n s3 ⟨i,acc,aJ,nn,H3,I3,J0,J1,eD,rv,nD,w3⟩
  obtain ⟨hz,alt⟩:=turn i n acc H3 w3
  have IP:Inv (b6 X scope P2.objs.size Nc s2 H2 fp) [(s2.heap.objs.size,{ cls:= .type "list",data:= .seq aJ.toArray nn })] (jt σ ix) H3 s3:=I3.jj fun p hp=>by
   have e:p=(s2.heap.objs.size,_):=QU.mp hp
   subst e
   refine ⟨eD,nD,FY,NO _ (Mj _),fun v z=>?_⟩
   have z':Data.seq aJ.toArray nn=Data.cell v:=z
   cases z'
  have jV: ∀p∈[(s2.heap.objs.size,({ cls:= .type "list",data:= .seq aJ.toArray nn }:Obj))],p.1=s2.heap.objs.size:=fun p hp=>by
   have e:p=(s2.heap.objs.size,_):=QU.mp hp
   rw[e]
  rcases alt with ⟨stop,fin⟩ | ⟨go,step⟩
  ·refine bV (T.done (b6 X scope P2.objs.size Nc s2 H2 fp) rfl rfl rfl oT i _ s3 _ H3 Cp IP (fY jV J1) J0 stop) fun r s4 zz=>?_
   obtain ⟨hr,I4⟩:=zz
   subst hr
   obtain ⟨m,hn,_⟩:=id I4.loc
   obtain ⟨oC,es,ep,eC,dC,_⟩:=id hn
   have QX:=(I4.pin (s2.heap.objs.size,_) (T8 _ (QU.mpr rfl))).1
   have NP:=fin _ nD
   refine QW _ _ oC m _ s4 eC hn ?_ (yl I2 I4 f2 (Mj _) Ga FY QX rv (Um hz) nD eC fun v z=>?_) NP
   ·refine I2.nV Ga ?_
    rw[az (Ne.symm FY)]
    exact I4.free
   ·rw[dC]at z;cases z
  ·refine bV (T.item (b6 X scope P2.objs.size Nc s2 H2 fp) rfl rfl rfl oT i _ s3 _ H3 Cp IP (fY jV J1) J0 go) fun r s4 zz=>?_
   obtain ⟨u,hr,h4⟩:=zz
   subst hr
   refine bV h4 fun _ s5 zz=>?_
   obtain ⟨x,H5,I5,r5,y5,FA,Nt⟩:=zz
   have Nu:=I5.pinned (fY jV Nt) (T.obj _ _ FA)
   refine bV (hG _ s2 H2 fp _ s5 _ H5 x u _ Nu r5 (step x H5 y5)) fun _ s6 zz=>?_
   obtain ⟨σ6,H6,I6,wk,q6⟩:=zz
   refine bV (hT _ s2 H2 fp _ s6 σ6 H6 _ I6 q6) fun b s7 zz=>?_
   obtain ⟨H7,I7,q7⟩:=zz
   have again: ∀{H9:Hp} {s9:Shared} {m':Nat},Inv (b6 X scope P2.objs.size Nc s2 H2 fp) ([(s2.heap.objs.size,({ cls:= .type "list",data:= .seq aJ.toArray nn }:Obj))]++mi fp s5.heap) σ6 H9 s9->
     (s9.heap.get? s2.heap.objs.size=some { cls:= .type "list",data:= .seq aJ.toArray nn }/\H9 s2.heap.objs.size=none)/\tn (i+1) s9.heap/\(∀b∈fp,H9 b=none)/\Inv (b6 X scope P2.objs.size Nc s2 H2 fp) [] (jt σ ix) H9 s9:=fun {H9 s9 m'} I9=>by
    have pD:=I9.pin (s2.heap.objs.size,_) (T8 _ (Vj _ (QU.mpr rfl)))
    refine ⟨⟨pD.1,pD.2.1⟩,T.keep _ _ _ FA fun b hb o e=>(I9.pin (b,o) (T8 _ (T8 _ (gi hb e)))).1,fun b hb=>?_,?_⟩
    ·obtain ⟨o,e,d⟩:=T.obj _ _ FA b hb
     exact (I9.pin (b,o) (T8 _ (T8 _ (gi hb e)))).2.1
    ·exact (I9.weak wk.len fun i v e=>wk.get e).jj fun p hp=>absurd hp (by simp)
   cases b with
   | false=>
    rw[if_neg T7]at q7 ⊢
    obtain ⟨m',hm,w7⟩:=q7
    obtain ⟨⟨e7,n7⟩,t7,f7,J7⟩:=again (m':=0) I7
    exact ⟨m',hm,i+1,acc,aJ,nn,H7,J7,t7,f7,e7,rv,n7,w7⟩
   | true=>
    rw[if_pos rfl]at q7 ⊢
    refine bV (hE _ s2 H2 fp _ s7 σ6 H7 _ I7 q7) fun y s8 zz=>?_
    obtain ⟨v,H8,I8,r8,m',hm,w8⟩:=zz
    obtain ⟨⟨e8,n8⟩,t8,f8,J8⟩:=again (m':=0) I8
    refine wpAny_list_append_plain (items:=aJ.toArray) ⟨nn,e8⟩ (fun h9 QY Po=>?_) (by rw[QR, <-rv.length];exact Um hz)
    obtain ⟨n9,e9⟩:=QY
    refine ⟨m',hm,i+1,acc++[v],aJ++[y],n9,H8,J8.turned (t':=s8.toks) (fun b o hb e=>(Po.2 b hb).trans e) n8 FY (.inr (Mj _)) Kx (fun p hp=>absurd hp (by simp[b6])),?_,f8,?_,rv.append (.cons r8 .nil),n8,w8⟩
    ·exact T.keep _ _ _ t8 fun b hb o e=>(Po.2 b (Ne.symm (Pn b hb))).trans e
    ·simpa using e9
 exact codeAny_compStart_list (loop _ rfl) (T.self _ 0 _ _ _ Pm (loop _ rfl))
theorem CU {X:Cx} {tg iter elt:Expr} {ifs:List Expr} {scope:Scope} {pos:Pos} {wi:TI} {g:TG} {tc:TT} {te:TE} (Nc:List Str) (ix:List (Option Nat)) (hi:PI X tg iter wi) (oT:X.calm=true) (zQ:js X scope Nc ix)
  (gO: ∀y∈scope.names,y.2≠ .cell) (jo:scope.kind= .function) (HY: ∀y∈scope.names,y.2= .free->X.env.kindOf y.1=some .cell\/X.env.kindOf y.1=some .free)
  (Gb: ∀x∈scope.names,x.2= .local->scope.names.lookup x.1=some .local)
  (hG: ∀C s H fp,PG (b6 X scope C Nc s H fp) tg g) (hT: ∀C s H fp,PF (b6 X scope C Nc s H fp) ifs tc) (hE: ∀C s H fp,PE (b6 X scope C Nc s H fp) elt te)
  (hs: ∀x,foldedSetIterable iter X.env x=pure x:=by intro _;rfl):PE X (.ListComp elt [⟨tg,iter,ifs,0⟩] scope pos) (zR wi ix g tc te):=by
 intro pins s σ H Q I h
 rw[eval_ListComp]
 have Ml: ∀y∈scope.names,y.2= .free-> ∃c,X.env.cells.lookup y.1=some c:=fun y hy e=>I.ok.has y.1 (HY y hy e)
 refine wpAny_comprehension_free (use:=none) rfl hs (nY Ml) jo Gb (ym hi oT zQ gO jo HY hG hT hE I h (RR:=fun acc C=>compPost (model X.prog X.w) X.A X.xe none (EP X pins σ Q) acc C) ?_)
 intro D C oC m H' s' eC hn fC I' q
 refine ⟨m,hn,fun h' NQ=>⟨.ref D,H',?_,rfl,q⟩⟩
 exact I'.jl.turned (t':=s'.toks) (fun b o hb e=>(NQ.2 b hb).trans e) fC.1 fC.2.1 fC.2.2.2.1 fC.2.2.2.2.1 fC.2.2.2.2.2
noncomputable def S (l:List Nat):Str:=⟨l.toArray⟩
theorem eU (l:List Nat):(S l).cps.toList=l:=by simp[S]
theorem cI (l:List Nat):(S l).length=l.length:=by simp[S,Str.length]
theorem j_ (l:List Nat):(S l).cps.size=l.length:=by simp[S]
theorem Ky {a b:List Nat} (h:S a=S b):a=b:=by
 have:=congrArg (fun x:Str=>x.cps.toList) h
 simpa [S]using this
theorem Kz (x:Str):x=S x.cps.toList:=by cases x;simp[S]
theorem KA (a b:List Nat):S a++S b=S (a++b):=by
 apply Str.ext'
 apply V2.mp
 simp[S,Str.cps_append]
theorem KC {a b:List Nat}:decide (V.str (S a)=V.str (S b))=decide (a=b):=by
 by_cases h:a=b
 ·subst h;simp
 ·rw[decide_eq_false h,decide_eq_false]
  intro q
  exact h (Ky (V.str.inj q))
noncomputable def cut {α:Type} (xs:List α) (lo hi:Option Int):List α:=(xs.drop (HT.ir xs.length 0 lo)).take (HT.ir xs.length xs.length hi - HT.ir xs.length 0 lo)
theorem sj (n d:Nat) (v:Int):max 0 (min (if v<0 then v+(n:Int) else v) (n:Int))=((HT.ir n d (some v):Nat):Int):=by
 show _=(((if v<0 then (v+(n:Int)).toNat else min v.toNat n):Nat):Int)
 by_cases hv:v<0
 ·simp only[if_pos hv];omega
 ·simp only[if_neg hv];omega
theorem kQ (lo hi:Option Int) (n:Nat):Builtin.Str.strSliceIndices lo hi 1 n=(List.range (HT.ir n n hi - HT.ir n 0 lo)).map (HT.ir n 0 lo+ ·):=by
 have h1:(1:Int)>0:=by decide
 rw[<-sliceRange_one]
 unfold Builtin.Str.strSliceIndices
 simp only[h1,if_true]
 congr 1
 ·cases lo with
  | none=>rfl
  | some v=>exact sj n 0 v
 ·cases hi with
  | none=>rfl
  | some v=>exact sj n n v
theorem CV (l:List Nat) (lo hi:Option Int):Txt.slice (S l) lo hi=S (cut l lo hi):=by
 have hx:((Builtin.Str.strSliceIndices lo hi 1 (S l).length).filterMap ((S l).cps[·]?))=cut l lo hi:=by
  rw[cI,kQ,pick_run,eU]
  rfl
 have hlen:(Builtin.Str.strSliceIndices lo hi 1 (S l).length).length=HT.ir l.length l.length hi - HT.ir l.length 0 lo:=by
  rw[cI,kQ,HX,Vh]
 unfold Txt.slice
 by_cases hc:((1:Int)==1&&(Builtin.Str.strSliceIndices lo hi 1 (S l).length).length==(S l).length)=true
 ·rw[if_pos hc]
  rw[hlen,cI]at hc
  have e:HT.ir l.length l.length hi - HT.ir l.length 0 lo=l.length:=by simpa using hc
  have h2:=HT.FH l.length l.length (Mj _) hi
  have e0:HT.ir l.length 0 lo=0\/l.length=0:=by omega
  unfold cut
  rw[e]
  rcases e0 with z | z
  ·rw[z];simp
  ·have:l=[]:=VG z
   subst this
   simp
 ·rw[if_neg hc]
  rw[hx]
  rfl
section
variable {X:Cx}
theorem qj {x:Str} {j pos} (l:List Nat) (h:x=S l):PE X (.Constant (.str x) j pos) (tC (.str (S l))):=by
 subst h
 exact Fq
def KD:R2:=fun x y H Q=> ∃a b,x= .str (S a)/\y= .str (S b)/\a.length+b.length<=sizeLine/\Q (.str (S (a++b))) H
theorem dM:jn X (binaryOp .Add) KD:=by
 intro pins s σ H x y v u Q I rx ry h
 obtain ⟨a,b,rfl,rfl,hz,q⟩:=h
 exact uC pins s σ H _ _ v u Q I rx ry ⟨S a,S b,rfl,rfl,by rw[cI,cI];exact hz,by rw[KA];exact q⟩
def KG:R2:=fun x y H Q=> ∃l i c,x= .str (S l)/\y= .int i/\l.length<=sizeLine/\j6 l i=some c/\Q (.str (S [c])) H
theorem qk:FI X KG:=by
 intro value slice pins s σ H x y v u Q I rx ry h hs
 obtain ⟨l,i,c,rfl,rfl,hz,he,q⟩:=h
 exact FL value slice pins s σ H _ _ v u Q I rx ry ⟨S l,i,c,rfl,rfl,by rw[cI];exact hz,by rw[eU];exact he,q⟩ hs
def NR:V->Option Int->Option Int->Hp->VK->Prop:=fun x lo hi H Q=> ∃l,x= .str (S l)/\l.length<=sizeLine/\Q (.str (S (cut l lo hi))) H
theorem mC:Mg X NR:=by
 intro pins s σ H x v vl vu lo hi sl Q I rx hs pl pu h
 obtain ⟨l,rfl,hz,q⟩:=h
 obtain ⟨t,rfl⟩:=rx
 refine ⟨"str",_,F.slot_str_getitem.lookup,typeIs_str _ _ _,?_⟩
 have key: ∀(a b:Option (Int×Tok)),vl=partValue a->vu=partValue b->a.map (·.1)=lo->b.map (·.1)=hi->wpAny (model X.prog X.w) X.A (getItem (.str (S l) t) (.ref sl)) (EP X pins σ Q) X.xe s:=by
  rintro a b rfl rfl rfl rfl
  obtain ⟨o,e,c,d⟩:=hs
  refine wpAny_getItem_str_slice (l:=a) (u:=b) (st:=none) ⟨o,e,c,d⟩ rfl (post_val_or_str ⟨?_,fun t' k=>?_⟩)
  ·exact Ug (Txt.slice_le (S l) _ _) (by rw[cI];exact hz)
  ·exact ⟨.str (S (cut l _ _)),H,I.tok _,⟨t',congrArg (fun z=>Value.str z t') (CV l _ _)⟩,q⟩
 cases pl with
 | none=>
  cases pu with
  | none=>exact key none none rfl rfl rfl rfl
  | int i ti=>exact key none (some (i,ti)) rfl rfl rfl rfl
 | int i ti=>
  cases pu with
  | none=>exact key (some (i,ti)) none rfl rfl rfl rfl
  | int j tj=>exact key (some (i,ti)) (some (j,tj)) rfl rfl rfl rfl
theorem bp:de X (.builtin "len") (fun xs H Q=> ∃l,xs=[.str (S l)]/\l.length<=sizeLine/\Q (.int l.length) H):=by
 intro pins s σ H xs us Q I r h
 obtain ⟨l,rfl,hz,q⟩:=h
 exact qf pins s σ H _ us Q I r ⟨S l,rfl,by rw[cI];exact hz,by rw[cI];exact q⟩
noncomputable def dz (l:List Nat):List V:=l.map fun c=>V.str (S [c])
theorem uS {l:List Nat}: ∀{acc:List Value},acc.length=l.length->(∀j v,acc[j]? =some v->SignAt (S l) j v)->Vals (dz l) acc:=by
 induction l with
 | nil=>intro acc h _;have:acc=[]:=VG h;subst this;exact .nil
 | cons c l ih=>
  intro acc h k
  cases acc with
  | nil=>cases h
  | cons a acc=>
   refine .cons ?_ (ih (by simpa using h) fun j v e=>?_)
   ·obtain ⟨c',u,e1,e2⟩:=k 0 a rfl
    have:c=c':=by simpa [S]using e1
    subst this
    exact ⟨u,e2⟩
   ·obtain ⟨c',u,e1,e2⟩:=k (j+1) v (by simpa using e)
    exact ⟨c',u,by simpa [S]using e1,e2⟩
theorem uT (hc:X.calm=true):de X (.type "list") (fun xs H Q=> ∃l,xs=[.str (S l)]/\l.length<=sizeLine/\ ∀p,H p=none->Q (.ref p) (upd H p (.lst (dz l)))):=by
 intro pins s σ H xs us Q I r h
 obtain ⟨l,rfl,hz,q⟩:=h
 obtain ⟨u,rfl,t,rfl⟩:=vals1 r
 refine call_list_str (I.ok.hd hc) (S l) t (fun h' tk dD c' hk e uR=>?_) (by rw[j_];exact hz)
 obtain ⟨h1,h2⟩:=uR
 rw[j_]at h1
 refine ⟨.ref s.heap.objs.size,_,I.laid (t':=tk) (o:= .lst (dz l)) hk (Mj _) ?_,rfl,q _ I.fresh⟩
 exact ⟨by unfold dz;rw[HX];exact hz,dD.toList,c',uS (by simpa using h1) (fun j v e=>h2 j v (by simpa using e)),by simpa using e⟩
def NS:R2:=fun x y H Q=> ∃c l,x= .str (S [c])/\y= .str (S l)/\Q (.bl (decide (c∈l))) H
theorem Gd:jn X (compareOp .In) NS:=by
 intro pins s σ H x y v u Q I rx ry h
 obtain ⟨c,l,rfl,rfl,q⟩:=h
 refine x5 pins s σ H _ _ v u Q I rx ry ⟨S [c],S l,rfl,rfl,?_⟩
 have e:=StrLaws.found_one (S l) c
 rw[eU]at e
 rw[show (S [c])=(⟨#[c]⟩:Str) from rfl,e]
 exact q
end
theorem oU (s sub:Str) (hi:Nat): ∀(l:List Nat) (st:Array Nat×Nat),1<=st.fst.size->(forIn l st (StrLaws.occBody s sub hi 1)).run.fst=st.fst
 | [],st,h=>rfl
 | a::l,st,h=>by
  rw[VL]
  unfold StrLaws.occBody
  rw[if_neg (fun z=>absurd z.1.1.1 (Nat.not_lt.mpr h))]
  exact oU s sub hi l _ h
theorem occ_first (s sub:Str) (hi:Nat): ∀(l:List Nat) (free:Nat),(∀i∈l,free<=i)->
  (forIn l ((#[]:Array Nat),free) (StrLaws.occBody s sub hi 1)).run.fst.toList=(l.find? fun i=>decide (i+sub.length<=hi)&&Builtin.Str.subAt s sub i).toList
 | [],free,_=>rfl
 | a::l,free,hf=>by
  rw[VL,U2]
  unfold StrLaws.occBody
  have ha:free<=a:=hf a TR
  by_cases hc:a+sub.length<=hi/\Builtin.Str.subAt s sub a=true
  ·rw[if_pos ⟨⟨⟨by simp,ha⟩,hc.1⟩,hc.2⟩]
   have:(decide (a+sub.length<=hi)&&Builtin.Str.subAt s sub a)=true:=by simp[hc]
   rw[this]
   show (forIn l (#[].push a,a+sub.length) (StrLaws.occBody s sub hi 1)).run.fst.toList=_
   rw[oU s sub hi l _ (by simp)]
   rfl
  ·rw[if_neg (fun z=>hc ⟨z.1.2,z.2⟩)]
   have:(decide (a+sub.length<=hi)&&Builtin.Str.subAt s sub a)=false:=by
    cases h1:decide (a+sub.length<=hi) with
    | false=>rfl
    | true=>
     cases h2:Builtin.Str.subAt s sub a with
     | false=>rfl
     | true=>exact absurd ⟨of_decide_eq_true h1,h2⟩ hc
   rw[this]
   exact occ_first s sub hi l free fun i lN=>hf i (Tj _ lN)
theorem subAt_one (l:List Nat) (c i:Nat):Builtin.Str.subAt (S l) (S [c]) i=(l[i]? ==some c):=by
 unfold Builtin.Str.subAt
 rw[cI]
 show ((S l).cps.extract i (i+1)== #[c])=_
 have e:((S l).cps.extract i (i+1))=((l.drop i).take 1).toArray:=by
  apply V2.mp
  simp[S,List.take_drop]
 rw[e]
 by_cases h:i<l.length
 ·have e2:(l.drop i).take 1=[l[i]]:=by
   rw[Uz h];rfl
  rw[e2,FW h]
  by_cases hc:l[i]=c
  ·rw[hc];simp
  ·have h1:([l[i]].toArray== #[c])=false:=by
    rw[beq_eq_false_iff_ne]
    intro z
    apply hc
    have:=congrArg Array.toList z
    simpa using this
   have h2:(some l[i]==some c)=false:=by simpa using hc
   rw[h1,h2]
 ·have e2:(l.drop i).take 1=[]:=by rw[Vv (by omega)];rfl
  rw[e2,U0 (by omega)]
  rfl
theorem mD (l:List Nat) (c:Nat): ∀(k n:Nat),k+n=l.length+1->((List.range' k n).find? fun i=>decide (i+1<=l.length)&&(l[i]? ==some c))=if c∈l.drop k then some (k+(l.drop k).idxOf c) else none
 | k,0,h=>by
  have:l.drop k=[]:=Vv (by omega)
  rw[this];simp
 | k,n+1,h=>by
  rw[List.range'_succ,U2]
  by_cases hk:k<l.length
  ·have e:l.drop k=l[k]::l.drop (k+1):=Uz hk
   rw[FW hk,e]
   by_cases hc:l[k]=c
   ·have:(decide (k+1<=l.length)&&(some l[k]==some c))=true:=by simp[hc];omega
    rw[this,if_pos (by simp[hc])]
    simp[hc]
   ·have:(decide (k+1<=l.length)&&(some l[k]==some c))=false:=by simp[hc]
    rw[this,mD l c (k+1) n (by omega)]
    have rK: ¬c=l[k]:=fun z=>hc z.symm
    by_cases hm:c∈l.drop (k+1)
    ·rw[if_pos hm,if_pos (Tj _ hm),Wd]
     have:(l[k]==c)=false:=by simpa using hc
     rw[this]
     show some (k+1+List.idxOf c (List.drop (k+1) l))=some (k+(List.idxOf c (List.drop (k+1) l)+1))
     congr 1
     omega
    ·rw[if_neg hm,if_neg (by intro z;rcases QS.mp z with z | z;exact rK z;exact hm z)]
  ·have:l.drop k=[]:=Vv (by omega)
   have e1:(decide (k+1<=l.length)&&(l[k]? ==some c))=false:=by
    rw[decide_eq_false (by omega)];rfl
   have e2:l.drop (k+1)=[]:=Vv (by omega)
   rw[e1,mD l c (k+1) n (by omega),this,e2]
   simp
theorem EF (l:List Nat) (c:Nat):Builtin.Str.occurrences (S l) (S [c]) 0 (S l).length 1=if c∈l then [l.idxOf c] else []:=by
 rw[StrLaws.occ_eq,occ_first _ _ _ _ 0 fun _ _=>Ti _]
 have e:(fun i=>decide (i+(S [c]).length<=(S l).length)&&Builtin.Str.subAt (S l) (S [c]) i)=fun i=>decide (i+1<=l.length)&&(l[i]? ==some c):=by
  funext i
  rw[subAt_one,cI,cI]
  rfl
 rw[e,cI,Nat.sub_zero,mD l c 0 (l.length+1) (by omega),List.drop_zero]
 by_cases h:c∈l
 ·rw[if_pos h,if_pos h,VP];rfl
 ·rw[if_neg h,if_neg h];rfl
section
variable {X:Cx}
def CY:V->List V->Hp->VK->Prop:=fun x vs H Q=> ∃l c,x= .str (S l)/\vs=[.str (S [c])]/\c∈l/\Q (.int (l.idxOf c:Nat)) H
theorem ka:yh X "str.index" CY:=by
 intro pins s σ H x xs v us Q I rx rv h
 obtain ⟨l,c,rfl,rfl,hc,q⟩:=h
 obtain ⟨t,rfl⟩:=rx
 obtain ⟨u,rfl,t',rfl⟩:=vals1 rv
 exact SC.index (i:=l.idxOf c) (rest:=[]) (by rw[EF,if_pos hc]) ⟨.int (l.idxOf c:Nat),H,I.tok _,⟨_,rfl⟩,q⟩
def Ge:V->List V->Hp->VK->Prop:=fun x vs H Q=> ∃l c,x= .str (S l)/\vs=[.str (S [c])]/\Q (.int (if c∈l then (l.idxOf c:Nat) else -1)) H
theorem sk:yh X "str.find" Ge:=by
 intro pins s σ H x xs v us Q I rx rv h
 obtain ⟨l,c,rfl,rfl,q⟩:=h
 obtain ⟨t,rfl⟩:=rx
 obtain ⟨u,rfl,t',rfl⟩:=vals1 rv
 refine SC.find ⟨.int _,H,I.tok _,⟨_,rfl⟩,?_⟩
 have e:Txt.find (S l) (S [c])=(if c∈l then ((l.idxOf c:Nat):Int) else -1):=by
  unfold Txt.find
  rw[EF]
  by_cases h:c∈l
  ·rw[if_pos h,if_pos h]
  ·rw[if_neg h,if_neg h]
 rw[e]
 exact q
def EG (f:Nat->Bool):V->List V->Hp->VK->Prop:=fun x vs H Q=> ∃c,x= .str (S [c])/\vs=[]/\c<128/\Q (.bl (f c)) H
def KH (f:Nat->Nat):V->List V->Hp->VK->Prop:=fun x vs H Q=> ∃c,x= .str (S [c])/\vs=[]/\c<128/\Q (.str (S [f c])) H
noncomputable def aA (c:Nat):Bool:=decide (97<=c)&&decide (c<=122)
noncomputable def isUp (c:Nat):Bool:=decide (65<=c)&&decide (c<=90)
theorem CZ: ∀c,c<128->Txt.islower ⟨#[c]⟩=aA c:=by decide+kernel
theorem Gf: ∀c,c<128->Txt.isupper ⟨#[c]⟩=isUp c:=by decide+kernel
theorem i3:yh X "str.islower" (EG aA):=by
 intro pins s σ H x xs v us Q I rx rv h
 obtain ⟨c,rfl,rfl,hc,q⟩:=h
 obtain ⟨t,rfl⟩:=rx
 have e:us=[]:=by cases rv;rfl
 subst e
 exact SC.islower ⟨.bl (aA c),H,I,congrArg Value.bool (CZ c hc),q⟩
theorem uU:yh X "str.isupper" (EG isUp):=by
 intro pins s σ H x xs v us Q I rx rv h
 obtain ⟨c,rfl,rfl,hc,q⟩:=h
 obtain ⟨t,rfl⟩:=rx
 have e:us=[]:=by cases rv;rfl
 subst e
 exact SC.isupper ⟨.bl (isUp c),H,I,congrArg Value.bool (Gf c hc),q⟩
theorem upper_one {c:Nat} (hc:c<128):Txt.upper (S [c])=S [up1 c]:=by
 rw[upper_ascii (by intro d hd;rw[eU]at hd;simp at hd;omega)]
 simp[S]
theorem oV {c:Nat} (hc:c<128):Txt.lower (S [c])=S [lo1 c]:=by
 rw[lower_ascii (by intro d hd;rw[eU]at hd;simp at hd;omega)]
 simp[S]
theorem EH (c:Nat):Builtin.Str.tooLong (S [c]).length=false:=by
 rw[cI]
 show Builtin.Str.tooLong 1=false
 decide
theorem zS:yh X "str.upper" (KH up1):=by
 intro pins s σ H x xs v us Q I rx rv h
 obtain ⟨c,rfl,rfl,hc,q⟩:=h
 obtain ⟨t,rfl⟩:=rx
 have e:us=[]:=by cases rv;rfl
 subst e
 exact SC.upper (by rw[upper_one hc];exact EH _) ⟨.str (S [up1 c]),H,I.tok _,⟨_,congrArg (fun z=>Value.str z _) (upper_one hc)⟩,q⟩
theorem mE:yh X "str.lower" (KH lo1):=by
 intro pins s σ H x xs v us Q I rx rv h
 obtain ⟨c,rfl,rfl,hc,q⟩:=h
 obtain ⟨t,rfl⟩:=rx
 have e:us=[]:=by cases rv;rfl
 subst e
 exact SC.lower (by rw[oV hc];exact EH _) ⟨.str (S [lo1 c]),H,I.tok _,⟨_,congrArg (fun z=>Value.str z _) (oV hc)⟩,q⟩
theorem zT: ∀(ls:List (List Nat)) (a:Array Nat),(ls.map S).foldl (fun acc p=>acc++(S []).cps++p.cps) a=a++ls.flatten.toArray
 | [],a=>by simp
 | l::ls,a=>by
  rw[TV,VM,zT ls]
  simp[S]
theorem Gg (ls:List (List Nat)):Txt.join (S []) (ls.map S)=S ls.flatten:=by
 unfold Txt.join Builtin.Str.glued
 cases ls with
 | nil=>rfl
 | cons l ls=>
  show Str.mk ((List.map S ls).foldl (fun acc p=>acc++(S []).cps++p.cps) (S l).cps)=_
  rw[zT]
  simp[S]
theorem mF: ∀{ls:List (List Nat)} {us:List Value},Vals (ls.map fun l=>V.str (S l)) us->StrsAre us (ls.map S)
 | [],us,r=>by cases r;exact .nil
 | l::ls,us,r=>by
  cases r with
  | cons r1 r2=>
   obtain ⟨t,rfl⟩:=r1
   exact .cons _ t (mF r2)
def zU (K:PySem.W.Frag):V->List V->Hp->VK->Prop:=fun x vs H Q=> ∃(p:Addr) (ls:List (List Nat)),x= .str (S [])/\vs=[.ref p]/\bK K H p (ls.map fun l=>V.str (S l))/\(ls.map List.length).sum<=16777216/\Q (.str (S ls.flatten)) H
theorem zV:yh X "str.join" (zU X.K):=by
 intro pins s σ H x xs v us Q I rx rv h
 obtain ⟨p,ls,rfl,rfl,hq,hz,q⟩:=h
 obtain ⟨t,rfl⟩:=rx
 obtain ⟨u,rfl,ru⟩:=vals1 rv
 cases ru
 obtain ⟨aJ,r,pl,_⟩:=I.list hq
 have e:(S []).length=0:=rfl
 refine join_list pl.isList (by simpa using mF r) ?_ fun t' k=>?_
 ·rw[e,Nat.mul_zero,Wy,Us]
  have e2:(Str.length ∘ S)=List.length:=by funext l;exact cI l
  have e3:((fun x:Str=>x.length) ∘ S)=List.length:=by funext l;exact cI l
  first | (rw[e2];exact hz) | (rw[e3];exact hz)
 ·exact ⟨.str (S ls.flatten),H,I.tok _,⟨t',congrArg (fun z=>Value.str z t') (Gg ls)⟩,q⟩
end
end L2
namespace L2.F2
open PySem PySem.Spec PyProof.Rows
theorem oW:Manifest.owners.lookup (String.ofList ['d','e','s','r','e','v','e','r'].reverse)=some Manifest.sig_reversed:=by kernel_rfl
theorem cM:Slot "reversed" "__next__" "reversed.__next__":=
 .of (owner:="reversed") (n:="__next__") (by rw[typeLookup_type,builtinLookup_eq_fast];kernel_rfl) (by decide+kernel) (by decide+kernel) (by decide+kernel)
  (by first | exact .inl (by decide+kernel) | exact .inr (by decide+kernel)) (by rw[isSubtype_type];kernel_rfl)
theorem gR:entryFor table "reversed.__next__"=some Builtin.«reversed.__next__» :=entryFor_of_tree (by kernel_rfl)
theorem gC (a:Value):argsOk "reversed.__next__" ⟨[a],[]⟩:=by
 unfold argsOk;rw[signature?_of (id:="reversed.__next__") (n:=['_','_','t','x','e','n','_','_']) (o:=['d','e','s','r','e','v','e','r']) (by kernel_rfl) oW];kernel_rfl
theorem iP:Slot "reversed" "__iter__" "reversed.__iter__":=
 .of (owner:="reversed") (n:="__iter__") (by rw[typeLookup_type,builtinLookup_eq_fast];kernel_rfl) (by decide+kernel) (by decide+kernel) (by decide+kernel)
  (by first | exact .inl (by decide+kernel) | exact .inr (by decide+kernel)) (by rw[isSubtype_type];kernel_rfl)
theorem lh (a:Value):argsOk "reversed.__iter__" ⟨[a],[]⟩:=by
 unfold argsOk;rw[signature?_of (id:="reversed.__iter__") (n:=['_','_','r','e','t','i','_','_']) (o:=['d','e','s','r','e','v','e','r']) (by kernel_rfl) oW];kernel_rfl
theorem mG:entryFor table "reversed.__iter__"=some Builtin.«dict_keyiterator.__iter__» :=
 entryFor_alias (id':="dict_keyiterator.__iter__") (by kernel_rfl) (by first | rfl | decide+kernel | (unfold String.splitOn;simp+decide [String.splitOnAux])) (by decide+kernel) (by kernel_rfl)
theorem nZ:Slot "reversed" "__init__" "object.__init__":=
 .of (owner:="object") (n:="__init__") (by rw[typeLookup_type,builtinLookup_eq_fast];kernel_rfl) (by decide+kernel) (by decide+kernel) (by decide+kernel)
  (by first | exact .inl (by decide+kernel) | exact .inr (by decide+kernel)) (by rw[isSubtype_type];kernel_rfl)
theorem uV:TypeCalled "reversed" "reversed.__new__" "object.__init__":=
 ⟨by decide+kernel,by decide+kernel,⟨_,_,F.mro_reversed⟩,F.made_reversed,by decide+kernel,by rw[isSubtype_type];kernel_rfl,nZ⟩
theorem uW:typeLookup (.type "str") "__reversed__"=pure none:=by rw[typeLookup_type,builtinLookup_eq_fast];kernel_rfl
end L2.F2
namespace L2
open PySem PySem.Spec PyProof.Rows
theorem mH (x:Str) (t:Tok) (hz:x.length<=sizeLine):Meets (Builtin.«reversed.__new__» ⟨[.type "reversed", .str x t],[]⟩) (fun _ R s=> ∀tk,R (.ok (.ret (.ref s.heap.objs.size))) { s with heap:=s.heap.push { cls:= .type "reversed",data:= .fields #[.str x t,rawInt ((x.length:Int) - 1)] },toks:=tk }):=by
 refine Meets.of_wp fun prog w A R s h=>?_
 unfold Builtin.«reversed.__new__»
 refine wpAny_bind (wpAny_of_eq (newClass_reversed _) ?_)
 try dsimp only
 refine wpAny_bind (wpAny_of_eq (a:=()) (by first | rfl | kernel_rfl) ?_)
 refine wpAny_bind (wpAny_of_eq (a:=()) (by first | rfl | kernel_rfl) ?_)
 try dsimp only
 refine wpAny_bind (wpAny_specialOf (typeIs_str s x t) F2.uW ?_)
 try dsimp only
 refine wpAny_bind (wpAny_of_eq (a:=true) (by first | rfl | kernel_rfl) ?_)
 rw[if_neg (by decide)]
 have hn:=eT
 refine wpAny_bind (len_str (by omega) ?_)
 refine wpAny_bind (wpAny_of_eq (a:=some (x.length:Int)) (by first | rfl | kernel_rfl) ?_)
 show wpAny _ _ (Builtin.SmallTypes.newRecord (Value.type "reversed") [Value.str x t,rawInt ((x.length:Int) - 1)] >>= _) _ _ _
 refine wpAny_bind ?_
 unfold Builtin.SmallTypes.newRecord
 refine wpAny_newObj_type ?_ (by size_fits)
 exact wpAny_pure ⟨_,rfl,h _⟩
section
variable {prog:Program} {w:World} {A:Around} {E:Value->Shared->Prop} {s:Shared}
theorem mI {x:Str} {t:Tok} {Q:Value->Shared->Prop} (hz:x.length<=sizeLine) (h: ∀tk,Q (.ref s.heap.objs.size) { s with heap:=s.heap.push { cls:= .type "reversed",data:= .fields #[.str x t,rawInt ((x.length:Int) - 1)] },toks:=tk }):
  wpAny (model prog w) A (call (.type "reversed") [.str x t]) Q E s:=
 callType_new F2.uV (by decide+kernel) (F.typeCall_reversed_1 _) (F.newCall_reversed_1 _) (fun obj=>by unfold argsOk;kernel_rfl) F.entry_reversed_new (mH x t hz)
  fun tk=>⟨⟨_,TX _ rfl,rfl⟩,h tk⟩
def gS (h:Heap) (it:Addr) (x:Str) (t:Tok) (i:Int):Prop:= ∃o,h.get? it=some o/\o.cls= .type "reversed"/\o.data= .fields #[.str x t,rawInt i]
theorem gS.typeIs {it:Addr} {x:Str} {t:Tok} {i:Int} (h:gS s.heap it x t i):s.TypeIs (.ref it) "reversed":=let ⟨o,ho,hc,_⟩:=h;⟨o,ho,hc⟩
theorem mJ {it:Addr} {x:Str} {t:Tok} {i:Int} {Q:Value->Shared->Prop} (hit:gS s.heap it x t i) (h:Q (.ref it) s):wpAny (model prog w) A (pyIter (.ref it)) Q E s:=by
 refine wpAny_pyIter_slot hit.typeIs F2.iP (wpAny_call_entry F2.iP hit.typeIs F2.mG ?_ (F2.lh _))
 show wpAny _ _ (ret (.ref it)) _ _ s
 exact wpAny_pure ⟨_,rfl,"reversed",_,hit.typeIs,F2.cM.lookup,h⟩
theorem lj {it:Addr} {x:Str} {t:Tok} {i c:Nat} {Q:Option Value->Shared->Prop} (hit:gS s.heap it x t (i:Int)) (hx:x.cps[i]? =some c) (hz:x.length<=sizeLine)
  (hQ: ∀h' tk u,gS h' it x t ((i:Int) - 1)->Heap.SameBut it s.heap h'->Q (some (.str ⟨#[c]⟩ u)) { s with heap:=h',toks:=tk }):wpAny (model prog w) A (pyNext (.ref it)) Q E s:=by
 obtain ⟨o,ho,hc,hd⟩:=id hit
 have hn:=eT
 have hi:i<x.length:=(Array.getElem?_eq_some_iff.mp hx).1
 unfold pyNext
 refine wpAny_bind (wpAny_attempt (wpAny_callSpecial?_slot (name:=Str.ofString "__next__") hit.typeIs F2.cM
  (wpAny_call_entry F2.cM hit.typeIs F2.gR ?_ (F2.gC _))))
 unfold Builtin.«reversed.__next__»
 refine wpAny_bind (wpAny_of_eq (a:=(Value.ref it,[])) rfl ?_)
 try dsimp only
 refine wpAny_bind (wpAny_field ho hd (x:= .str x t) rfl ?_)
 refine wpAny_bind (wpAny_field ho hd (x:=rawInt (i:Int)) rfl ?_)
 show wpAny _ _ (if (i:Int)<0 then _ else _) _ _ s
 rw[if_neg (by omega)]
 refine wpAny_bind (wpAny_specialOf (typeIs_str s x t) F.slot_str_getitem.lookup ?_)
 show wpAny _ _ (if (some (Value.builtin _)).isNone=true then _ else _) _ _ s
 rw[if_neg (by decide)]
 refine wpAny_bind (wpAny_mkInt ?_)
 refine wpAny_bind (wpAny_attempt (getItem_str (c:=c) (by
  have e1:decide ((i:Int)< -(2 ^ 63:Int))=false:=decide_eq_false (by omega)
  have e2:decide ((i:Int) ≥ 2 ^ 63)=false:=decide_eq_false (by omega)
  rw[e1,e2,WU]) (by rw[seqIndex_of (by omega) (by omega),Pj];exact hx) ?_))
 show wpAny _ _ (field (Value.ref it) 1 >>= _) _ _ _
 refine wpAny_bind (wpAny_field ho hd (x:=rawInt (i:Int)) rfl ?_)
 show wpAny _ _ (setField (Value.ref it) 1 (rawInt ((i:Int) - 1)) >>= _) _ _ _
 refine wpAny_bind (wpAny_setField ho hd (by simp) ?_)
 refine wpAny_pure ⟨_,rfl,wpAny_pure (hQ _ _ _ ?_ (WL ..))⟩
 exact ⟨_,UN _ ho (Obj.isFreed_of_fields (Obj.data_mapFields hd _)),(Obj.cls_mapFields ..).trans hc,by
  rw[Obj.data_mapFields hd];simp⟩
theorem mK {it:Addr} {x:Str} {t:Tok} {Q:Option Value->Shared->Prop} (hh:A.handled=none) (hit:gS s.heap it x t (-1))
  (hQ: ∀h',Heap.ExtBut it s.heap h'->Q none { s with heap:=h' }):wpAny (model prog w) A (pyNext (.ref it)) Q E s:=by
 obtain ⟨o,ho,hc,hd⟩:=id hit
 unfold pyNext
 refine wpAny_bind (wpAny_attempt (wpAny_callSpecial?_slot (name:=Str.ofString "__next__") hit.typeIs F2.cM
  (wpAny_call_entry F2.cM hit.typeIs F2.gR ?_ (F2.gC _))))
 unfold Builtin.«reversed.__next__»
 refine wpAny_bind (wpAny_of_eq (a:=(Value.ref it,[])) rfl ?_)
 try dsimp only
 refine wpAny_bind (wpAny_field ho hd (x:= .str x t) rfl ?_)
 refine wpAny_bind (wpAny_field ho hd (x:=rawInt (-1)) rfl ?_)
 show wpAny _ _ (if (-1:Int)<0 then _ else _) _ _ s
 rw[if_pos (by decide)]
 refine wpAny_bind (wpAny_rule ?_)
 refine wpAny_bind ?_
 show wpAny _ _ (setField (Value.ref it) 1 (rawInt (-1)) >>= fun _=>setField (Value.ref it) 0 .none) _ _ _
 refine wpAny_bind (wpAny_setField ho hd (by simp) ?_)
 refine wpAny_setField (UN _ ho (Obj.isFreed_of_fields (Obj.data_mapFields hd _))) (Obj.data_mapFields hd _) (by simp) ?_
 first
 | show wpAny _ _ (newExc (.type "StopIteration") [] >>= _) _ _ _
 |(refine wpAny_bind ?_;show wpAny _ _ (newExc (.type "StopIteration") [] >>= _) _ _ _)
 refine wpAny_bind ?_
 simp only[newExc,newTuple]
 refine wpAny_bind (wpAny_newObj_type ?_ (by size_fits))
 refine wpAny_bind (m:=firstArgMember _ _) (wpAny_of_eq (a:=Value.none) (by first | rfl | (simp only[firstArgMember];rfl)) ?_)
 refine wpAny_newObj_type ?_ (by size_fits)
 simp only[raiseNew]
 refine wpAny_bind (wpAny_handled ?_)
 first | rw[show A.in1.handled=none from hh] | rw[hh]
 refine wpAny_bind (wpAny_pure (wpAny_throw ?_))
 refine wpAny_bind (wpAny_isInstance (T:="StopIteration") (b:=true) ⟨_,TX _ rfl,rfl⟩ isSubtype_stop ?_)
 refine wpAny_pure (hQ _ fun b ob hb e=>?_)
 refine Pd _ (Pd _ ?_)
 exact (Ur _ _ (Ne.symm hb)).trans ((Ur _ _ (Ne.symm hb)).trans e)
end
noncomputable def C0 (xs:List V):It:=⟨fun i _=>i<xs.length,fun i H x H'=>H'=H/\xs[i]? =some x,fun i _=>xs.length<=i⟩
theorem jv {l:List Nat} {i:Nat} {x:V} (h:(dz l)[i]? =some x): ∃c,l[i]? =some c/\x= .str (S [c]):=by
 unfold dz at h
 rw[TQ]at h
 cases e:l[i]? with
 | none=>rw[e]at h;cases h
 | some c=>rw[e]at h;cases h;exact ⟨c,rfl,rfl⟩
theorem bP (l:List Nat):(dz l).length=l.length:=by unfold dz;rw[HX]
theorem zW {P:Program} {w:World} {K:PySem.W.Frag} {tg:Expr} (it:Addr) (l:List Nat) (t:Tok):Turn P w K tg (C0 (dz l)) [it] it (fun i h=>h.IsStrIter it (strIterType (S l)) (S l) t i) where
 mem:=by simp
 obj:=fun i h st b hb=>by
  have e:b=it:=by simpa using hb
  subst e
  obtain ⟨o,e,c,d⟩:=st
  exact ⟨o,e,fun v z=>by rw[d]at z;cases z⟩
 keep:=fun i h h' st k=>let ⟨o,e,r⟩:=st;⟨o,k it (by simp) o e,r⟩
 item:=by
  intro X hP hw hK hc i pins s σ H E I hf st hg
  subst hP hw hK
  have C1:i<l.length:=by have:i<(dz l).length:=hg;rwa [bP]at this
  obtain ⟨f0,f1,f2,f3,f4,f5⟩:=hf it (by simp)
  have fin: ∀(v:Value) (h':Heap) (tk:Nat),SignAt (S l) i v->h'.IsStrIter it (strIterType (S l)) (S l) t (i+1)->(∀b o,b∉[it]->s.heap.get? b=some o->h'.get? b=some o)->
    ∃u,some v=some u/\wpAny (model X.prog X.w) X.A (letOwnedTupleGo tg (.ref it) u) (fun _ s2=> ∃x H',Inv X pins σ H' s2/\RelV x u/\(C0 (dz l)).zC i H x H'/\s2.heap.IsStrIter it (strIterType (S l)) (S l) t (i+1)/\ ∀b∈[it],H' b=none) E { s with heap:=h',toks:=tk }:=by
   intro v h' tk hv rL kk
   obtain ⟨c,u,e1,e2⟩:=hv
   subst e2
   have I1:Inv X pins σ H { s with heap:=h',toks:=tk }:=I.turned (fun b o hb e=>kk b o (by simpa using hb) e) f0 f1 f3 f4 f5
   obtain ⟨o,e,cc,d⟩:=id rL
   refine ⟨_,rfl,rX (s:={ s with heap:=h',toks:=tk }) e cc d (by unfold strIterType;split<;>decide) ⟨.str (S [c]),H,I1,⟨u,rfl⟩,⟨rfl,?_⟩,rL,fun b hb=>(hf b hb).1⟩⟩
   unfold dz
   rw[TQ]
   have zX:l[i]? =some c:=by simpa [S]using e1
   rw[zX]
   rfl
  have hsz:i<(S l).cps.size:=by rw[j_];exact C1
  by_cases ha:(S l).cps.all (· <128)=true
  ·have et:strIterType (S l)="str_ascii_iterator":=by unfold strIterType;rw[if_pos ha]
   rw[et]at st
   exact (Walks.strAscii (prog:=X.prog) (w:=X.w) (I.ok.hd hc) it (S l) t).item i s _ _ hsz st fun v h' tk hv rL kk=>fin v h' tk hv (by rw[et];exact rL) kk
  ·have et:strIterType (S l)="str_iterator":=by unfold strIterType;rw[if_neg ha]
   rw[et]at st
   exact (Walks.strWide (prog:=X.prog) (w:=X.w) (I.ok.hd hc) it (S l) t).item i s _ _ hsz st fun v h' tk hv rL kk=>fin v h' tk hv (by rw[et];exact rL) kk
 done:=by
  intro X hP hw hK hc i pins s σ H E I hf st hg
  subst hP hw hK
  obtain ⟨f0,f1,f2,f3,f4,f5⟩:=hf it (by simp)
  have C1:l.length<=i:=by have:(dz l).length<=i:=hg;rwa [bP]at this
  have hx:(S l).cps[i]? =none:=by rw[Array.getElem?_eq_none_iff,j_];exact C1
  by_cases ha:(S l).cps.all (· <128)=true
  ·have et:strIterType (S l)="str_ascii_iterator":=by unfold strIterType;rw[if_pos ha]
   rw[et]at st
   exact wpAny_pyNext_ascii_end (I.ok.hd hc) st hx fun h' eb=>⟨rfl,I.turned (t':=s.toks) (fun b o hb e=>eb b o hb e) f0 f1 f3 f4 f5⟩
  ·have et:strIterType (S l)="str_iterator":=by unfold strIterType;rw[if_neg ha]
   rw[et]at st
   exact wpAny_pyNext_wide_end (I.ok.hd hc) st hx fun h' eb=>⟨rfl,I.turned (t':=s.toks) (fun b o hb e=>eb b o hb e) f0 f1 f3 f4 f5⟩
 self:=fun _ _ s _ _ st h=>by
  by_cases ha:(S l).cps.all (· <128)=true
  ·have et:strIterType (S l)="str_ascii_iterator":=by unfold strIterType;rw[if_pos ha]
   rw[et]at st
   exact wpAny_pyIter_striter_ascii st h
  ·have et:strIterType (S l)="str_iterator":=by unfold strIterType;rw[if_neg ha]
   rw[et]at st
   exact wpAny_pyIter_striter_wide st h
theorem zY {P:Program} {w:World} {K:PySem.W.Frag} {tg:Expr} (it:Addr) (l:List Nat) (t:Tok) (hz:l.length<=sizeLine):Turn P w K tg (C0 (dz l).reverse) [it] it (fun i h=>i<=l.length/\gS h it (S l) t ((l.length:Int) - 1 - (i:Int))) where
 mem:=by simp
 obj:=fun i h st b hb=>by
  have e:b=it:=by simpa using hb
  subst e
  obtain ⟨_,o,e,c,d⟩:=st
  exact ⟨o,e,fun v z=>by rw[d]at z;cases z⟩
 keep:=fun i h h' st k=>let ⟨q,o,e,r⟩:=st;⟨q,o,k it (by simp) o e,r⟩
 item:=by
  intro X hP hw hK hc i pins s σ H E I hf st hg
  subst hP hw hK
  have C1:i<l.length:=by have:i<(dz l).reverse.length:=hg;rwa [Ul,bP]at this
  obtain ⟨f0,f1,f2,f3,f4,f5⟩:=hf it (by simp)
  obtain ⟨_,st⟩:=st
  have e:(l.length:Int) - 1 - (i:Int)=((l.length - 1 - i:Nat):Int):=by omega
  rw[e]at st
  have dc:l.length - 1 - i<l.length:=by omega
  refine lj (c:=l[l.length - 1 - i]) st (by simp[S,dc]) (by rw[cI];exact hz) fun h' tk u rL sb=>?_
  have I1:Inv X pins σ H { s with heap:=h',toks:=tk }:=I.turned (fun b o hb e=>(sb.2 b hb).trans e) f0 f1 f3 f4 f5
  obtain ⟨o,e1,cc,d⟩:=id rL
  refine ⟨_,rfl,rX (s:={ s with heap:=h',toks:=tk }) e1 cc d (by decide) ⟨.str (S [l[l.length - 1 - i]]),H,I1,⟨u,rfl⟩,⟨rfl,?_⟩,⟨C1,?_⟩,fun b hb=>(hf b hb).1⟩⟩
  ·rw[VB (by rw[bP];exact C1),bP]
   unfold dz
   rw[TQ,FW dc]
   rfl
  ·have e2:(l.length:Int) - 1 - ((i+1:Nat):Int)=((l.length - 1 - i:Nat):Int) - 1:=by omega
   rw[e2]
   exact rL
 done:=by
  intro X hP hw hK hc i pins s σ H E I hf st hg
  subst hP hw hK
  obtain ⟨f0,f1,f2,f3,f4,f5⟩:=hf it (by simp)
  have C1:l.length<=i:=by have:(dz l).reverse.length<=i:=hg;rwa [Ul,bP]at this
  obtain ⟨hi,st⟩:=st
  have e:(l.length:Int) - 1 - (i:Int)= -1:=by omega
  rw[e]at st
  exact mK (I.ok.hd hc) st fun h' eb=>⟨rfl,I.turned (t':=s.toks) (fun b o hb e=>eb b o hb e) f0 f1 f3 f4 f5⟩
 self:=fun _ _ _ _ _ st h=>mJ st.2 h
section
variable {X:Cx} {tg:Expr}
def NT (tl:TE):TI:=fun σ H R=>tl σ H fun x H1=> ∃l,x= .str (S l)/\R (C0 (dz l)) H1
theorem ql {l:Expr} {tl:TE} (hl:PE X l tl):PI X tg l (NT tl):=by
 intro pins s σ H R I h
 refine bV (hl pins s σ H _ I h) fun v s1 ⟨x,H1,I1,r1,q1⟩=>?_
 obtain ⟨l,rfl,q⟩:=q1
 obtain ⟨t,rfl⟩:=r1
 refine wpAny_pyIter_strU ?_
 refine ⟨s1.heap.objs.size,[s1.heap.objs.size],_,_,H1,rfl,I1.kept (t':=s1.toks) fun b o e=>Pd _ e,zW _ l t,⟨_,TX _ rfl,rfl,rfl⟩,fun b hb=>?_,q⟩
 have e:b=s1.heap.objs.size:=by simpa using hb
 subst e
 exact I1.nV (Mj _) (I1.bR.fresh (Mj _))
def NU (ta:TA):TI:=fun σ H R=>ta σ H fun vs H1=> ∃l,vs=[.str (S l)]/\l.length<=sizeLine/\R (C0 (dz l).reverse) H1
theorem Gh {a:Expr} {ta:TA} {p pos:Pos} (hg:Gl X "reversed") (hm:X.mg "reversed"=none) (ha:PA X [a] ta) (hs:starEach [a] X.env=[(false,eval a X.env)]:=by rfl):PI X tg (.Call (.Name "reversed" p) [a] [] pos) (NU ta):=by
 intro pins s σ H R I h
 refine Call_ (gh I hg hm boot_reversed (UB (bV (ha pos pins s σ H _ I h) fun us s1 ⟨vs,H1,I1,r1,q1⟩=>?_) hs rfl))
 obtain ⟨l,rfl,hz,q⟩:=q1
 obtain ⟨u,rfl,t,rfl⟩:=vals1 r1
 refine mI (by rw[cI];exact hz) fun tk=>?_
 have hit:gS (s1.heap.push { cls:= .type "reversed",data:= .fields #[.str (S l) t,rawInt (((S l).length:Int) - 1)] }) s1.heap.objs.size (S l) t (((S l).length:Int) - 1):=⟨_,TX _ rfl,rfl,rfl⟩
 refine mJ hit ?_
 refine ⟨s1.heap.objs.size,[s1.heap.objs.size],_,_,H1,rfl,I1.kept (t':=tk) fun b o e=>Pd _ e,zY _ l t hz,⟨Ti _,?_⟩,fun b hb=>?_,q⟩
 ·have e:(l.length:Int) - 1 - ((0:Nat):Int)=((S l).length:Int) - 1:=by rw[cI];simp
  rw[e]
  exact hit
 ·have e:b=s1.heap.objs.size:=by simpa using hb
  subst e
  exact I1.nV (Mj _) (I1.bR.fresh (Mj _))
end
theorem wK {xs:List V} {g:TG} {tb:TS} {D:Ends} {σ:St} {H:Hp} (Pv:Nat->St->Hp->Prop) (h0:Pv 0 σ H)
  (hs: ∀i x σ H,xs[i]? =some x->Pv i σ H->g x σ H fun σ2 H2=>tb { D with nx:=Pv (i+1),ct:=Pv (i+1),bk:=D.nx } σ2 H2) (hd: ∀σ H,Pv xs.length σ H->D.nx σ H):
  ∃W:Nat->Nat->St->Hp->Prop,(∃m,W 0 m σ H)/\ ∀i m σ H,W i m σ H->
   ((C0 xs).stop i H/\D.nx σ H)\/((C0 xs).go i H/\ ∃N:St->Hp->Prop,(∀σ' H',N σ' H'-> ∃m',m'<m/\W (i+1) m' σ' H')/\ ∀x H',(C0 xs).zC i H x H'->g x σ H' fun σ2 H2=>tb { D with nx:=N,ct:=N,bk:=D.nx } σ2 H2):=by
 refine ⟨fun i m σ H=>m=xs.length - i/\i<=xs.length/\Pv i σ H,⟨xs.length,by simp,Ti _,h0⟩,?_⟩
 rintro i m σ H ⟨rfl,hi,p⟩
 by_cases dc:i<xs.length
 ·refine .inr ⟨dc,Pv (i+1),fun σ' H' p'=>⟨xs.length - (i+1),by omega,rfl,dc,p'⟩,fun x H' y=>?_⟩
  obtain ⟨e,y⟩:=y
  subst e
  exact hs i x σ _ y p
 ·have e:i=xs.length:=by omega
  subst e
  exact .inl ⟨Mj _,hd σ H p⟩
theorem lO {J:It} {n:Nat} {xs:Nat->V->Prop} {σc:St} {g:TG} {tc:TT} {te:TE} {Q:VK} {H1:Hp} (Pv:Nat->List V->Hp->Prop) (hn:n<sizeLine) (QZ: ∀i acc H,i<n->Pv i acc H->J.go i H) (KI: ∀acc H,Pv n acc H->J.stop n H)
  (hy: ∀i acc H x H',i<n->Pv i acc H->J.zC i H x H'->H'=H/\xs i x) (h0:Pv 0 [] H1)
  (hs: ∀(i:Nat) (x:V) (acc:List V) (H:Hp) (Nx:List V->Hp->Prop),i<n->xs i x->acc.length<=i->Pv i acc H->(∀dD H',dD.length<=i+1->Pv (i+1) dD H'->Nx dD H')->
   g x σc H fun σ2 H2=>Wk σc σ2/\tc σ2 H2 fun b H3=>if b=true then te σ2 H3 fun v H4=>Nx (acc++[v]) H4 else Nx acc H3)
  (hd: ∀acc H D,acc.length<=n->Pv n acc H->H D=none->Q (.ref D) (upd H D (.lst acc))):oS J σc g tc te Q H1:=by
 refine ⟨fun i m acc H=>m=n - i/\i<=n/\acc.length<=i/\Pv i acc H,⟨n,by simp,Ti _,Mj _,h0⟩,?_⟩
 rintro i m acc H ⟨rfl,hi,hl,p⟩
 refine ⟨by omega,?_⟩
 by_cases dc:i<n
 ·refine .inr ⟨QZ i acc H dc p,fun x H' y=>?_⟩
  obtain ⟨rfl,y2⟩:=hy i acc H x H' dc p y
  exact hs i x acc _ (fun dD H'=> ∃m',m'<n - i/\(m'=n - (i+1)/\i+1<=n/\dD.length<=i+1/\Pv (i+1) dD H')) dc y2 hl p fun dD H' h1 h2=>⟨n - (i+1),by omega,rfl,dc,h1,h2⟩
 ·have e:i=n:=by omega
  subst e
  exact .inl ⟨KI acc H p,fun D hD=>hd acc H D hl p hD⟩
theorem mL {xs:List V} {σc:St} {g:TG} {tc:TT} {te:TE} {Q:VK} {H1:Hp} (Pv:Nat->List V->Hp->Prop) (hn:xs.length<sizeLine) (h0:Pv 0 [] H1)
  (hs: ∀(i:Nat) (x:V) (acc:List V) (H:Hp) (Nx:List V->Hp->Prop),i<xs.length->xs[i]? =some x->acc.length<=i->Pv i acc H->(∀dD H',dD.length<=i+1->Pv (i+1) dD H'->Nx dD H')->
   g x σc H fun σ2 H2=>Wk σc σ2/\tc σ2 H2 fun b H3=>if b=true then te σ2 H3 fun v H4=>Nx (acc++[v]) H4 else Nx acc H3)
  (hd: ∀acc H D,acc.length<=xs.length->Pv xs.length acc H->H D=none->Q (.ref D) (upd H D (.lst acc))):oS (C0 xs) σc g tc te Q H1:=
 lO (xs:=fun i x=>xs[i]? =some x) Pv hn (fun i _ _ h _=>h) (fun _ _ _=>Mj _) (fun i _ H x H' _ _ y=>y) h0 hs hd
theorem zZ {lo:Int} {n:Nat} {σc:St} {g:TG} {tc:TT} {te:TE} {Q:VK} {H1:Hp} (Pv:Nat->List V->Hp->Prop) (hn:n<sizeLine) (h0:Pv 0 [] H1)
  (hs: ∀(i:Nat) (acc:List V) (H:Hp) (Nx:List V->Hp->Prop),i<n->acc.length<=i->Pv i acc H->(∀dD H',dD.length<=i+1->Pv (i+1) dD H'->Nx dD H')->
   g (.int (lo+i)) σc H fun σ2 H2=>Wk σc σ2/\tc σ2 H2 fun b H3=>if b=true then te σ2 H3 fun v H4=>Nx (acc++[v]) H4 else Nx acc H3)
  (hd: ∀acc H D,acc.length<=n->Pv n acc H->H D=none->Q (.ref D) (upd H D (.lst acc))):oS (Ez lo n) σc g tc te Q H1:=
 lO (xs:=fun i x=>x= .int (lo+i)) Pv hn (fun i _ _ h _=>h) (fun _ _ _=>Mj _) (fun i _ H x H' _ _ y=>y) h0 (fun i x acc H Nx h1 h2=>by subst h2;exact hs i acc H Nx h1) hd
theorem yn {K:PySem.W.Frag} {a:Addr} {xs:List V} {σc:St} {g:TG} {tc:TT} {te:TE} {Q:VK} {H1:Hp} (Pv:Nat->List V->Hp->Prop) (hn:xs.length<sizeLine) (hl: ∀i acc H,Pv i acc H->bK K H a xs) (h0:Pv 0 [] H1)
  (hs: ∀(i:Nat) (x:V) (acc:List V) (H:Hp) (Nx:List V->Hp->Prop),i<xs.length->xs[i]? =some x->acc.length<=i->Pv i acc H->(∀dD H',dD.length<=i+1->Pv (i+1) dD H'->Nx dD H')->
   g x σc H fun σ2 H2=>Wk σc σ2/\tc σ2 H2 fun b H3=>if b=true then te σ2 H3 fun v H4=>Nx (acc++[v]) H4 else Nx acc H3)
  (hd: ∀acc H D,acc.length<=xs.length->Pv xs.length acc H->H D=none->Q (.ref D) (upd H D (.lst acc))):oS (HV K a) σc g tc te Q H1:=
 lO (xs:=fun i x=>xs[i]? =some x) Pv hn (fun i acc H h p=>⟨xs,xs[i],hl i acc H p,by simp[h]⟩) (fun acc H p=>⟨xs,hl _ acc H p,Mj _⟩) (fun i acc H x H' h p y=>⟨y.1,y.2 xs (hl i acc H p)⟩) h0 hs hd
def C2 (c:TT) (tb:TS):TS:=fun D σ H=> ∃W:Nat->St->Hp->Prop,(∃m,W m σ H)/\ ∀m σ H,W m σ H->
 c σ H fun b H1=>if b=true then tb { D with nx:=fun σ' H'=> ∃m',m'<m/\W m' σ' H',ct:=fun σ' H'=> ∃m',m'<m/\W m' σ' H',bk:=D.nx } σ H1 else D.nx σ H1
theorem eS {X:Cx} {c:Expr} {body:List Stmt} {tc:TT} {tb:TS} {pos:Pos} (hp:PassesOwn (model X.prog X.w) X.A X.env X.xe) (hc:PT X c tc) (hb:uu X body tb):PS X (.While c body [] pos) (C2 tc tb):=by
 intro pins s σ H D I h
 obtain ⟨W,⟨m0,w0⟩,turn⟩:=h
 refine wpAny_While (codeAny_whileLoop (fun n s'=> ∃σ' H',Inv X pins σ' H' s'/\W n σ' H') ?_ m0 ⟨σ,H,I,w0⟩)
 rintro n s1 ⟨σ1,H1,I1,w1⟩
 refine wpAny_passesOwn hp (bV (hc pins s1 σ1 H1 _ I1 (turn n σ1 H1 w1)) fun b s2 ⟨H2,I2,q2⟩=>?_)
 cases b with
 | true=>
  rw[if_pos rfl]at q2 ⊢
  refine wpAny_passesOwn hp (bV (hb pins s2 σ1 H2 _ I2 q2) fun f s3 q3=>?_)
  cases f with
  | next=>
   obtain ⟨σ3,H3,I3,m',hm,w3⟩:=q3
   exact ⟨m',hm,σ3,H3,I3,w3⟩
  | cont=>
   obtain ⟨σ3,H3,I3,m',hm,w3⟩:=q3
   exact ⟨m',hm,σ3,H3,I3,w3⟩
  | brk=>exact q3
  | ret v=>exact q3
 | false=>
  rw[if_neg T7]at q2 ⊢
  exact wpAny_execs_nil ⟨σ1,H2,I2,q2⟩
noncomputable def uX (X:Cx) (scope:Scope):Bool:=(scope.names.all fun y=>y.2 != .cell)&&(scope.kind== .function)&&(scope.names.all fun y=>y.2 != .free||X.env.kindOf y.1==some .cell||X.env.kindOf y.1==some .free)&&(scope.names.all fun y=>y.2 != .local||scope.names.lookup y.1==some .local)
theorem qm {X:Cx} {scope:Scope} (h:uX X scope=true):(∀y∈scope.names,y.2≠ .cell)/\scope.kind= .function/\(∀y∈scope.names,y.2= .free->X.env.kindOf y.1=some .cell\/X.env.kindOf y.1=some .free)/\(∀x∈scope.names,x.2= .local->scope.names.lookup x.1=some .local):=by
 unfold uX at h
 simp only[UJ]at h
 obtain ⟨⟨⟨h1,h2⟩,h3⟩,h4⟩:=h
 refine ⟨fun y hy e=>?_,by simpa using h2,fun y hy e=>?_,fun y hy e=>?_⟩
 ·have:=VE.mp h1 y hy
  rw[e]at this;simp at this
 ·have:=VE.mp h3 y hy
  rw[e]at this
  simpa using this
 ·have:=VE.mp h4 y hy
  rw[e]at this
  simpa using this
theorem eV {X:Cx} {tg iter elt:Expr} {ifs:List Expr} {scope:Scope} {pos:Pos} {wi:TI} {g:TG} {tc:TT} {te:TE} (Nc:List Str) (ix:List (Option Nat)) (hi:PI X tg iter wi) (zQ:js X scope Nc ix)
  (hG: ∀C s H fp,PG (b6 X scope C Nc s H fp) tg g) (hT: ∀C s H fp,PF (b6 X scope C Nc s H fp) ifs tc) (hE: ∀C s H fp,PE (b6 X scope C Nc s H fp) elt te) (bR:uX X scope=true:=by rfl) (oT:X.calm=true:=by rfl)
  (hs: ∀x,foldedSetIterable iter X.env x=pure x:=by intro _;rfl):PE X (.ListComp elt [⟨tg,iter,ifs,0⟩] scope pos) (zR wi ix g tc te):=
 let ⟨h1,h2,h3,h4⟩:=qm bR
 CU Nc ix hi oT zQ h1 h2 h3 h4 hG hT hE hs
section
variable {X:Cx}
def NV:R2:=fun x y H Q=> ∃a b,x= .str (S a)/\y= .str (S b)/\Q (.bl (decide (a=b))) H
theorem kc:jn X (compareOp .Eq) NV:=by
 intro pins s σ H x y v u Q I rx ry h
 obtain ⟨a,b,rfl,rfl,q⟩:=h
 exact EB pins s σ H _ _ v u Q I rx ry ⟨rfl,by rw[KC];exact q⟩
theorem EI {i j:Int}:decide (V.int i=V.int j)=decide (i=j):=by
 by_cases h:i=j
 ·subst h;simp
 ·rw[decide_eq_false h,decide_eq_false]
  intro q
  exact h (V.int.inj q)
theorem z5:jn X (compareOp .Eq) (Ck fun i j=> .bl (decide (i=j))):=by
 intro pins s σ H x y v u Q I rx ry h
 obtain ⟨a,b,rfl,rfl,q⟩:=h
 exact EB pins s σ H _ _ v u Q I rx ry ⟨rfl,by rw[EI];exact q⟩
theorem uY:jn X (compareOp .NotEq) (Ck fun i j=> .bl (!decide (i=j))):=by
 intro pins s σ H x y v u Q I rx ry h
 obtain ⟨a,b,rfl,rfl,q⟩:=h
 exact J4 pins s σ H _ _ v u Q I rx ry ⟨rfl,by rw[EI];exact q⟩
def NW (f:List Nat->List Nat->Bool):R2:=fun x y H Q=> ∃a b,x= .str (S a)/\y= .str (S b)/\Q (.bl (f a b)) H
theorem qp:jn X (compareOp .Lt) (NW fun a b=>decide (a<b)):=by
 intro pins s σ H x y v u Q I rx ry h
 obtain ⟨a,b,rfl,rfl,q⟩:=h
 exact x4 pins s σ H _ _ v u Q I rx ry ⟨S a,S b,rfl,rfl,by rw[eU,eU];exact q⟩
end
section
variable {X:Cx} {tg:Expr}
theorem bf (K:PySem.W.Frag) (h:X.K=K):FI X (FJ K):=by subst h;exact CM
theorem aU (K:PySem.W.Frag) (h:X.K=K):FI X (Kj K):=by subst h;exact FK
def KJ (K:PySem.W.Frag):List V->Hp->VK->Prop:=fun xs H Q=> ∃p ys,xs=[.ref p]/\(bK K H p ys\/cy K H p ys)/\Q (.int ys.length) H
theorem bS (K:PySem.W.Frag) (h:X.K=K):de X (.builtin "len") (KJ K):=by subst h;exact qe
theorem jw (K:PySem.W.Frag) (h:X.K=K):yh X "str.join" (zU K):=by subst h;exact zV
def C3 (K:PySem.W.Frag):List V->Hp->VK->Prop:=fun xs H Q=> ∃p ys,xs=[.ref p]/\(bK K H p ys\/cy K H p ys)/\ ∀l,H l=none->Q (.ref l) (upd H l (.lst ys))
theorem n_ (K:PySem.W.Frag) (h:X.K=K):de X (.type "list") (C3 K):=by subst h;exact qg
theorem mM (K:PySem.W.Frag) (h:X.K=K):Mg X (Kl K):=by subst h;exact CN
theorem gT (K:PySem.W.Frag) (h:X.K=K) {l:Expr} {tl:TE} (hl:PE X l tl):PI X tg l (EA K tl):=by subst h;exact CF hl
theorem wL (K:PySem.W.Frag) (h:X.K=K) {l:Expr} {tl:TE} (hl:PE X l tl):PI X tg l (JW K tl):=by subst h;exact Fx hl
end
section
variable {X:Cx} {o e:Expr} {es:List Expr} {to:TE} {t:TA} {name:Str} {apos gJ:Pos} {T id:String} {r:V->List V->Hp->VK->Prop}
theorem dN (K:PySem.W.Frag) (hK:X.K=K) (pa:PlainAttrs T) (slot:Slot T name id) (FP:typeOf (.builtin id)=pure (.type "method_descriptor")) (hm:yh X id r) (ho:PE X o to)
  (mr:attributeBase o name X.env (eval o X.env)=eval o X.env:=by rfl) (kP:(apos.endLine==gJ.line)=true:=by rfl):PE X (.Call (.Attribute o name apos) [] [] gJ) (Km K T r to):=by
 subst hK
 exact FO pa slot FP hm ho mr kP
theorem cq (K:PySem.W.Frag) (hK:X.K=K) (pa:PlainAttrs T) (slot:Slot T name id) (FP:typeOf (.builtin id)=pure (.type "method_descriptor")) (hm:yh X id r) (ho:PE X o to) (ha:PA X (e::es) t)
  (mr:attributeBase o name X.env (eval o X.env)=eval o X.env:=by rfl)
  (FQ:((backTo gJ (starEach (e::es) X.env)).all (fun x=>!x.1)&&(backToKw gJ (keywordEach [] X.env)).all (fun x=>x.1.isSome)
   &&decide ((e::es).length+([]:List Keyword).length+(if ([]:List Keyword).isEmpty then 0 else 1)<30))=true:=by rfl)
  (kP:(apos.endLine==gJ.line)=true:=by rfl) (hs:starEach (e::es) X.env=(false,eval e X.env)::starEach es X.env:=by rfl) (uK:(backTo gJ (starEach es X.env)).any (·.1)=false:=by rfl):
  PE X (.Call (.Attribute o name apos) (e::es) [] gJ) (O_ K T r to t):=by
 subst hK
 exact Kn pa slot FP hm ho ha mr FQ kP hs uK
end
section
variable {X:Cx} {pins:List (Addr×Obj)} {σ:St} {H:Hp} {s:Shared}
end
section
variable {X:Cx}
def KL (K:PySem.W.Frag) (ta:TE):TT:=fun σ H Q=>ta σ H fun x H'=> ∃p xs,x= .ref p/\bK K H' p xs/\Q (!xs.isEmpty) H'
theorem C5 {a:Expr} {ta:TE} (K:PySem.W.Frag) (h:X.K=K) (ha:PE X a ta) (he: ∀whole,isTrue a X.env whole=(do let v <-whole;standAt a.pos;holding [v] (truthy v)):=by intro _;rfl):PT X a (KL K ta):=by
 subst h
 intro pins s σ H Q I hw
 refine isTrue_plain (bV (ha pins s σ H _ I hw) fun v s1 ⟨x,H1,I1,r1,q1⟩=>?_) (he _)
 obtain ⟨p,xs,rfl,hq,q⟩:=q1
 exact FD pins s1 σ H1 _ v Q I1 r1 ⟨_, .inl ⟨xs,hq,rfl⟩,q⟩
theorem jx (K:PySem.W.Frag) (h:X.K=K) {es:List Expr} {k:Nat} {t:Ey} {n:Nat} {pos:Pos} (hc:X.calm=true) (hs:JQ X es t)
  (hn:(assignEach es X.env).length=n:=by rfl) (kN:(assignEach es X.env).findIdx? (·.1)=none:=by rfl):PG X (.Tuple es k pos) (JU K n t):=by
 subst h
 exact Fu hc hs hn kN
end
noncomputable def cu (a b:List Nat):List Nat:=if b<a then b else a
noncomputable def bQ:List Nat->List (List Nat)->List Nat
 | a,[]=>a
 | a,b::r=>bQ (cu a b) r
theorem argBest_lt (bt:Nat->Nat->Bool): ∀n,argBest bt n<=n
 | 0=>Mj _
 | n+1=>by
  unfold argBest
  split
  ·exact Mj _
  ·exact Nat.le_succ_of_le (argBest_lt bt n)
section
variable {X:Cx}
end
section
variable {X:Cx}
end
noncomputable def dm (n:Nat) (l:List Nat):List Nat:=(List.replicate n l).flatten
theorem dE (n:Nat) (l:List Nat):dm (n+1) l=l++dm n l:=by unfold dm;rw[List.replicate_succ,Vt]
theorem uZ (n:Nat) (l:List Nat):dm (n+1) l=dm n l++l:=by unfold dm;rw[List.replicate_succ',List.flatten_append,Vt,List.flatten_nil,UH]
theorem so (n:Nat) (l:List Nat):(dm n l).length=n*l.length:=by
 induction n with
 | zero=>simp[dm]
 | succ n ih=>rw[dE,Tn,ih,V8,Nat.add_comm]
theorem oX (l:List Nat): ∀(n:Nat) (acc:Array Nat),((List.replicate n (S l).cps).foldl (· ++ ·) acc).toList=acc.toList++dm n l
 | 0,acc=>by simp[dm]
 | n+1,acc=>by
  rw[List.replicate_succ,VM,oX l n,dE]
  simp[S]
def KN:R2:=fun x y H Q=> ∃(l:List Nat) (i:Int),x= .str (S l)/\y= .int i/\(0<=i/\i<=1000000)/\l.length*i.toNat<=sizeLine/\Q (.str (S (dm i.toNat l))) H
theorem qq {X:Cx}:jn X (binaryOp .Mult) KN:=by
 intro pins s σ H x y v u Q I rx ry h
 obtain ⟨l,i,rfl,rfl,⟨h0,h1⟩,hz,q⟩:=h
 obtain ⟨t,rfl⟩:=rx
 obtain ⟨t',rfl⟩:=ry
 have hn:=eT
 have NX:(S l).length=l.length:=cI l
 have NY:(l.length:Int)*i<=2 ^ 63 - 1:=by
  have e:((l.length*i.toNat:Nat):Int)=(l.length:Int)*i:=by rw[Int.natCast_mul,Int.toNat_of_nonneg h0]
  have:((l.length*i.toNat:Nat):Int)<=(sizeLine:Int):=by exact_mod_cast hz
  rw[<-e];omega
 refine P.mul_str (x:=S l) (n:=i) (t:=t) (u:=t') (by
  have e1:decide (i< -(2 ^ 63:Int))=false:=decide_eq_false (by omega)
  have e2:decide (i ≥ 2 ^ 63)=false:=decide_eq_false (by omega)
  rw[e1,e2];rfl) (fun z _=>?_) (fun z _=>?_) ?_
 ·rw[NX]
  have:(l.length:Int)<=(2 ^ 63 - 1) / i:=(Int.le_ediv_iff_mul_le (by omega)).mpr NY
  omega
 ·rw[NX]
  show Builtin.Str.tooLong _=false
  unfold Builtin.Str.tooLong
  exact decide_eq_false (by omega)
 ·by_cases z:i<1
  ·rw[if_pos z]
   have e:i.toNat=0:=by omega
   rw[e]at q
   exact ⟨by decide, .str _,H,I.tok _,⟨_,rfl⟩,q⟩
  ·rw[if_neg z]
   by_cases z2:(i==1||(S l).length==0)=true
   ·rw[if_pos z2]
    have e:dm i.toNat l=l:=by
     rcases Bool.or_eq_true _ _ |>.mp z2 with e | e
     ·have e:i=1:=by simpa using e
      subst e
      show dm 1 l=l
      rw[dE];simp[dm]
     ·have e:l.length=0:=by rw[NX]at e;simpa using e
      have e:l=[]:=UD.mp e
      subst e
      unfold dm
      simp
    rw[e]at q
    exact ⟨.str _,H,I,⟨_,rfl⟩,q⟩
   ·rw[if_neg z2]
    have e:(⟨(List.replicate i.toNat (S l).cps).foldl (· ++ ·) #[]⟩:Str)=S (dm i.toNat l):=by
     have:=oX l i.toNat #[]
     show _=(⟨(dm i.toNat l).toArray⟩:Str)
     congr 1
     apply V2.mp
     rw[this]
     simp
    rw[e]
    refine ⟨?_, .str _,H,I.tok _,⟨_,rfl⟩,q⟩
    rw[cI,so,U3]
    exact hz
section
variable {X:Cx}
end
section
variable {X:Cx} {pins:List (Addr×Obj)} {σ:St} {H:Hp} {s:Shared} {h':Heap}
theorem Inv.mN {t':Nat} {ch:List Addr} {T:Addr} {ob:HO} (I:Inv X pins σ H s) (k: ∀b o,b∉ch->s.heap.get? b=some o->h'.get? b=some o) (hf: ∀b∈ch,kZ X pins H b)
  (hT:s.heap.objs.size<=T) (new:cw X.prog X.w (upd H T ob) h' T ob):Inv X pins σ (upd H T ob) { s with heap:=h',toks:=t' }:=by
 have hn:=I.bR.fresh hT
 have Ew: ∀b u,H b=some u->b∉ch:=fun b u e z=>by rw[(hf b z).1]at e;cases e
 have neT: ∀b o,s.heap.get? b=some o->b≠T:=fun b o e z=>absurd (T1 (To e) hT) (by rw[z];exact Ut _)
 refine I.step (g':=s.gens) (d':=s.drawn) (ch:=ch) (fun b hb=>?_) (fun b o _ _ hc e _=>k b o hc e) (fun b o _ _ hc e _=>⟨o.slots,k b o hc e⟩) (fun b o _ e n=>by rw[az (neT b o e)];exact n)
  (fun b o hc e=>⟨o,k b o hc e⟩) (fun b xs e=>by rw[az (aq e hn)];exact e) (fun b o u e=>by rw[az (aq e hn)];exact e) (fun b ps e=>⟨#[],by rw[az (aq e hn),e];simp⟩) (fun m hm=>?_) (fun b u e=>?_) I.bare
 ·obtain ⟨_,h2,_,h4,h5,h6⟩:=hf b hb
  exact ⟨h4,h2,h5,h6⟩
 ·obtain ⟨o,es,ep,ho,r⟩:=hm
  exact ⟨o,es,ep,k _ o (fun z=>(hf _ z).2.1 rfl) ho,r⟩
 ·by_cases hb:b=T
  ·subst hb;rw[ah]at e;cases e;exact new
  ·rw[az hb]at e
   refine (I.bR b u e).rT (fun c v hc q=>k c v ?_ q) (fun c q=>by rw[az (aq q hn)];exact q) fun c xs q=>by rw[az (aq q hn)];exact q
   rcases hc with z | z
   ·rw[z];exact Ew b u e
   ·exact Ew c _ z
theorem Inv.qr {t':Nat} {ch:List Addr} (I:Inv X pins σ H s) (k: ∀b o,b∉ch->s.heap.get? b=some o->h'.get? b=some o) (hf: ∀b∈ch,kZ X pins H b):Inv X pins σ H { s with heap:=h',toks:=t' }:=by
 have Ew: ∀b u,H b=some u->b∉ch:=fun b u e z=>by rw[(hf b z).1]at e;cases e
 refine I.step (g':=s.gens) (d':=s.drawn) (ch:=ch) (fun b hb=>?_) (fun b o _ _ hc e _=>k b o hc e) (fun b o _ _ hc e _=>⟨o.slots,k b o hc e⟩) (fun b o _ e n=>n)
  (fun b o hc e=>⟨o,k b o hc e⟩) (fun b xs e=>e) (fun b o u e=>e) (fun b ps e=>⟨#[],by rw[e];simp⟩) (fun m hm=>?_) (fun b u e=>?_) I.bare
 ·obtain ⟨_,h2,_,h4,h5,h6⟩:=hf b hb
  exact ⟨h4,h2,h5,h6⟩
 ·obtain ⟨o,es,ep,ho,r⟩:=hm
  exact ⟨o,es,ep,k _ o (fun z=>(hf _ z).2.1 rfl) ho,r⟩
 ·refine (I.bR b u e).rT (fun c v hc q=>k c v ?_ q) (fun c q=>q) fun c xs q=>q
  rcases hc with z | z
  ·rw[z];exact Ew b u e
  ·exact Ew c _ z
end
noncomputable def KO (l:List Nat):It:=⟨fun i _=>i<l.length,fun i H x H'=> ∃T c,l[i]? =some c/\x= .ref T/\H T=none/\H'=upd H T (.tup [.int i, .str (S [c])]),fun i _=>l.length<=i⟩
theorem oY {prog:Program} {w:World} {A:Around} (hh:A.handled=none) (it:Addr) (x:Str) (t:Tok):
  Draws prog w A it [it] x.cps.size (fun i v=> ∃c u,x.cps[i]? =some c/\v= .str ⟨#[c]⟩ u) (fun i h=>h.IsStrIter it (strIterType x) x t i):=by
 by_cases ha:x.cps.all (· <128)=true
 ·have et:strIterType x="str_ascii_iterator":=by unfold strIterType;rw[if_pos ha]
  rw[et];exact Draws.strAscii hh it x t
 ·have et:strIterType x="str_iterator":=by unfold strIterType;rw[if_neg ha]
  rw[et];exact Draws.strWide hh it x t
theorem u5 {P:Program} {w:World} {K:PySem.W.Frag} {elts:List Expr} {k:Nat} {pos:Pos} (e it:Addr) (wM:e≠it) (l:List Nat) (t:Tok):
  Turn P w K (.Tuple elts k pos) (KO l) [e,it] e (fun i h=>i<=l.length/\(∃old,IsEnum h e it i old)/\h.IsStrIter it (strIterType (S l)) (S l) t i) where
 mem:=by simp
 obj:=fun i h st b hb=>by
  obtain ⟨_,⟨old,he⟩,o,ho,hc,hd⟩:=st
  rcases QS.mp hb with z | z
  ·rw[z];exact ⟨_,he,fun v z=>by cases z⟩
  ·rw[QU.mp z];exact ⟨o,ho,fun v z=>by rw[hd]at z;cases z⟩
 keep:=fun i h h' st kp=>by
  obtain ⟨h1,⟨old,he⟩,o,ho,r⟩:=st
  exact ⟨h1,⟨old,kp e (by simp) _ he⟩,o,kp it (by simp) o ho,r⟩
 item:=by
  intro X hP hw hK hc i pins s σ H E I hf st hg
  subst hP hw hK
  obtain ⟨_,uh,ug⟩:=st
  have D:=oY (prog:=X.prog) (w:=X.w) (A:=X.A.in1) (I.ok.hd hc) it (S l) t
  have W:=WalksT.enumerateD D e wM (by simpa using wM) (by simp)
  have hi:i<(S l).cps.size:=by rw[j_];exact hg
  refine W.item i s _ _ hi ⟨uh,ug⟩ fun T vals h' tk KP hT z6 sr hk=>⟨_,rfl,?_⟩
  refine W.go elts k pos i T { s with heap:=h',toks:=tk } _ _ sr fun h2 sx zm=>?_
  obtain ⟨tt,x,⟨c,u,NZ,rfl⟩,rfl⟩:=KP
  have EJ:T∉[e,it]:=W.apart i T h' sr
  have sC:h2.IsTuple T #[.int i tt, .str ⟨#[c]⟩ u]:=by
   obtain ⟨o,ho,r⟩:=z6
   exact ⟨o,zm T o EJ ho,r⟩
  have hl:l[i]? =some c:=by simpa [S]using NZ
  refine ⟨.ref T,upd H T (.tup [.int i, .str (S [c])]),?_,rfl,⟨T,c,hl,rfl,I.bR.fresh hT,rfl⟩,⟨hg,sx.1,sx.2⟩,fun b hb=>?_⟩
  ·refine I.mN (t':=tk) (h':=h2) (fun b o hb y=>zm b o hb (hk b o hb y)) hf hT ?_
   exact ⟨by show 2<=sizeLine;decide,[.int i tt, .str ⟨#[c]⟩ u], .cons ⟨tt,rfl⟩ (.cons ⟨u,rfl⟩ .nil),sC⟩
  ·rw[az (fun z:b=T=>EJ (z▸hb))];exact (hf b hb).1
 done:=by
  intro X hP hw hK hc i pins s σ H E I hf st hg
  subst hP hw hK
  obtain ⟨h1,uh,ug⟩:=st
  have e1:i=l.length:=Wb h1 hg
  have D:=oY (prog:=X.prog) (w:=X.w) (A:=X.A.in1) (I.ok.hd hc) it (S l) t
  have W:=WalksT.enumerateD D e wM (by simpa using wM) (by simp)
  refine W.done s _ _ ?_ fun h' tk hk=>⟨rfl,I.qr (t':=tk) hk hf⟩
  rw[j_, <-e1]
  exact ⟨uh,ug⟩
 self:=fun _ _ s _ _ st h=>by
  obtain ⟨_,⟨old,he⟩,_⟩:=st
  exact wpAny_pyIter_enum he h
def Gi (ta:TA):TI:=fun σ H R=>ta σ H fun vs H1=> ∃l,vs=[.str (S l)]/\R (KO l) H1
theorem z7 {X:Cx} {elts:List Expr} {k:Nat} {pos':Pos} {a:Expr} {ta:TA} {p pos:Pos} (hg:Gl X "enumerate") (hm:X.mg "enumerate"=none) (ha:PA X [a] ta) (hs:starEach [a] X.env=[(false,eval a X.env)]:=by rfl):PI X (.Tuple elts k pos') (.Call (.Name "enumerate" p) [a] [] pos) (Gi ta):=by
 intro pins s σ H R I h
 refine Call_ (gh I hg hm boot_enumerate (UB (bV (ha pos pins s σ H _ I h) fun us s1 ⟨vs,H1,I1,r1,q1⟩=>?_) hs rfl))
 obtain ⟨l,rfl,q⟩:=q1
 obtain ⟨u,rfl,t,rfl⟩:=vals1 r1
 refine call_enumerate_str fun h' he hit hsz hk=>?_
 refine wpAny_pyIter_enum he ?_
 refine ⟨s1.heap.objs.size+1,[s1.heap.objs.size+1,s1.heap.objs.size],_,_,H1,rfl,I1.kept (t':=s1.toks) hk,u5 _ _ (VZ _) l t,⟨Ti _,⟨_,he⟩,hit⟩,fun b hb=>?_,q⟩
 have rM:s1.heap.objs.size<=b:=by
  rcases QS.mp hb with z | z
  ·rw[z];exact U9 _
  ·rw[QU.mp z];exact Mj _
 exact I1.nV rM (I1.bR.fresh rM)
theorem z8 {l:List Nat} {g:TG} {tb:TS} {D:Ends} {σ:St} {H:Hp} (Pv:Nat->St->Hp->Prop) (h0:Pv 0 σ H)
  (hs: ∀i c σ H T,l[i]? =some c->Pv i σ H->H T=none->g (.ref T) σ (upd H T (.tup [.int i, .str (S [c])])) fun σ2 H2=>tb { D with nx:=Pv (i+1),ct:=Pv (i+1),bk:=D.nx } σ2 H2) (hd: ∀σ H,Pv l.length σ H->D.nx σ H):
  ∃W:Nat->Nat->St->Hp->Prop,(∃m,W 0 m σ H)/\ ∀i m σ H,W i m σ H->
   ((KO l).stop i H/\D.nx σ H)\/((KO l).go i H/\ ∃N:St->Hp->Prop,(∀σ' H',N σ' H'-> ∃m',m'<m/\W (i+1) m' σ' H')/\ ∀x H',(KO l).zC i H x H'->g x σ H' fun σ2 H2=>tb { D with nx:=N,ct:=N,bk:=D.nx } σ2 H2):=by
 refine ⟨fun i m σ H=>m=l.length - i/\i<=l.length/\Pv i σ H,⟨l.length,by simp,Ti _,h0⟩,?_⟩
 rintro i m σ H ⟨rfl,hi,p⟩
 by_cases dc:i<l.length
 ·refine .inr ⟨dc,Pv (i+1),fun σ' H' p'=>⟨l.length - (i+1),by omega,rfl,dc,p'⟩,fun x H' y=>?_⟩
  obtain ⟨T,c,hc,rfl,hn,rfl⟩:=y
  exact hs i c σ _ T hc p hn
 ·have e:i=l.length:=by omega
  subst e
  exact .inl ⟨Mj _,hd σ H p⟩
section
variable {X:Cx}
theorem C6 {ls:List (List Nat)}: ∀{aJ:List Value},Vals (ls.map fun l=>V.str (S l)) aJ->StrsAre aJ (ls.map S):=by
 induction ls with
 | nil=>intro aJ r;cases r;exact .nil
 | cons l ls ih=>
  intro aJ r
  cases r with
  | cons r1 r2=>
   obtain ⟨t,rfl⟩:=r1
   exact .cons _ t (ih r2)
theorem wN: ∀{aJ:List Value} {ss:List Str},StrsAre aJ ss->Vals ((ss.map fun x=>x.cps.toList).map fun l=>V.str (S l)) aJ
 | _,_, .nil=> .nil
 | _,_, .cons x t h=> .cons ⟨t,by rw[<-Kz]⟩ (wN h)
theorem oZ: ∀(p:Str) (r:List Str),risingS p r=true->(p::r).Pairwise fun a b=> ¬b.cps.toList<a.cps.toList
 | p,[],_=>List.pairwise_singleton _ _
 | p,x::r,h=>by
  have h':(!ltCps x.cps.toList p.cps.toList&&risingS x r)=true:=h
  rw[UJ,ltCps_eq]at h'
  have h1: ¬x.cps.toList<p.cps.toList:=by simpa using h'.1
  have ih:=oZ x r h'.2
  refine UX.mpr ⟨fun y hy=>?_,ih⟩
  rcases QS.mp hy with z | z
  ·rw[z];exact h1
  ·exact List.le_trans (show p.cps.toList<=x.cps.toList from h1) (show x.cps.toList<=y.cps.toList from List.rel_of_pairwise_cons ih z)
theorem yo {ss:List Str} (h:sortedS ss=true):(ss.map fun x=>x.cps.toList).Pairwise fun a b=> ¬b<a:=by
 rw[UC]
 cases ss with
 | nil=>exact List.Pairwise.nil
 | cons x r=>exact oZ x r h
def Gj (K:PySem.W.Frag):List V->Hp->VK->Prop:=fun xs H Q=> ∃(p:Addr) (ls:List (List Nat)),xs=[.ref p]/\bK K H p (ls.map fun l=>V.str (S l))/\ls.length<64/\ ∀(q:Addr) (N0:List (List Nat)),H q=none->N0.Perm ls->(N0.Pairwise fun a b=> ¬b<a)->Q (.ref q) (upd H q (.lst (N0.map fun l=>V.str (S l))))
theorem qt (K:PySem.W.Frag) (h:X.K=K):de X (.builtin "sorted") (Gj K):=by
 subst h
 intro pins s σ H xs us Q I r h
 obtain ⟨p,ls,rfl,hq,hn,q⟩:=h
 obtain ⟨u,rfl,ru⟩:=vals1 r
 cases ru
 obtain ⟨aJ,rv,pl,hz⟩:=I.list hq
 have hlen:aJ.length=ls.length:=by rw[<-rv.length,HX]
 refine sorted_strs (l:=p) (vs:=aJ) (ss:=ls.map S) pl.isList (C6 rv) (by omega) fun out zo h1 h2 h3=>?_
 obtain ⟨e,he⟩:=sortedAll_at s.heap aJ out
 have sE:(zo.map fun x=>x.cps.toList).Perm ls:=by
  have:=h2.map fun x:Str=>x.cps.toList
  rw[Us]at this
  have e2:ls.map ((fun x:Str=>x.cps.toList) ∘ S)=ls:=by
   have: ∀l∈ls,((fun x:Str=>x.cps.toList) ∘ S) l=l:=fun l _=>eU l
   calc ls.map _=ls.map id:=UR this
    _=ls:=WM ls
  rwa [e2]at this
 have Mm:=sE.length_eq
 have Q0:(64:Nat)<sizeLine:=by decide
 have KQ:((zo.map fun x=>x.cps.toList).map fun l=>V.str (S l)).length<=sizeLine:=by rw[HX,Mm];omega
 refine ⟨.ref (s.heap.objs.size+1),_,I.laid (t':=s.toks) (a:=s.heap.objs.size+1) (o:= .lst ((zo.map fun x=>x.cps.toList).map fun l=>V.str (S l))) (fun b o e=>sortedAll_old e) (U9 _) ⟨KQ,out.toList,e,wN h1,by simpa [seqObj]using he⟩,rfl,q _ _ (I.bR.fresh (U9 _)) sE (yo h3)⟩
end
section
variable {X:Cx}
theorem C7 {ls:List (List Nat)} {l:List Nat} (h:ls.Perm (l.map fun c=>[c])): ∃l':List Nat,ls=l'.map (fun c=>[c])/\l'.Perm l:=by
 refine ⟨ls.flatten,?_,?_⟩
 ·have hs: ∀x∈ls, ∃c,x=[c]:=fun x hx=>by
   obtain ⟨c,_,e⟩:=T3.mp (h.mem_iff.mp hx)
   exact ⟨c,e.symm⟩
  clear h
  induction ls with
  | nil=>rfl
  | cons x ls ih=>
   obtain ⟨c,rfl⟩:=hs x TR
   rw[Vt,QT, <-ih fun y hy=>hs y (Tj _ hy)]
   rfl
 ·have:=h.flatten
  have e:(l.map fun c=>[c]).flatten=l:=by
   clear h this
   induction l with
   | nil=>rfl
   | cons c l ih=>rw[TV,Vt,ih];rfl
  rwa [e]at this
theorem C8 {l:List Nat} (h:(l.map fun c=>[c]).Pairwise fun a b=> ¬b<a):l.Pairwise fun a b=>a<=b:=by
 rw[UC]at h
 refine h.imp fun {a b} z=>?_
 by_cases y:a<=b
 ·exact y
 ·exact absurd (Wh.mpr (.inl (by omega))) z
end
section
variable {X:Cx}
end
section
variable {prog:Program} {w:World} {A:Around} {E:Value->Shared->Prop} {s:Shared}
theorem u6 {it tp:Addr} {j:Nat} {xs:Array Value} {y:Value} {Q:Value->Shared->Prop} (hi:s.heap.IsTupleIter it tp j) (ht:s.heap.IsTuple tp xs) (hy:xs[j]? =some y)
  (q: ∀h2,h2.IsTupleIter it tp (j+1)->Heap.SameBut it s.heap h2->Q y { s with heap:=h2 }):wpAny (model prog w) A (Builtin.SmallTypes.nextOf (.ref it)) Q E s:=by
 obtain ⟨oi,eo,ec,ed⟩:=id hi
 obtain ⟨ot,et,_,nt,dt⟩:=ht
 unfold Builtin.SmallTypes.nextOf
 refine wpAny_bind (wpAny_callSpecial?_slot (name:=Str.ofString "__next__") hi.typeIs F.slot_tuple_iterator_next (wpAny_call_entry F.slot_tuple_iterator_next hi.typeIs F.entry_tuple_iterator_next ?_ (F.args_tuple_iterator_next_1 _)))
 refine wpAny_bind (m:=field (.ref it) 0) (wpAny_field eo ed (x:= .ref tp) rfl ?_)
 show wpAny (model prog w) _ (if (Value.ref tp==Value.none)=true then _ else _) _ E s
 rw[if_neg (show ¬(Value.ref tp==Value.none)=true from T7)]
 refine wpAny_bind (m:=field (.ref it) 1) (wpAny_field eo ed (x:= .int j 0) rfl ?_)
 refine wpAny_bind (m:=seqItems? (.ref tp)) (wpAny_seqItems et dt ?_)
 simp only[Pj,hy]
 refine wpAny_bind (wpAny_setField eo ed (by simp) (wpAny_pure ⟨y,rfl,wpAny_pure (q _ ⟨_,UN _ eo (Obj.isFreed_of_fields (Obj.data_mapFields ed _)),(Obj.cls_mapFields ..).trans ec,by rw[Obj.data_mapFields ed];simp[rawInt]⟩ (WL ..))⟩))
theorem yp {it tp:Addr} {j:Nat} {xs:Array Value} {Q:Value->Shared->Prop} (hh:A.handled=none) (hi:s.heap.IsTupleIter it tp j) (ht:s.heap.IsTuple tp xs) (hy:xs[j]? =none)
  (q: ∀h2 e,Heap.ExtBut it s.heap h2->(∃o,h2.get? e=some o/\o.cls= .type "StopIteration")->E (.ref e) { s with heap:=h2 }):wpAny (model prog w) A (Builtin.SmallTypes.nextOf (.ref it)) Q E s:=by
 obtain ⟨oi,eo,ec,ed⟩:=id hi
 obtain ⟨ot,et,_,nt,dt⟩:=ht
 unfold Builtin.SmallTypes.nextOf
 refine wpAny_bind (wpAny_callSpecial?_slot (name:=Str.ofString "__next__") hi.typeIs F.slot_tuple_iterator_next (wpAny_call_entry F.slot_tuple_iterator_next hi.typeIs F.entry_tuple_iterator_next ?_ (F.args_tuple_iterator_next_1 _)))
 refine wpAny_bind (m:=field (.ref it) 0) (wpAny_field eo ed (x:= .ref tp) rfl ?_)
 show wpAny (model prog w) _ (if (Value.ref tp==Value.none)=true then _ else _) _ E s
 rw[if_neg (show ¬(Value.ref tp==Value.none)=true from T7)]
 refine wpAny_bind (m:=field (.ref it) 1) (wpAny_field eo ed (x:= .int j 0) rfl ?_)
 refine wpAny_bind (m:=seqItems? (.ref tp)) (wpAny_seqItems et dt ?_)
 simp only[Pj,hy]
 refine wpAny_bind (wpAny_rule (wpAny_bind (wpAny_setField eo ed (by simp) ?_)))
 refine wpAny_bind (m:=newExc (.type "StopIteration") []) ?_
 simp only[newExc,newTuple]
 refine wpAny_bind (wpAny_newObj_type (wpAny_bind (m:=firstArgMember _ _) (wpAny_of_eq (a:=Value.none) (by first | rfl | (simp only[firstArgMember];rfl)) (wpAny_newObj_type ?_ (by size_fits)))) (by size_fits))
 simp only[raiseNew]
 refine wpAny_bind (wpAny_handled ?_);first | rw[show A.in1.handled=none from hh] | rw[hh]
 exact wpAny_bind (wpAny_pure (wpAny_throw (q _ _ (((WL ..).extBut.push _).push _) ⟨_,TX _ rfl,rfl⟩)))
theorem kR (hh:A.handled=none) (it tp:Addr) (ne:tp≠it) (xs:Array Value):
  Draws prog w A it [it,tp] xs.size (fun i v=>xs[i]? =some v) (fun i h=>h.IsTupleIter it tp i/\h.IsTuple tp xs) where
 live:=fun _ _ z=>let ⟨o,e,_⟩:=z.1;⟨o,e⟩
 frame:=fun _ _ _ z k=>by
  obtain ⟨⟨o,e,r⟩,o2,e2,r2⟩:=z
  exact ⟨⟨o,k it (by simp) o e,r⟩,o2,k tp (by simp) o2 e2,r2⟩
 item:=fun i s Q E hi z q=>u6 z.1 z.2 (y:=xs[i]) (by simp[hi]) fun h2 z2 sb=>q _ h2 s.toks (by simp[hi]) ⟨z2,z.2.extBut sb.extBut ne⟩ sb
 done:=fun s Q E z q=>yp hh z.1 z.2 (by simp) q
theorem sF (l:Addr) (items:Array Value) (n:Nat) (N1:Option Addr) (sl:Array (Option Value)):
  Meets (Builtin.«enumerate.__new__» ⟨[.type "enumerate", .ref l],[]⟩) (fun _ R s=>s.heap.get? l=some { cls:= .type "tuple",dict:=N1,data:= .seq items n,slots:=sl }/\
   R (.ok (.ret (.ref (s.heap.push { cls:= .type "tuple_iterator",data:= .fields #[.ref l, .int 0 0] }).objs.size)))
    { s with heap:=(s.heap.push { cls:= .type "tuple_iterator",data:= .fields #[.ref l, .int 0 0] }).push { cls:= .type "enumerate",data:= .fields #[.none, .bool false, .ref s.heap.objs.size,rawInt 0, .none, .none] } }):=
 .of_wp fun prog w A R s h=>by
  obtain ⟨hp,g,d,tk,os⟩:=s;obtain ⟨hl,q⟩:=h;have Q3:=sub_enumerate
  have hT:Heap.IsTuple (Shared.heap ⟨hp,g,d,tk,os⟩) l items:=⟨_,hl,rfl,n,rfl⟩
  wp_walk using AutoSeq1.wpAny_loadPart' hl
  refine wpAny_stack_any fun st=>wpAny_pure ?_
  split
  ·rename_i c _ _ _ _ _
   cases (c==Value.type "enumerate")<;>(wp_walk using AutoSeq1.wpAny_loadPart' hl,wpAny_pyIter_tuple hT;exact ⟨_,rfl,q⟩)
  ·wp_walk using AutoSeq1.wpAny_loadPart' hl,wpAny_pyIter_tuple hT
   exact ⟨_,rfl,q⟩
theorem u7 {l:Addr} {items:Array Value} {Q:Value->Shared->Prop} (hL:s.heap.IsTuple l items)
  (h: ∀h',IsEnum h' (s.heap.objs.size+1) s.heap.objs.size 0 .none->h'.IsTupleIter s.heap.objs.size l 0->(∀b o,s.heap.get? b=some o->h'.get? b=some o)->Q (.ref (s.heap.objs.size+1)) { s with heap:=h' }):
  wpAny (model prog w) A (call (.type "enumerate") [.ref l]) Q E s:=by
 obtain ⟨⟨c,N1,dt,sl⟩,hl,hc,n,hd⟩:=hL
 cases (show c= .type "tuple" from hc)
 cases (show dt= .seq items n from hd)
 refine callType_new F.called_enumerate (by decide) (F.typeCall_enumerate_1 _) (F.newCall_enumerate_1 _) (fun ob=>F.args_object_init_2 ob _) F.entry_enumerate_new (sF l items n N1 sl) ⟨hl,?_⟩
 have hz:(s.heap.push { cls:= .type "tuple_iterator",data:= .fields #[.ref l, .int 0 0] }).objs.size=s.heap.objs.size+1:=VH ..
 show _/\_
 rw[hz]
 have he:IsEnum ((s.heap.push { cls:= .type "tuple_iterator",data:= .fields #[.ref l, .int 0 0] }).push { cls:= .type "enumerate",data:= .fields #[.none, .bool false, .ref s.heap.objs.size,rawInt 0, .none, .none] }) (s.heap.objs.size+1) s.heap.objs.size 0 .none:=by
  have:=TX (s.heap.push { cls:= .type "tuple_iterator",data:= .fields #[.ref l, .int 0 0] }) (o:={ cls:= .type "enumerate",data:= .fields #[.none, .bool false, .ref s.heap.objs.size,rawInt 0, .none, .none] }) rfl
  rwa [hz]at this
 exact ⟨⟨_,he,rfl⟩,h _ he ⟨_,Pd _ (TX _ rfl),rfl,rfl⟩ fun b o x=>Pd _ (Pd _ x)⟩
end
noncomputable def z9 (K:PySem.W.Frag) (a:Addr):It:=⟨fun i H=> ∃xs x,cy K H a xs/\xs[i]? =some x,fun i H x H'=> ∃T y,(∀xs,cy K H a xs->xs[i]? =some y)/\x= .ref T/\H T=none/\H'=upd H T (.tup [.int i,y]),fun i H=> ∃xs,cy K H a xs/\xs.length=i⟩
noncomputable def z_ (K:PySem.W.Frag) (a:Addr):It:=⟨fun i H=> ∃xs x,bK K H a xs/\xs[i]? =some x,fun i H x H'=> ∃T y,(∀xs,bK K H a xs->xs[i]? =some y)/\x= .ref T/\H T=none/\H'=upd H T (.tup [.int i,y]),fun i H=> ∃xs,bK K H a xs/\xs.length=i⟩
theorem u9 {P:Program} {w:World} {K:PySem.W.Frag} {elts:List Expr} {k:Nat} {pos:Pos} (e it a:Addr) (wM:e≠it) (KR:a≠e) (KS:a≠it):
  Turn P w K (.Tuple elts k pos) (z9 K a) [e,it] e (fun i h=>(∃old,IsEnum h e it i old)/\h.IsTupleIter it a i) where
 mem:=by simp
 obj:=fun i h st b hb=>by
  obtain ⟨⟨old,he⟩,o,ho,hc,hd⟩:=st
  rcases QS.mp hb with z | z
  ·rw[z];exact ⟨_,he,fun v z=>by cases z⟩
  ·rw[QU.mp z];exact ⟨o,ho,fun v z=>by rw[hd]at z;cases z⟩
 keep:=fun i h h' st kp=>by
  obtain ⟨⟨old,he⟩,o,ho,r⟩:=st
  exact ⟨⟨old,kp e (by simp) _ he⟩,o,kp it (by simp) o ho,r⟩
 item:=by
  intro X hP hw hK hc i pins s σ H E I hf st hg
  subst hP hw hK
  obtain ⟨uh,ug⟩:=st
  obtain ⟨xs,x,hq,hx⟩:=hg
  obtain ⟨aJ,rv,p,hz⟩:=I.tuple hq
  obtain ⟨u0,hu,ru⟩:=rv.get hx
  have D:=kR (prog:=X.prog) (w:=X.w) (A:=X.A.in1) (I.ok.hd hc) it a KS aJ.toArray
  have W:=WalksT.enumerateD D e wM (by simp;exact ⟨wM,Ne.symm KR⟩) (by simp)
  have N2:i<aJ.toArray.size:=by rw[QR];exact (FX.mp hu).1
  refine W.item i s _ _ N2 ⟨uh,ug,p⟩ fun T vals h' tk KP hT z6 sr hk=>⟨_,rfl,?_⟩
  refine W.go elts k pos i T { s with heap:=h',toks:=tk } _ _ sr fun h2 sx zm=>?_
  obtain ⟨tt,x2,KU,rfl⟩:=KP
  have ex:x2=u0:=by
   rw[List.getElem?_toArray]at KU
   exact TZ (KU.symm.trans hu)
  subst ex
  have EJ:T∉[e,it]:=W.apart i T h' sr
  have sC:h2.IsTuple T #[.int i tt,x2]:=by
   obtain ⟨o,ho,r⟩:=z6
   exact ⟨o,zm T o EJ ho,r⟩
  refine ⟨.ref T,upd H T (.tup [.int i,x]),?_,rfl,⟨T,x,fun ys hy=>by rw[I.oG hy hq];exact hx,rfl,I.bR.fresh hT,rfl⟩,⟨sx.1,sx.2.1⟩,fun b hb=>?_⟩
  ·refine I.mN (t':=tk) (h':=h2) (fun b o hb y=>zm b o hb (hk b o hb y)) hf hT ?_
   exact ⟨by show 2<=sizeLine;decide,[.int i tt,x2], .cons ⟨tt,rfl⟩ (.cons ru .nil),sC⟩
  ·rw[az (fun z:b=T=>EJ (z▸hb))];exact (hf b hb).1
 done:=by
  intro X hP hw hK hc i pins s σ H E I hf st hg
  subst hP hw hK
  obtain ⟨uh,ug⟩:=st
  obtain ⟨xs,hq,hx⟩:=hg
  obtain ⟨aJ,rv,p,hz⟩:=I.tuple hq
  have hl:=rv.length
  have D:=kR (prog:=X.prog) (w:=X.w) (A:=X.A.in1) (I.ok.hd hc) it a KS aJ.toArray
  have W:=WalksT.enumerateD D e wM (by simp;exact ⟨wM,Ne.symm KR⟩) (by simp)
  refine W.done s _ _ ?_ fun h' tk hk=>⟨rfl,I.qr (t':=tk) hk hf⟩
  have e1:aJ.toArray.size=i:=by rw[QR];omega
  rw[e1]
  exact ⟨uh,ug,p⟩
 self:=fun _ _ s _ _ st h=>by
  obtain ⟨⟨old,he⟩,_⟩:=st
  exact wpAny_pyIter_enum he h
theorem u_ {P:Program} {w:World} {K:PySem.W.Frag} {elts:List Expr} {k:Nat} {pos:Pos} (e it a:Addr) (wM:e≠it) (KR:a≠e) (KS:a≠it):
  Turn P w K (.Tuple elts k pos) (z_ K a) [e,it] e (fun i h=>(∃old,IsEnum h e it i old)/\h.IsListIter it a i) where
 mem:=by simp
 obj:=fun i h st b hb=>by
  obtain ⟨⟨old,he⟩,o,ho,hc,hd⟩:=st
  rcases QS.mp hb with z | z
  ·rw[z];exact ⟨_,he,fun v z=>by cases z⟩
  ·rw[QU.mp z];exact ⟨o,ho,fun v z=>by rw[hd]at z;cases z⟩
 keep:=fun i h h' st kp=>by
  obtain ⟨⟨old,he⟩,o,ho,r⟩:=st
  exact ⟨⟨old,kp e (by simp) _ he⟩,o,kp it (by simp) o ho,r⟩
 item:=by
  intro X hP hw hK hc i pins s σ H E I hf st hg
  subst hP hw hK
  obtain ⟨uh,ug⟩:=st
  obtain ⟨xs,x,hq,hx⟩:=hg
  obtain ⟨aJ,rv,p,hz⟩:=I.list hq
  obtain ⟨u0,hu,ru⟩:=rv.get hx
  have D:=Draws.list (prog:=X.prog) (w:=X.w) (A:=X.A.in1) (I.ok.hd hc) it a KS aJ.toArray
  have W:=WalksT.enumerateD D e wM (by simp;exact ⟨wM,Ne.symm KR⟩) (by simp)
  have N2:i<aJ.toArray.size:=by rw[QR];exact (FX.mp hu).1
  refine W.item i s _ _ N2 ⟨uh,ug,p.isList⟩ fun T vals h' tk KP hT z6 sr hk=>⟨_,rfl,?_⟩
  refine W.go elts k pos i T { s with heap:=h',toks:=tk } _ _ sr fun h2 sx zm=>?_
  obtain ⟨tt,x2,KU,rfl⟩:=KP
  have ex:x2=u0:=by
   rw[List.getElem?_toArray]at KU
   exact TZ (KU.symm.trans hu)
  subst ex
  have EJ:T∉[e,it]:=W.apart i T h' sr
  have sC:h2.IsTuple T #[.int i tt,x2]:=by
   obtain ⟨o,ho,r⟩:=z6
   exact ⟨o,zm T o EJ ho,r⟩
  refine ⟨.ref T,upd H T (.tup [.int i,x]),?_,rfl,⟨T,x,fun ys hy=>by rw[I.rW hy hq];exact hx,rfl,I.bR.fresh hT,rfl⟩,⟨sx.1,sx.2.1⟩,fun b hb=>?_⟩
  ·refine I.mN (t':=tk) (h':=h2) (fun b o hb y=>zm b o hb (hk b o hb y)) hf hT ?_
   exact ⟨by show 2<=sizeLine;decide,[.int i tt,x2], .cons ⟨tt,rfl⟩ (.cons ru .nil),sC⟩
  ·rw[az (fun z:b=T=>EJ (z▸hb))];exact (hf b hb).1
 done:=by
  intro X hP hw hK hc i pins s σ H E I hf st hg
  subst hP hw hK
  obtain ⟨uh,ug⟩:=st
  obtain ⟨xs,hq,hx⟩:=hg
  obtain ⟨aJ,rv,p,hz⟩:=I.list hq
  have hl:=rv.length
  have D:=Draws.list (prog:=X.prog) (w:=X.w) (A:=X.A.in1) (I.ok.hd hc) it a KS aJ.toArray
  have W:=WalksT.enumerateD D e wM (by simp;exact ⟨wM,Ne.symm KR⟩) (by simp)
  refine W.done s _ _ ?_ fun h' tk hk=>⟨rfl,I.qr (t':=tk) hk hf⟩
  have e1:aJ.toArray.size=i:=by rw[QR];omega
  rw[e1]
  exact ⟨uh,ug,p.isList⟩
 self:=fun _ _ s _ _ st h=>by
  obtain ⟨⟨old,he⟩,_⟩:=st
  exact wpAny_pyIter_enum he h
def Gk (K:PySem.W.Frag) (ta:TA):TI:=fun σ H R=>ta σ H fun vs H1=> ∃a,vs=[.ref a]/\(∃xs,cy K H1 a xs)/\R (z9 K a) H1
def Gm (K:PySem.W.Frag) (ta:TA):TI:=fun σ H R=>ta σ H fun vs H1=> ∃a,vs=[.ref a]/\(∃xs,bK K H1 a xs)/\R (z_ K a) H1
theorem sG {X:Cx} (K:PySem.W.Frag) (hK:X.K=K) {elts:List Expr} {k:Nat} {pos':Pos} {a:Expr} {ta:TA} {p pos:Pos} (hg:Gl X "enumerate") (hm:X.mg "enumerate"=none) (ha:PA X [a] ta) (hs:starEach [a] X.env=[(false,eval a X.env)]:=by rfl):PI X (.Tuple elts k pos') (.Call (.Name "enumerate" p) [a] [] pos) (Gk K ta):=by
 subst hK
 intro pins s σ H R I h
 refine Call_ (gh I hg hm boot_enumerate (UB (bV (ha pos pins s σ H _ I h) fun us s1 ⟨vs,H1,I1,r1,q1⟩=>?_) hs rfl))
 obtain ⟨b,rfl,⟨xs,hq⟩,q⟩:=q1
 obtain ⟨u,rfl,ru⟩:=vals1 r1
 cases ru
 obtain ⟨aJ,rv,pl,hz⟩:=I1.tuple hq
 obtain ⟨ob,eb,_⟩:=id pl
 have dc:b<s1.heap.objs.size:=To eb
 refine u7 pl fun h' he hit hk=>wpAny_pyIter_enum he ?_
 refine ⟨s1.heap.objs.size+1,[s1.heap.objs.size+1,s1.heap.objs.size],_,_,H1,rfl,I1.kept (t':=s1.toks) hk,u9 _ _ b (VZ _) (TY (Vg dc)) (TY dc),⟨⟨_,he⟩,hit⟩,fun c hb=>?_,q⟩
 have rM:s1.heap.objs.size<=c:=by
  rcases QS.mp hb with z | z
  ·rw[z];exact U9 _
  ·rw[QU.mp z];exact Mj _
 exact I1.nV rM (I1.bR.fresh rM)
theorem Aa {X:Cx} (K:PySem.W.Frag) (hK:X.K=K) {elts:List Expr} {k:Nat} {pos':Pos} {a:Expr} {ta:TA} {p pos:Pos} (hg:Gl X "enumerate") (hm:X.mg "enumerate"=none) (ha:PA X [a] ta) (hs:starEach [a] X.env=[(false,eval a X.env)]:=by rfl):PI X (.Tuple elts k pos') (.Call (.Name "enumerate" p) [a] [] pos) (Gm K ta):=by
 subst hK
 intro pins s σ H R I h
 refine Call_ (gh I hg hm boot_enumerate (UB (bV (ha pos pins s σ H _ I h) fun us s1 ⟨vs,H1,I1,r1,q1⟩=>?_) hs rfl))
 obtain ⟨b,rfl,⟨xs,hq⟩,q⟩:=q1
 obtain ⟨u,rfl,ru⟩:=vals1 r1
 cases ru
 obtain ⟨aJ,rv,pl,hz⟩:=I1.list hq
 obtain ⟨ob,eb,_⟩:=id pl.isList
 have dc:b<s1.heap.objs.size:=To eb
 refine call_enumerate_list pl.isList fun h' he hit hsz hk=>wpAny_pyIter_enum he ?_
 refine ⟨s1.heap.objs.size+1,[s1.heap.objs.size+1,s1.heap.objs.size],_,_,H1,rfl,I1.kept (t':=s1.toks) hk,u_ _ _ b (VZ _) (TY (Vg dc)) (TY dc),⟨⟨_,he⟩,hit⟩,fun c hb=>?_,q⟩
 have rM:s1.heap.objs.size<=c:=by
  rcases QS.mp hb with z | z
  ·rw[z];exact U9 _
  ·rw[QU.mp z];exact Mj _
 exact I1.nV rM (I1.bR.fresh rM)
theorem o4 {K:PySem.W.Frag} {a:Addr} {xs:List V} {g:TG} {tb:TS} {D:Ends} {σ:St} {H:Hp} (Pv:Nat->St->Hp->Prop) (h0:Pv 0 σ H) (hl: ∀i σ H,i<=xs.length->Pv i σ H->cy K H a xs)
  (hs: ∀i x σ H T,xs[i]? =some x->Pv i σ H->H T=none->g (.ref T) σ (upd H T (.tup [.int i,x])) fun σ2 H2=>tb { D with nx:=Pv (i+1),ct:=Pv (i+1),bk:=D.nx } σ2 H2) (hd: ∀σ H,Pv xs.length σ H->D.nx σ H):
  ∃W:Nat->Nat->St->Hp->Prop,(∃m,W 0 m σ H)/\ ∀i m σ H,W i m σ H->
   ((z9 K a).stop i H/\D.nx σ H)\/((z9 K a).go i H/\ ∃N:St->Hp->Prop,(∀σ' H',N σ' H'-> ∃m',m'<m/\W (i+1) m' σ' H')/\ ∀x H',(z9 K a).zC i H x H'->g x σ H' fun σ2 H2=>tb { D with nx:=N,ct:=N,bk:=D.nx } σ2 H2):=by
 refine ⟨fun i m σ H=>m=xs.length - i/\i<=xs.length/\Pv i σ H,⟨xs.length,by simp,Ti _,h0⟩,?_⟩
 rintro i m σ H ⟨rfl,hi,p⟩
 have hq:=hl i σ H hi p
 by_cases dc:i<xs.length
 ·refine .inr ⟨⟨xs,xs[i],hq,by simp[dc]⟩,Pv (i+1),fun σ' H' p'=>⟨xs.length - (i+1),by omega,rfl,dc,p'⟩,fun x H' y=>?_⟩
  obtain ⟨T,z,hz,rfl,hn,rfl⟩:=y
  exact hs i z σ _ T (hz xs hq) p hn
 ·have e:i=xs.length:=by omega
  subst e
  exact .inl ⟨⟨xs,hq,rfl⟩,hd σ H p⟩
theorem yq {K:PySem.W.Frag} {a:Addr} {xs:List V} {g:TG} {tb:TS} {D:Ends} {σ:St} {H:Hp} (Pv:Nat->St->Hp->Prop) (h0:Pv 0 σ H) (hl: ∀i σ H,i<=xs.length->Pv i σ H->bK K H a xs)
  (hs: ∀i x σ H T,xs[i]? =some x->Pv i σ H->H T=none->g (.ref T) σ (upd H T (.tup [.int i,x])) fun σ2 H2=>tb { D with nx:=Pv (i+1),ct:=Pv (i+1),bk:=D.nx } σ2 H2) (hd: ∀σ H,Pv xs.length σ H->D.nx σ H):
  ∃W:Nat->Nat->St->Hp->Prop,(∃m,W 0 m σ H)/\ ∀i m σ H,W i m σ H->
   ((z_ K a).stop i H/\D.nx σ H)\/((z_ K a).go i H/\ ∃N:St->Hp->Prop,(∀σ' H',N σ' H'-> ∃m',m'<m/\W (i+1) m' σ' H')/\ ∀x H',(z_ K a).zC i H x H'->g x σ H' fun σ2 H2=>tb { D with nx:=N,ct:=N,bk:=D.nx } σ2 H2):=by
 refine ⟨fun i m σ H=>m=xs.length - i/\i<=xs.length/\Pv i σ H,⟨xs.length,by simp,Ti _,h0⟩,?_⟩
 rintro i m σ H ⟨rfl,hi,p⟩
 have hq:=hl i σ H hi p
 by_cases dc:i<xs.length
 ·refine .inr ⟨⟨xs,xs[i],hq,by simp[dc]⟩,Pv (i+1),fun σ' H' p'=>⟨xs.length - (i+1),by omega,rfl,dc,p'⟩,fun x H' y=>?_⟩
  obtain ⟨T,z,hz,rfl,hn,rfl⟩:=y
  exact hs i z σ _ T (hz xs hq) p hn
 ·have e:i=xs.length:=by omega
  subst e
  exact .inl ⟨⟨xs,hq,rfl⟩,hd σ H p⟩
section
variable {X:Cx}
end
section
variable {X:Cx}
def Gn (K:PySem.W.Frag):List V->Hp->VK->Prop:=fun xs H Q=> ∃p ys,xs=[.ref p]/\((bK K H p ys/\ ∀l,H l=none->Q (.ref l) (upd H l (.tup ys)))\/(cy K H p ys/\Q (.ref p) H))
theorem eW (K:PySem.W.Frag) (h:X.K=K):de X (.type "tuple") (Gn K):=by subst h;exact nX
end
theorem sH {K:PySem.W.Frag} {a:Addr} {xs:List V} {σc:St} {g:TG} {tc:TT} {te:TE} {Q:VK} {H1:Hp} (Pv:Nat->List V->Hp->Prop) (hn:xs.length<sizeLine) (hl: ∀i acc H,Pv i acc H->cy K H a xs) (h0:Pv 0 [] H1)
  (hs: ∀(i:Nat) (x:V) (acc:List V) (H:Hp) (Nx:List V->Hp->Prop),i<xs.length->xs[i]? =some x->acc.length<=i->Pv i acc H->(∀dD H',dD.length<=i+1->Pv (i+1) dD H'->Nx dD H')->
   g x σc H fun σ2 H2=>Wk σc σ2/\tc σ2 H2 fun b H3=>if b=true then te σ2 H3 fun v H4=>Nx (acc++[v]) H4 else Nx acc H3)
  (hd: ∀acc H D,acc.length<=xs.length->Pv xs.length acc H->H D=none->Q (.ref D) (upd H D (.lst acc))):oS (Nq K a) σc g tc te Q H1:=
 lO (xs:=fun i x=>xs[i]? =some x) Pv hn (fun i acc H h p=>⟨xs,xs[i],hl i acc H p,by simp[h]⟩) (fun acc H p=>⟨xs,hl _ acc H p,Mj _⟩) (fun i acc H x H' h p y=>⟨y.1,y.2 xs (hl i acc H p)⟩) h0 hs hd
def dq (H H':Hp):Prop:= ∀c xs,H c=some (.tup xs)->H' c=some (.tup xs)
theorem dq.trans {H H1 H2:Hp} (a:dq H H1) (b:dq H1 H2):dq H H2:=fun c xs h=>b c xs (a c xs h)
theorem dq.of {H H':Hp} (s:au H H'):dq H H':=fun c xs h=>s c _ h
theorem dq.C9 {H:Hp} {p:Addr} {ys:List V} {o:HO} (h:H p=some (.lst ys)):dq H (upd H p o):=fun c xs e=>by
 rw[az (fun z=>by rw[z,h]at e;cases e)];exact e
section
variable {prog:Program} {w:World} {A:Around} {E:Value->Shared->Prop} {s:Shared}
end
section
variable {X:Cx}
end
section
variable {prog:Program} {w:World} {A:Around} {E:Value->Shared->Prop} {s:Shared}
noncomputable def bu:List Int->List Int->Bool
 | [],[]=>false
 | [],_::_=>true
 | _::_,[]=>false
 | a::r,b::t=>if a=b then bu r t else decide (a<b)
end
section
variable {X:Cx}
end
end L2
namespace HT
open PySem PySem.Spec PyProof.Rows
section
variable {prog:Program} {w:World} {A:Around} {E:Value->Shared->Prop} {s:Shared}
end
end HT
namespace L2
open PySem PySem.Spec PyProof.Rows
section
variable {X:Cx} {e st:Expr} {te:TE} {ts:TO} {pos p2:Pos}
end
section
variable {κ:Type} [DecidableEq κ]
noncomputable def cN (aI:List (κ×V)) (k:κ):Option V:=(aI.find? fun kv=>decide (kv.1=k)).map (·.2)
noncomputable def putK (aI:List (κ×V)) (k:κ) (v:V):List (κ×V):=
 if (aI.any fun kv=>decide (kv.1=k))=true then aI.map (fun kv=>if kv.1=k then (kv.1,v) else kv) else aI++[(k,v)]
theorem ck {p:κ×V} {r:List (κ×V)} {k:κ} (e:p.1=k):cN (p::r) k=some p.2:=by simp[cN,U2,e]
theorem bW {p:κ×V} {r:List (κ×V)} {k:κ} (e: ¬p.1=k):cN (p::r) k=cN r k:=by simp[cN,U2,e]
theorem gU (k:κ): ∀aI:List (κ×V),(aI.any fun kv=>decide (kv.1=k))=(cN aI k).isSome
 | []=>rfl
 | p::r=>by
  rw[VF]
  by_cases e:p.1=k
  ·simp only[ck e,decide_eq_true e,Bool.true_or,Option.isSome_some]
  ·rw[bW e,decide_eq_false e,Wv];exact gU k r
theorem sI (k j:κ) (y:V): ∀aI:List (κ×V),cN (aI.map fun kv=>if kv.1=k then (kv.1,y) else kv) j=(cN aI j).map fun x=>if j=k then y else x
 | []=>rfl
 | p::r=>by
  have ih:=sI k j y r
  rw[TV]
  by_cases h:p.1=k
  ·rw[if_pos h]
   by_cases e:p.1=j
   ·rw[ck (p:=(p.1,y)) e,ck e,V_,if_pos (e.symm.trans h)]
   ·rw[bW (p:=(p.1,y)) e,bW e,ih]
  ·rw[if_neg h]
   by_cases e:p.1=j
   ·rw[ck (p:=p) e,ck e,V_,if_neg (fun z=>h (e.trans z))]
   ·rw[bW (p:=p) e,bW e,ih]
theorem o5 (k j:κ) (y:V): ∀aI:List (κ×V),cN aI k=none->cN (aI++[(k,y)]) j=if j=k then some y else cN aI j
 | [],_=>by
  by_cases e:k=j
  ·rw[if_pos e.symm];exact ck (p:=(k,y)) e
  ·rw[if_neg (fun z=>e z.symm)];exact bW (p:=(k,y)) e
 | p::r,hn=>by
  rw[List.cons_append]
  have hk: ¬p.1=k:=fun z=>by rw[ck z]at hn;cases hn
  rw[bW hk]at hn
  have ih:=o5 k j y r hn
  by_cases e:p.1=j
  ·rw[ck e,ck e,if_neg (fun z=>hk (e.trans z))]
  ·rw[bW e,bW e,ih]
theorem Ab (aI:List (κ×V)) (k j:κ) (y:V):cN (putK aI k y) j=if j=k then some y else cN aI j:=by
 unfold putK
 by_cases a:(aI.any fun kv=>decide (kv.1=k))=true
 ·rw[if_pos a,sI]
  rw[gU]at a
  by_cases e:j=k
  ·obtain ⟨x,hx⟩:=Option.isSome_iff_exists.mp a
   rw[if_pos e,e,hx,V_,if_pos rfl]
  ·rw[if_neg e]
   cases cN aI j with
   | none=>rfl
   | some x=>rw[V_,if_neg e]
 ·rw[if_neg a]
  refine o5 k j y aI ?_
  rw[gU]at a
  cases q:cN aI k with
  | none=>rfl
  | some x=>rw[q]at a;exact (a rfl).elim
theorem fA (aI:List (κ×V)) (k:κ) (v:V):(putK aI k v).length<=aI.length+1:=by
 unfold putK
 split
 ·rw[HX];omega
 ·rw[Tn,Uu,List.length_nil];omega
theorem sJ {aI:List (κ×V)} {k:κ} (v:V) (h:cN aI k=none):putK aI k v=aI++[(k,v)]:=by
 unfold putK
 rw[gU,h]
 exact if_neg (by decide)
theorem jY.yr {o:Option V} {u:Option Value} (r:jY o u):o.isSome=u.isSome:=by
 cases o with
 | none=>cases u with
  | none=>rfl
  | some _=>exact (show False from r).elim
 | some _=>cases u with
  | none=>exact (show False from r).elim
  | some _=>rfl
theorem KV.val {aI:List (κ×V)} {vs:List (κ×Value)} (r:KV aI vs) (k:κ):jY (cN aI k) (valueAt vs k):=by
 unfold KV at r
 induction r with
 | nil=>exact True.intro
 | @cons p q ps qs h t ih=>
  obtain ⟨h1,h2⟩:=h
  by_cases e:p.1=k
  ·have e':q.1=k:=h1.symm.trans e
   have b:valueAt (q::qs) k=some q.2:=by simp[valueAt,U2,e']
   rw[ck e,b];exact h2
  ·have e': ¬q.1=k:=fun z=>e (h1.trans z)
   have b:valueAt (q::qs) k=valueAt qs k:=by simp[valueAt,U2,e']
   rw[bW e,b];exact ih
theorem KV.any {aI:List (κ×V)} {vs:List (κ×Value)} (r:KV aI vs) (k:κ):(aI.any fun kv=>decide (kv.1=k))=vs.any fun kv=>decide (kv.1=k):=by
 unfold KV at r
 induction r with
 | nil=>rfl
 | cons h t ih=>rw[VF,VF,ih,h.1]
theorem KV.Gp {aI:List (κ×V)} {vs:List (κ×Value)} (r:KV aI vs) (k:κ) {y:V} {u:Value} (ry:RelV y u):
  KV (aI.map fun kv=>if kv.1=k then (kv.1,y) else kv) (vs.map fun kv=>if kv.1=k then (kv.1,u) else kv):=by
 unfold KV at r ⊢
 induction r with
 | nil=>exact .nil
 | @cons p q ps qs h t ih=>
  rw[TV,TV]
  refine .cons ?_ ih
  obtain ⟨h1,h2⟩:=h
  by_cases e:p.1=k
  ·rw[if_pos e,if_pos (h1.symm.trans e)];exact ⟨h1,ry⟩
  ·rw[if_neg e,if_neg (fun z=>e (h1.trans z))];exact ⟨h1,h2⟩
theorem KV.put {aI:List (κ×V)} {vs:List (κ×Value)} (r:KV aI vs) (k:κ) {y:V} {u:Value} (ry:RelV y u):KV (putK aI k y) (stored vs k u):=by
 unfold putK stored
 rw[r.any k]
 by_cases e:(vs.any fun kv=>decide (kv.1=k))=true
 ·rw[if_pos e,if_pos e];exact r.Gp k ry
 ·rw[if_neg e,if_neg e];exact Paired.snoc r ⟨rfl,ry⟩
theorem KV.length {aI:List (κ×V)} {vs:List (κ×Value)} (r:KV aI vs):aI.length=vs.length:=Paired.length r
end
theorem Ac {P:Program} {w:World} {k:Key} {u:Value} (r:RelV (kV k) u):(b5 P w).is k u=true:=by
 cases k with
 | inl i=>obtain ⟨t,e⟩:=(show ∃t,u=Value.int i t from r);subst e;exact rR P w i t
 | inr x=>obtain ⟨t,e⟩:=(show ∃t,u=Value.str x t from r);subst e;exact rS P w x t
theorem o6 {P:Program} {w:World}: ∀{ks:List Key} {us:List Value},Vals (ks.map kV) us->ItemsAre (b5 P w) ks us
 | [],_,r=>by rw[List.map_nil]at r;cases r;exact .nil
 | k::ks,_,r=>by
  rw[TV]at r
  cases r with
  | cons h t=>exact .cons (Ac h) (o6 t)
abbrev KT (H:Hp):List (List Key×V)->List (List Key×Addr×Value)->Prop:=Paired fun p q=>p.1=q.1/\H q.2.1=some (.tup (p.1.map kV))/\RelV p.2 q.2.2
theorem KT.val {H:Hp} {aI:List (List Key×V)} {xs:List (List Key×Addr×Value)} (r:KT H aI xs) (k:List Key):jY (cN aI k) ((atKey xs k).map (·.2)):=by
 induction r with
 | nil=>exact True.intro
 | @cons p q ps qs h t ih=>
  obtain ⟨h1,_,h2⟩:=h
  by_cases e:p.1=k
  ·have e':q.1=k:=h1.symm.trans e
   have b:atKey (q::qs) k=some q.2:=by simp[atKey,U2,e']
   rw[ck e,b];exact h2
  ·have e': ¬q.1=k:=fun z=>e (h1.trans z)
   have b:atKey (q::qs) k=atKey qs k:=by simp[atKey,U2,e']
   rw[bW e,b];exact ih
theorem KT.Gp {H:Hp} {aI:List (List Key×V)} {xs:List (List Key×Addr×Value)} (r:KT H aI xs) (k:List Key) {y:V} {u:Value} (ry:RelV y u):
  KT H (aI.map fun kv=>if kv.1=k then (kv.1,y) else kv) (xs.map (putAt k u)):=by
 induction r with
 | nil=>exact .nil
 | @cons p q ps qs h t ih=>
  rw[TV,TV]
  refine .cons ?_ ih
  obtain ⟨h1,h2,h3⟩:=h
  unfold putAt
  by_cases e:p.1=k
  ·rw[if_pos e,if_pos (h1.symm.trans e)];exact ⟨h1,h2,ry⟩
  ·rw[if_neg e,if_neg (fun z=>e (h1.trans z))];exact ⟨h1,h2,h3⟩
theorem KT.put {H:Hp} {aI:List (List Key×V)} {xs:List (List Key×Addr×Value)} (r:KT H aI xs) (k:List Key) {b:Addr} {y:V} {u:Value} (hb:H b=some (.tup (k.map kV))) (ry:RelV y u):
  KT H (putK aI k y) (storedH xs k b u):=by
 have e:(aI.any fun kv=>decide (kv.1=k))=(atKey xs k).isSome:=by
  rw[gU,(r.val k).yr,Option.isSome_map]
 unfold putK storedH
 rw[e]
 by_cases q:(atKey xs k).isSome=true
 ·rw[if_pos q,if_pos q];exact r.Gp k ry
 ·rw[if_neg q,if_neg q];exact Paired.snoc r ⟨rfl,hb,ry⟩
theorem KT.keeps {H H':Hp} {aI:List (List Key×V)} {xs:List (List Key×Addr×Value)} (r:KT H aI xs) (ht: ∀b ys,H b=some (.tup ys)->H' b=some (.tup ys)):KT H' aI xs:=
 Paired.Fi r fun _ _ z=>⟨z.1,ht _ _ z.2.1,z.2.2⟩
section
variable {P:Program} {w:World} {H:Hp} {h:Heap} {a:Addr}
theorem EK {u:HO} (ok:iY P w H h) (e:Rd H a u):cw P w H h a u:=e.ok ok
theorem Ad {aI:List (Key×V)} (ok:iY P w H h) (e:Rd H a (.dK aI)):aI.length<=sizeLine/\(a==sysModules)=false/\ ∃vs,KV aI vs/\h.DictOf (b5 P w) a vs:=
 show cw P w H h a (.dK aI) from EK ok e
theorem KW {aI:List (Key×V)} (ok:iY P w H h) (e:H a=some (.dK aI)):aI.length<=sizeLine/\(a==sysModules)=false/\ ∃vs,KV aI vs/\h.DictOf (b5 P w) a vs:=Ad ok (.inl e)
theorem va {ks:List Key} (ok:iY P w H h) (e:H a=some (.tup (ks.map kV))):(tupleKind (b5 P w)).is h ks a:=by
 obtain ⟨_,aJ,r,o,h1,h2,n,h3⟩:=(show cw P w H h a (.tup (ks.map kV)) from ok a _ e)
 exact ⟨o,aJ.toArray,n,h1,h2,h3,by simpa using o6 r⟩
theorem Ae {aI:List (List Key×V)} (ok:iY P w H h) (e:Rd H a (.dT aI)):aI.length<=sizeLine/\(a==sysModules)=false/\
  ∃xs,KT H aI xs/\h.DictOfH (tupleKind (b5 P w)) a xs:=by
 obtain ⟨z,y,xs,r,o,es,ep,h1,h2,h3,h4,h5⟩:=(show cw P w H h a (.dT aI) from EK ok e)
 refine ⟨z,y,xs,r,o,es,ep,h1,h2,h3,h4,fun x hx=>?_,h5⟩
 have all: ∀{l:List (List Key×V)} {m:List (List Key×Addr×Value)},KT H l m-> ∀x∈m,(tupleKind (b5 P w)).is h x.1 x.2.1:=by
  intro l m q
  induction q with
  | nil=>intro x hx;exact nomatch hx
  | @cons p q ps qs hq t ih=>
   intro x hx
   rcases QS.mp hx with e | hx
   ·subst e
    exact va ok (by rw[<-hq.1];exact hq.2.1)
   ·exact ih x hx
 exact all r x hx
theorem KY {aI:List (List Key×V)} (ok:iY P w H h) (e:H a=some (.dT aI)):aI.length<=sizeLine/\(a==sysModules)=false/\
  ∃xs,KT H aI xs/\h.DictOfH (tupleKind (b5 P w)) a xs:=Ae ok (.inl e)
end
def mO (H:Hp) (a:Addr) (y:V) (r:Option V):Prop:=
 (∃aI k,Rd H a (.dK aI)/\y=kV k/\r=cN aI k)\/ ∃aI k b,Rd H a (.dT aI)/\y= .ref b/\H b=some (.tup (k.map kV))/\r=cN aI k
def qu (H:Hp) (a:Addr) (y v:V) (H':Hp):Prop:=
 (∃aI k,H a=some (.dK aI)/\y=kV k/\aI.length<sizeLine/\H'=upd H a (.dK (putK aI k v)))\/
 ∃aI k b,H a=some (.dT aI)/\y= .ref b/\H b=some (.tup (k.map kV))/\aI.length<sizeLine/\H'=upd H a (.dT (putK aI k v))
theorem mO.k {H:Hp} {a:Addr} {aI:List (Key×V)} {k:Key} (e:H a=some (.dK aI)):mO H a (kV k) (cN aI k):= .inl ⟨aI,k, .inl e,rfl,rfl⟩
theorem mO.t {H:Hp} {a b:Addr} {aI:List (List Key×V)} {k:List Key} (e:H a=some (.dT aI)) (eb:H b=some (.tup (k.map kV))):mO H a (.ref b) (cN aI k):= .inr ⟨aI,k,b, .inl e,rfl,eb,rfl⟩
theorem qu.k {H:Hp} {a:Addr} {aI:List (Key×V)} {k:Key} {v:V} (e:H a=some (.dK aI)) (hl:aI.length<sizeLine):qu H a (kV k) v (upd H a (.dK (putK aI k v))):= .inl ⟨aI,k,e,rfl,hl,rfl⟩
theorem qu.t {H:Hp} {a b:Addr} {aI:List (List Key×V)} {k:List Key} {v:V} (e:H a=some (.dT aI)) (eb:H b=some (.tup (k.map kV))) (hl:aI.length<sizeLine):
  qu H a (.ref b) v (upd H a (.dT (putK aI k v))):= .inr ⟨aI,k,b,e,rfl,eb,hl,rfl⟩
section
variable {X:Cx} {pins:List (Addr×Obj)} {σ:St} {H:Hp} {s:Shared} {a:Addr} {y v:V} {u r:Value} {o:Option V} {A:Around} {E:Value->Shared->Prop}
theorem Inv.big (I:Inv X pins σ H s):sysModules<s.heap.objs.size:=by
 have h:mainGlobals<s.heap.objs.size:=(I.mod.glob.keeps I.bk).lt
 exact Vl (by decide) h
theorem yt {Q:Value->Shared->Prop} (hu:A.units+1<cLine) (I:Inv X pins σ H s) (g:mO H a y (some v)) (ry:RelV y u) (h: ∀w' s',Inv X pins σ H s'->RelV v w'->Q w' s'):
  wpAny (model X.prog X.w) A (getItem (.ref a) u) Q E s:=by
 rcases g with ⟨aI,k,e,ey,l⟩ | ⟨aI,k,b,e,ey,eb,l⟩
 ·subst ey
  obtain ⟨z,hd,vs,rel,dd⟩:=Ad I.bR e
  obtain ⟨w',hw,p_⟩:=jY.some_of (v:=v) (o:=valueAt vs k) (by rw[l];exact rel.val k)
  exact wpAny_getItem_of (Ac ry) dd.mapOf hw (h w' _ (I.tok _) p_)
 ·subst ey
  cases (show u=Value.ref b from ry)
  obtain ⟨z,hd,xs,rel,dd⟩:=Ae I.bR e
  obtain ⟨w',hw,p_⟩:=jY.some_of (v:=v) (o:=(atKey xs k).map (·.2)) (by rw[l];exact rel.val k)
  obtain ⟨p,hp,wO⟩:=Option.map_eq_some_iff.mp hw
  refine wpAny_getItem_heap (tupleKind_room_in1 hu) (va I.bR eb) dd hp ?_
  rw[wO]
  exact h w' _ (I.tok _) p_
theorem wQ {h':Heap} {t':Nat} {ob:HO} (I:Inv X pins σ H s) (mu:JE (H a)) (hs:Heap.SameBut a s.heap h') (he: ∃q,h'.get? a=some q) (new:cw X.prog X.w (upd H a ob) h' a ob):
  Inv X pins σ (upd H a ob) { s with heap:=h',toks:=t' }:=
 I.write (x:=a) (e:=a) mu (.inl rfl) (fun b q hb z=>(hs.2 b hb).trans z) he new
theorem Gq {P:Program} {w:World} {H':Hp} {h':Heap} {aI:List (Key×V)} {vs:List (Key×Value)} (z:aI.length<=sizeLine) (hd:(a==sysModules)=false) (rel:KV aI vs) (dd:h'.DictOf (b5 P w) a vs):
  cw P w H' h' a (.dK aI):=⟨z,hd,vs,rel,dd⟩
theorem yu {H':Hp} {Q:Unit->Shared->Prop} (hu:A.units+1<cLine) (I:Inv X pins σ H s) (g:qu H a y v H') (ry:RelV y u) (rv:RelV v r) (h: ∀s',Inv X pins σ H' s'->Q () s'):
  wpAny (model X.prog X.w) A (setItem (.ref a) u r) Q E s:=by
 rcases g with ⟨aI,k,e,ey,l,eH⟩ | ⟨aI,k,b,e,ey,eb,l,eH⟩
 ·subst ey eH
  obtain ⟨z,hd,vs,rel,dd⟩:=KW I.bR e
  have hz:vs.length<=sizeLine:=by rw[<-rel.length];exact z
  have hl:(putK aI k v).length<=sizeLine:=by have:=fA aI k v;omega
  refine wpAny_setItem_pairs (hsz:=hz) (Ac ry) dd fun h' Mn hs=>h _ ?_
  have he: ∃q,h'.get? a=some q:=let ⟨q,_,_,hq,_⟩:=Mn;⟨q,hq⟩
  exact wQ I (by rw[e];exact True.intro) hs he (Gq hl hd (rel.put k rv) Mn)
 ·subst ey eH
  cases (show u=Value.ref b from ry)
  obtain ⟨z,hd,xs,rel,dd⟩:=KY I.bR e
  have hz:xs.length<=sizeLine:=by rw[<-Paired.length rel];exact z
  have hl:(putK aI k v).length<=sizeLine:=by have:=fA aI k v;omega
  refine wpAny_setItem_heap (hsz:=hz) (tupleKind_room_in1 hu) (va I.bR eb) dd fun h' Mn hs=>h _ ?_
  obtain ⟨q,es,ep,hq,h2,h3,h4,_,h5⟩:=Mn
  refine wQ I (by rw[e];exact True.intro) hs ⟨q,hq⟩ ⟨hl,hd,_,(rel.put k eb rv).keeps fun c ys ec=>?_,q,es,ep,hq,h2,h3,h4,h5⟩
  rw[az (JD ec e (fun z=>nomatch z))]
  exact ec
end
section
variable {X:Cx} {pins:List (Addr×Obj)} {σ:St} {H:Hp} {s:Shared} {a:Addr} {aI:List (Key×V)} {k:Key} {u:Value} {A:Around} {E:Value->Shared->Prop}
end
def KZ (i:Expr):Prop:= ∀ov iv,subscripted i false ov iv=operate [ov,iv] (getItem ov iv)
theorem C_ {prog:Program} {w:World} {A:Around} {E:Value->Shared->Prop} {s:Shared} {env:Env} {value slice:Expr} {pos:Pos} {T id:String} {Q:Value->Shared->Prop}
  (hl:typeLookup (.type T) "__getitem__"=pure (some (.builtin id))) (hs:KZ slice)
  (h:wpAny (model prog w) A (eval value env) (fun o s₁=>wpAny (model prog w) A (eval slice env) (fun i s₂=>s₂.TypeIs o T/\wpAny (model prog w) A (getItem o i) Q E s₂) E s₁) E s):
  wpAny (model prog w) A (eval (.Subscript value slice pos) env) Q E s:=by
 refine Subscript_ (wpAny_mono h (fun o s₁ h₁=>wpAny_mono h₁ (fun i s₂ h₂=>?_) fun _ _ x=>x) fun _ _ x=>x)
 obtain ⟨hT,h₂⟩:=h₂
 unfold subscriptTail
 refine wpAny_bind ?_
 rw[getitemInPython_of_ne hT.not_modules]
 refine wpAny_bind (wpAny_specialOf hT hl ?_)
 have fin:wpAny (model prog w) A (subscripted slice false o i) (fun r s₃=>wpAny (model prog w) A (letTemporaryGo value o r >>= fun _=>pure r) Q E s₃) E s₂:=by
  rw[hs o i]
  exact wpAny_operating (wpAny_mono h₂ (fun r s₃ h₃=>wpAny_bind (wpAny_letTemporaryGo (wpAny_pure h₃))) fun _ _ x=>x)
 first
  | exact wpAny_pure (wpAny_bind fin)
  | exact wpAny_bind (wpAny_pure (wpAny_bind fin))
  | exact wpAny_bind fin
theorem sL {X:Cx} {pins:List (Addr×Obj)} {σ:St} {H:Hp} {s:Shared} {a:Addr} {y:V} {o:Option V} (I:Inv X pins σ H s) (g:mO H a y o):s.TypeIs (.ref a) "dict":=by
 rcases g with ⟨aI,k,e,_,_⟩ | ⟨aI,k,b,e,_,_,_⟩
 ·obtain ⟨_,_,vs,_,dd⟩:=Ad I.bR e
  exact dd.typeIs
 ·obtain ⟨_,_,xs,_,dd⟩:=Ae I.bR e
  exact dd.typeIs
def K0 (td ty:TE):TE:=fun σ H Q=>td σ H fun x H1=>ty σ H1 fun y H2=> ∃a v,x= .ref a/\mO H2 a y (some v)/\Q v H2
def K1 (td ty tv:TE):TS:=fun D σ H=>tv σ H fun v H1=>td σ H1 fun x H2=>ty σ H2 fun y H3=> ∃a H4,x= .ref a/\qu H3 a y v H4/\D.nx σ H4
section
variable {X:Cx} {o i e value:Expr} {pos pos' Ka:Pos} {td ty tv:TE}
theorem lQ (hu:X.A.units+1<cLine) (ho:PE X o td) (hi:PE X i ty) (hs:KZ i):PE X (.Subscript o i pos) (K0 td ty):=by
 intro pins s σ H Q I h
 refine C_ PySem.F.slot_dict_getitem.lookup hs (bV (ho pins s σ H _ I h) fun u s1 ⟨x,H1,I1,rx,q1⟩=>bV (hi pins s1 σ H1 _ I1 q1) fun iv s2 ⟨y,H2,I2,ry,a,v,ex,g,q2⟩=>?_)
 subst ex
 obtain rfl:u=Value.ref a:=rx
 exact ⟨sL I2 g,yt hu I2 g ry fun w' s3 I3 p_=>⟨v,H2,I3,p_,q2⟩⟩
theorem qv (hu:X.A.units+1<cLine) (ho:PE X o td) (hi:PE X i ty) (hv:PE X value tv) (hs:swapsWith value (some (.Subscript o i pos')) pos.line X.env=pure false):
  PS X (.Assign [.Subscript o i pos'] value pos) (K1 td ty tv):=by
 intro pins s σ H D I h
 refine wpAny_Assign_Subscript (bV (hv pins s σ H _ I h) fun r s1 ⟨v,H1,I1,rv,q1⟩=>bV (ho pins s1 σ H1 _ I1 q1) fun u s2 ⟨x,H2,I2,rx,q2⟩=>bV (hi pins s2 σ H2 _ I2 q2) fun iv s3 ⟨y,H3,I3,ry,a,H4,ex,g,q3⟩=>?_) hs
 subst ex
 obtain rfl:u=Value.ref a:=rx
 exact yu hu I3 g ry rv fun s4 I4=>⟨σ,H4,I4,q3⟩
end
theorem Af {P:Program} {w:World} {H:Hp} (h:Heap) (hb:sysModules<h.objs.size):cw P w H (h.push { cls:= .type "dict",data:= .dict #[] }) h.objs.size (.dK []):=
 ⟨Ti _,beq_eq_false_iff_ne.mpr (Ne.symm (TY hb)),[], .nil,Heap.DictOf.new h⟩
theorem Ag {P:Program} {w:World} {H:Hp} (h:Heap) (hb:sysModules<h.objs.size):cw P w H (h.push { cls:= .type "dict",data:= .dict #[] }) h.objs.size (.dT []):=
 ⟨Ti _,beq_eq_false_iff_ne.mpr (Ne.symm (TY hb)),[], .nil,_, #[],0,TX _ rfl,⟨rfl,rfl,rfl⟩,rfl,rfl,List.nodup_nil⟩
def Gr:TE:=fun _ H Q=> ∀p,H p=none->Q (.ref p) (upd H p (.dK []))
def Gs:TE:=fun _ H Q=> ∀p,H p=none->Q (.ref p) (upd H p (.dT []))
section
variable {X:Cx} {pos:Pos}
theorem Ah:PE X (.Dict [] [] pos) Gr:=fun pins s σ H Q I h=>
 wpAny_Dict_empty ⟨.ref s.heap.objs.size,_,I.laid (a:=s.heap.objs.size) (o:= .dK []) (t':=s.toks) (fun _ _ q=>Pd _ q) (Mj _) (Af s.heap I.big),rfl,h _ (I.bR.fresh (Mj _))⟩
theorem Ai:PE X (.Dict [] [] pos) Gs:=fun pins s σ H Q I h=>
 wpAny_Dict_empty ⟨.ref s.heap.objs.size,_,I.laid (a:=s.heap.objs.size) (o:= .dT []) (t':=s.toks) (fun _ _ q=>Pd _ q) (Mj _) (Ag s.heap I.big),rfl,h _ (I.bR.fresh (Mj _))⟩
end
section
variable {X:Cx} {pins:List (Addr×Obj)} {σ:St} {H:Hp} {s:Shared} {a:Addr} {y d:V} {u r:Value} {o:Option V} {A:Around} {E:Value->Shared->Prop}
end
section
variable {X:Cx} {o e f:Expr} {apos gJ:Pos} {td ty tx:TE}
end
section
variable {X:Cx} {pins:List (Addr×Obj)} {σ:St} {H:Hp} {s:Shared} {a:Addr} {aI:List (Key×V)} {A:Around} {E:Value->Shared->Prop}
end
section
variable {X:Cx} {pins:List (Addr×Obj)} {σ:St} {H:Hp} {s:Shared} {a:Addr} {y:V} {u:Value} {A:Around} {E:Value->Shared->Prop}
end
section
variable {prog:Program} {w:World} {A:Around} {E:Value->Shared->Prop} {s:Shared}
end
section
variable {X:Cx}
end
end L2
set_option maxHeartbeats 1000000
namespace L2
open PySem PySem.Spec PyProof.Rows
section
variable {prog:Program} {w:World} {KK:Type} [DecidableEq KK] {knd:KeyKind prog w KK}
end
section
variable {X:Cx}
end
end L2
set_option maxHeartbeats 1000000
namespace L2.F2
open PySem PySem.Spec PyProof.Rows
end L2.F2
namespace L2
open PySem PySem.Spec PyProof.Rows
section
variable {prog:Program} {w:World} {A:Around} {E:Value->Shared->Prop} {s:Shared}
end
section
variable {X:Cx}
end
end L2
set_option maxHeartbeats 1000000
namespace L2
open PySem PySem.Spec PyProof.Rows
section
variable {prog:Program} {w:World} {A:Around} {E:Value->Shared->Prop} {s:Shared}
end
section
variable {X:Cx}
end
end L2
set_option maxHeartbeats 2000000
namespace L2
open PySem PySem.Spec PyProof.Rows
noncomputable def Cq (a b c d:Int):Bool:=if a=c then decide (b<d) else decide (a<c)
section
variable {prog:Program} {w:World} {A:Around} {E:Value->Shared->Prop} {s:Shared}
theorem Dc {p q:Addr} {ox oy:Obj} {mx my:Nat} {a b c d:Int} {t1 t2 t3 t4:Tok} {P:PySem.Fin->Shared->Prop} (Mo:s.heap.get? p=some ox) (N3:ox.data= .seq #[.int a t1, .int b t2] mx)
  (K2:s.heap.get? q=some oy) (Mp:oy.cls= .type "tuple") (N4:oy.data= .seq #[.int c t3, .int d t4] my) (h:P (.done (.ret (.bool (Cq a b c d)))) s):
  wpAny (model prog w) A (Builtin.«tuple.__lt__» ⟨[.ref p, .ref q],[]⟩) P E s:=by
 have hT:s.TypeIs (.ref q) "tuple":=⟨oy,K2,Mp⟩
 show wpAny _ _ (isInstance (.ref q) (.type "tuple") >>= fun b=>_) _ _ s
 refine wpAny_bind (wpAny_isInstance (b:=true) hT isSubtype_tuple_tuple ?_)
 simp only[Wu,Ve,if_false]
 refine wpAny_bind (wpAny_tupleItemsOf Mo N3 ?_)
 refine wpAny_bind (wpAny_tupleItemsOf K2 N4 ?_)
 refine wpAny_bind ?_
 show wpAny _ _ (forIn [(Value.int a t1,Value.int c t3),(Value.int b t2,Value.int d t4)] _ _) _ _ _
 rw[VL]
 refine wpAny_bind (wpAny_bind (wpAny_eqBool_int ?_))
 unfold Cq at h
 by_cases e:a=c
 ·rw[if_pos e]at h
  rw[show (a==c)=true by simp[e]]
  simp only[Wu,Ve,if_false]
  refine wpAny_pure ?_
  dsimp only
  rw[VL]
  refine wpAny_bind (wpAny_bind (wpAny_eqBool_int ?_))
  by_cases e2:b=d
  ·rw[show (b==d)=true by simp[e2]]
   simp only[Wu,Ve,if_false]
   refine wpAny_pure ?_
   dsimp only
   rw[List.forIn_nil]
   refine wpAny_pure ?_
   dsimp only
   refine wpAny_pure ?_
   rw[decide_eq_false (by omega)]at h
   exact h
  ·rw[show (b==d)=false by simp[e2]]
   simp only[WQ,if_true]
   refine wpAny_bind (wpAny_rule ?_)
   refine wpAny_bind (lt_int ?_)
   refine wpAny_bind (wpAny_pure ?_)
   refine wpAny_pure ?_
   dsimp only
   refine wpAny_pure ?_
   dsimp only
   exact wpAny_pure h
 ·rw[if_neg e]at h
  rw[show (a==c)=false by simp[e]]
  simp only[WQ,if_true]
  refine wpAny_bind (wpAny_rule ?_)
  refine wpAny_bind (lt_int ?_)
  refine wpAny_bind (wpAny_pure ?_)
  refine wpAny_pure ?_
  dsimp only
  refine wpAny_pure ?_
  dsimp only
  exact wpAny_pure h
end
section
variable {X:Cx}
def N5 (K:PySem.W.Frag):R2:=fun x y H Q=> ∃p q a b c d,x= .ref p/\y= .ref q/\cy K H p [.int a, .int b]/\cy K H q [.int c, .int d]/\Q (.bl (Cq a b c d)) H
theorem sM {a b:Int} {us:List Value} (r:Vals [.int a, .int b] us): ∃t u,us=[.int a t, .int b u]:=by
 cases r with
 | cons r1 r=>
  cases r with
  | cons r2 r=>
   cases r
   obtain ⟨t,rfl⟩:=r1
   obtain ⟨u,rfl⟩:=r2
   exact ⟨t,u,rfl⟩
theorem Gu {k:Nat} (K:PySem.W.Frag) (h:X.K=K) (hr:dR k X.A):jn X (compareOp .Lt) (N5 K):=by
 subst h
 intro pins s σ H x y v u Q I rx ry h
 obtain ⟨p,q,a,b,c,d,rfl,rfl,hp,hq,r⟩:=h
 cases rx
 cases ry
 obtain ⟨xs,Q5,px,_⟩:=I.tuple hp
 obtain ⟨ys,Q6,py,_⟩:=I.tuple hq
 obtain ⟨ox,Mo,NZ,mx,N3⟩:=px
 obtain ⟨oy,K2,Mp,my,N4⟩:=py
 obtain ⟨t1,t2,rfl⟩:=sM Q5
 obtain ⟨t3,t4,rfl⟩:=sM Q6
 have hu:=hr.units
 show wpAny _ _ (richCompare .Lt (.ref p) (.ref q)) _ _ s
 have hT:s.TypeIs (.ref p) "tuple":=⟨ox,Mo,NZ⟩
 refine wpAny_richCompare_same_room hT ⟨oy,K2,Mp⟩ PySem.F.slot_tuple_lt (wpAny_call_entry PySem.F.slot_tuple_lt hT PySem.F.entry_tuple_lt (Dc Mo N3 K2 Mp N4 ⟨_,rfl,(fun z=>nomatch z),?_⟩) (PySem.F.args_tuple_lt_2 _ _)) (by omega)
 exact ⟨.bl _,H,I,rfl,r⟩
end
section
variable {prog:Program} {w:World} {A:Around} {E:Value->Shared->Prop} {s:Shared}
end
section
variable {prog:Program} {w:World} {A:Around} {E:Value->Shared->Prop} {s:Shared}
end
section
variable {X:Cx}
end
section
variable {prog:Program} {w:World} {A:Around} {E:Value->Shared->Prop} {s:Shared}
end
section
variable {X:Cx}
end
section
variable {X:Cx}
end
section
variable {X:Cx} {st:Stmt} {rest:List Stmt} {t u:TS}
def N6 (t u:TS):TS:=fun D σ H=> ∃P:St->Hp->Prop,t { D with nx:=P } σ H/\ ∀σ' H',P σ' H'->u D σ' H'
theorem wR (h1:PS X st t) (h2:uu X rest u):uu X (st::rest) (N6 t u):=by
 intro pins s σ H D I h
 obtain ⟨P,h,g⟩:=h
 refine wpAny_execs_cons (bV (h1 pins s σ H _ I h) fun f s1 q=>?_)
 cases f with
 | ret v=>exact q
 | brk=>exact q
 | cont=>exact q
 | next=>
  obtain ⟨τ,G,J,p⟩:=q
  exact h2 pins s1 τ G D J (g τ G p)
end
section
variable {X:Cx}
end
section
variable {X:Cx}
end
section
variable {prog:Program} {w:World} {A:Around} {E:Value->Shared->Prop} {s:Shared}
section
variable {z TI TO i1 i2:Addr} {f1 f2:List Addr} {n1 n2 i:Nat} {P1 P2:Nat->Value->Prop} {S1 S2:Nat->Heap->Prop} {a b:Value}
end
end
section
variable {X:Cx} {elts:List Expr} {k:Nat} {pos':Pos} {a b:Expr} {ta:TA} {p pos:Pos}
end
section
variable {X:Cx}
end
end L2
namespace L2
open PySem PySem.Spec PyProof.Rows PySem.MeetsSeq PySem.SeqAt
section
variable {X:Cx}
end
end L2
set_option maxHeartbeats 4000000
namespace XL
open PySem PySem.Spec PySem.Calls PyProof.Rows PySem.W Builtin Builtin.ObjectAttr
section
variable {prog:Program} {w:World} {A:Around} {E:Value->Shared->Prop} {h:Heap} {g:Array GenState} {d:Drawn} {t:Nat} {os:OsState} {K:Frag} {C:Addr}
variable {x:Addr} {mA:Str->Option Value} {name:Str} {v:Value}
end
end XL
set_option maxHeartbeats 4000000
namespace XL
open PySem PySem.Spec PySem.Calls PyProof.Rows PySem.W Builtin Builtin.ObjectAttr
section
variable {prog:Program} {w:World} {A:Around} {E:Value->Shared->Prop} {h:Heap} {g:Array GenState} {d:Drawn} {t:Nat} {os:OsState} {K:Frag} {C x:Addr}
end
end XL
set_option maxHeartbeats 4000000
namespace XL
open PySem PySem.Spec PySem.Calls PyProof.Rows PySem.W
section
variable {M:Model} {A:Around} {E:Value->Shared->Prop} {s:Shared} {base:Heap} {env:Env} {outer:List Env} {L e C:Addr} {dO:Option Addr}
end
end XL
set_option maxHeartbeats 4000000
namespace L2
open PySem PySem.Spec PyProof.Rows XL
section
variable {P:Program} {w:World} {H H' H1 H2:Hp} {h h' h0 h1 h2:Heap} {a e:Addr} {o:HO} {fs ex S:List Addr}
end
section
variable {P:Program} {w:World} {K:PySem.W.Frag} {mg:Str->Option Value} {base:Heap} {N:List Str} {qual:Str} {scope:Scope} {f:Addr} {cd:Value} {A:Around} {outer:List Env} {s:Shared} {H:Hp} {E:XK}
end
end L2
set_option maxHeartbeats 4000000
namespace L2
open PySem PySem.Spec PyProof.Rows XL
section
variable {X:Cx} {pins:List (Addr×Obj)} {σ:St} {H:Hp} {s:Shared} {a:Addr} {o:HO}
end
section
variable {X:Cx} {CX:x_} {k:Nat} {f C:Addr} {fd:FuncData} {ps:List Str} {sp:Sp} {dvs:List V} {ds:List Value} {E:St->XK} {x:Str} {p pos:Pos} {e:Expr} {es:List Expr} {ta te:TE} {t:TA}
end
section
variable {P:Program} {w:World} {K:PySem.W.Frag} {mg:Str->Option Value} {base:Heap}
end
end L2
set_option maxHeartbeats 4000000
namespace L2
open PySem PySem.Spec PyProof.Rows XL
section
variable {X:Cx} {k:Nat} {f C M:Addr} {fd:FuncData} {ps:List Str} {sp:Sp} {x:Str} {p pos apos:Pos} {e:Expr} {es:List Expr} {ta te tv:TE} {t:TA} {pins:List (Addr×Obj)} {σ:St} {H:Hp} {s:Shared}
end
end L2
set_option maxHeartbeats 4000000
namespace L2
open PySem PySem.Spec PyProof.Rows XL
section
variable {X:Cx} {pins pn:List (Addr×Obj)} {σ:St} {H:Hp} {s:Shared} {W:Value->Shared->Prop} {ev:Value}
end
section
variable {X:Cx} {M:Addr} {n:Nat} {mx nm:Str} {body Pp:List Stmt} {b₀:Stmt} {tb:(St->XK)->TS} {th:TS} {pos Aj mp:Pos} {pins:List (Addr×Obj)} {σ:St} {H:Hp} {s:Shared} {D:Ends}
end
end L2
set_option maxHeartbeats 4000000
namespace L2
open PySem PySem.Spec PyProof.Rows XL
noncomputable def Pq (s:Stmt) (j:Nat):Stmt:=match s with
 | .ClassDef _ _ _ b _ _ _ _ _ _ _=>b.getD j (.Pass ⟨0,0,0,0⟩)
 | _=> .Pass ⟨0,0,0,0⟩
end L2
set_option maxHeartbeats 4000000
namespace L2
open PySem PySem.Spec PyProof.Rows XL
def K3 (_ j:Int):Prop:=0<j/\j<18446744073709551616
theorem cO {X:Cx}:jn X (binaryOp .FloorDiv) (rI K3 fun i j=> .int (i / j)):=Me fun i j _ _ _ _ _ hc q=>by
 have h1:(0:Int)<j:=hc.1
 have h2:j<18446744073709551616:=hc.2
 have h3:j.natAbs<2 ^ 64:=by omega
 exact floordiv_int (by omega) (by rw[Int.fdiv_eq_ediv_of_nonneg i (by omega)];exact q) (.inl (PyProof.noPylong_of_log2 (Vl ((Nat.log2_lt (by omega)).mpr h3) (by decide))))
end L2
namespace PySem
end PySem
namespace L2
open PySem PySem.Spec PyProof.Rows
section
variable {P:Program} {w:World} {K:PySem.W.Frag} {mg:Str->Option Value} {base:Heap}
end
section
variable {X:Cx}
end
section
variable {X:Cx}
end
end L2
set_option maxHeartbeats 1000000
namespace L2.F3
open PySem PySem.Spec PyProof.Rows
end L2.F3
namespace L2
open PySem PySem.Spec PyProof.Rows
section
variable {prog:Program} {w:World} {A:Around} {E:Value->Shared->Prop} {s:Shared}
end
section
variable {X:Cx}
end
section
variable {P:Program} {w:World} {K:PySem.W.Frag} {mg:Str->Option Value} {base:Heap}
end
section
variable {X:Cx}
noncomputable def dg (n:Nat):List Nat:=((toString (n:Int):String):Str).cps.toList
theorem N7 (n:Nat):((toString (n:Int):String):Str)=S (dg n):=Kz _
theorem yv {n:Nat} (h:n<2 ^ 60):((n:Int)).natAbs.log2<1920:=by
 rw[Int.natAbs_natCast]
 by_cases z:n=0
 ·subst z;decide
 ·exact (Nat.log2_lt z).mpr (T1 h (Nat.pow_le_pow_right (by decide) (by decide)))
theorem yw:de X (.type "str") (fun xs H Q=> ∃n:Nat,xs=[.int n]/\n<2 ^ 60/\Q (.str (S (dg n))) H):=by
 intro pins s σ H xs us Q I r h
 obtain ⟨n,rfl,hz,q⟩:=h
 refine qb pins s σ H _ us Q I r ⟨n,rfl,yv hz,?_⟩
 rw[N7]
 exact q
end
section
variable {X:Cx} {elts:List Expr} {k:Nat} {pos':Pos} {a b:Expr} {ta:TA} {p pos:Pos}
end
end L2
set_option maxHeartbeats 1000000
namespace L2
open PySem PySem.Spec PyProof.Rows
theorem sN:typeLookup (.type "dict") "__len__"=pure (some (.builtin "dict.__len__")):=PySem.F.slot_dict_len.lookup
section
variable {prog:Program} {w:World} {A:Around} {E:Value->Shared->Prop} {s:Shared} {KK:Type} [DecidableEq KK] {knd:PySem.KeyKind prog w KK}
theorem qw {Q:List Value->Shared->Prop} (hh:A.handled=none) (d:Addr) (aI:List (KK×Value)) (ep:Nat) (hd:(d==sysModules)=false) (hm:s.heap.DictAt knd d aI ep) (hn:aI.length<=sizeLine)
  (hQ: ∀s' acc,(∀b o,s.heap.get? b=some o->s'.heap.get? b=some o)->s'.gens=s.gens->s'.drawn=s.drawn->s'.os=s.os->ItemsOf (fun i v=> ∃k x,aI[i]? =some (k,x)/\knd.is k v=true) acc aI.length->Q acc.toList s'):
  wpAny (model prog w) A (collect (.ref d)) Q E s:=by
 have hT:s.TypeIs (.ref d) "dict":=hm.dictOf.typeIs
 obtain ⟨od,K4,Q7⟩:=id hT
 have K5:=To K4
 unfold collect
 refine wpAny_bind (wpAny_runValue (codeAny_builtin PySem.F.entry_proto_collect ?_))
 rw[Around.under_plainId PySem.F.plain_proto_collect _]
 show wpAny _ A.in1 (newList [] >>= fun l=>again (.builtin "list.__iadd__" ⟨[l, .ref d],[]⟩)) _ _ s
 refine wpAny_bind (wpAny_newObj_type ?_)
 refine wpAny_pure ⟨plainId_quiet PySem.F.plain_list_iadd _,codeAny_builtin PySem.F.entry_list_iadd ?_⟩
 rw[Around.under_plainId PySem.F.plain_list_iadd _]
 show wpAny _ A.in1 (Builtin.List.listExtendWith (.ref s.heap.objs.size) (.ref d) (.ref s.heap.objs.size)) _ _ _
 generalize hH:s.heap.push { cls:= .type "list",data:= .seq ([]:List Value).toArray }=H
 have N8:H.objs.size=s.heap.objs.size+1:=by rw[<-hH,VH]
 have K6:H.DictAt knd d aI ep:=hm.at' fun o e=>by rw[<-hH];exact Pd _ e
 have Q8:Shared.TypeIs { s with heap:=H } (.ref d) "dict":=K6.dictOf.typeIs
 have N9:s.heap.objs.size≠d:=V9 K5
 unfold Builtin.List.listExtendWith
 refine wpAny_bind (wpAny_typeOf Q8 ?_)
 have h1:Builtin.List.listSameRef (.ref s.heap.objs.size) (.ref d)=false:=by simp[Builtin.List.listSameRef,N9]
 rw[if_neg (by rw[h1];decide)]
 refine wpAny_bind (wpAny_pyIter_dict (s:={ s with heap:=H }) hd K6 ?_)
 show wpAny _ A.in1 _ _ _ { s with heap:=H.push { cls:= .type "dict_keyiterator",data:= .fields #[.ref d, .int 0 0, .int aI.length 0, .int ep 0] } }
 generalize EE:H.push { cls:= .type "dict_keyiterator",data:= .fields #[.ref d, .int 0 0, .int aI.length 0, .int ep 0] }=H2
 have Dd:H2.DictAt knd d aI ep:=K6.at' fun o e=>by rw[<-EE];exact Pd _ e
 have N_:Shared.TypeIs { s with heap:=H2 } (.ref d) "dict":=Dd.dictOf.typeIs
 refine wpAny_bind (wpAny_holding ?_)
 unfold Builtin.List.listLengthHint
 refine wpAny_bind (wpAny_specialOf N_ sN ?_)
 wp_delta
 refine wpAny_bind (wpAny_isInstance (T:="dict") (b:=true) N_ (by rw[isSubtype_type];kernel_rfl) ?_)
 show wpAny _ A.in1 (typeOf (Value.ref d) >>= _) _ _ _
 refine wpAny_bind (wpAny_typeOf N_ ?_)
 refine wpAny_pure ?_
 rw[if_pos (by decide+kernel)]
 refine wpAny_bind (wpAny_rule ?_)
 refine wpAny_bind ?_
 unfold Builtin.List.listTouch
 have hS:H2.get? s.heap.objs.size=some { cls:= .type "list",data:= .seq ([]:List Value).toArray }:=by
  rw[<-EE];exact Pd _ (by rw[<-hH];exact TX _ rfl)
 refine wpAny_bind (wpAny_updateSeq hS rfl ?_ (Ti _) (UU (Ti _)))
 have Pu:=UN (Obj.mapSeq (fun l:Array Value=>l.push .none)) hS rfl
 refine wpAny_updateSeq Pu rfl ?_ (by show 1<=sizeLine;decide) (Ti _)
 have Q9:=UN (Obj.mapSeq (fun l:Array Value=>l.pop)) Pu rfl
 have Oa: ∀b o,b≠s.heap.objs.size->H2.get? b=some o->((H2.update s.heap.objs.size (Obj.mapSeq (fun l:Array Value=>l.push .none))).update s.heap.objs.size (Obj.mapSeq (fun l:Array Value=>l.pop))).get? b=some o:=fun b o hb e=>
  (Ur _ _ (Ne.symm hb)).trans ((Ur _ _ (Ne.symm hb)).trans e)
 have hit:H2.get? H.objs.size=some { cls:= .type "dict_keyiterator",data:= .fields #[.ref d, .int 0 0, .int aI.length 0, .int ep 0] }:=by rw[<-EE];exact TX _ rfl
 have Pw:H.objs.size≠s.heap.objs.size:=by rw[N8];exact VZ _
 have Q_:d≠H.objs.size:=by rw[N8];exact TY (Vg K5)
 have Ra:s.heap.objs.size∉[H.objs.size,d]:=fun Rb=>by
  rcases QS.mp Rb with z | z
  ·exact Pw z.symm
  ·exact N9 (QU.mp z)
 refine wpAny_pure ⟨plainId_quiet PySem.F.plain_extend_loop _,codeAny_extend_loopS (Walks.dictKeys (knd:=knd) (A:=A.in1) hh H.objs.size d Q_ aI ep).toS hn _ Ra _ aI.length 0 _ _ _ rfl (Ti _)
  ⟨⟨_,Oa _ _ Pw hit,rfl,rfl⟩,Dd.at' fun o e=>Oa d o (Ne.symm N9) e⟩ Q9 (ItemsOf.nil _) fun s' dD c' Mq Rc uR=>?_⟩
 show wpAny _ A (load s.heap.objs.size >>= _) _ _ s'
 refine wpAny_bind (wpAny_load Rc ?_)
 refine wpAny_pure (hQ s' dD (fun b ob e=>Mq.heap b ob (fun hb=>?_) (Oa b ob (TY (To e)) (by rw[<-EE];exact Pd _ (by rw[<-hH];exact Pd _ e)))) Mq.gens Mq.drawn Mq.os uR)
 have dc:=To e
 rcases QS.mp hb with h | h
 ·exact absurd dc (h▸Ut _)
 ·rw[QU.mp h,N8]at dc;exact absurd dc (Nat.not_lt.mpr (U9 _))
end
section
variable {X:Cx}
theorem wU {aI:List (Key×V)} {vs:List (Key×Value)} (h:KV aI vs):vs.map (·.1)=aI.map (·.1):=by
 induction h with
 | nil=>rfl
 | cons r _ ih=>rw[TV,TV,ih,r.1]
end
section
variable {X:Cx}
end
end L2
set_option maxHeartbeats 4000000
namespace XL
open PySem PySem.Spec PySem.Calls PyProof.Rows PySem.W
section
variable {M:Model} {A:Around} {E:Value->Shared->Prop} {s:Shared} {base:Heap} {env Rf:Env} {outer:List Env} {L e C:Addr} {dO:Option Addr}
end
end XL
set_option maxHeartbeats 4000000
namespace L2
open PySem PySem.Spec PyProof.Rows XL
section
variable {P:Program} {w:World} {K:PySem.W.Frag} {mg:Str->Option Value} {base:Heap} {N:List Str} {qual:Str} {scope:Scope} {f:Addr} {cd:Value} {A:Around} {outer:List Env} {s:Shared} {H:Hp} {E:XK}
end
section
variable {X:Cx} {scope:Scope} {C:Addr} {Nc:List Str} {s0:Shared} {H0:Hp} {fp:List Addr} {pn pins:List (Addr×Obj)} {xe:Value->Shared->Prop} {σ:St} {H:Hp} {s:Shared}
end
end L2
set_option maxHeartbeats 1000000
namespace L2
open PySem PySem.Spec PyProof.Rows
section
variable {X:Cx}
end
section
variable {X:Cx}
end
end L2
namespace PySem
open Sem (wp)
section
variable {prog:Program} {w:World} {K:Type} [DecidableEq K] (knd:KeyKind prog w K)
variable {knd}
variable {A:Around} {E:Value->Shared->Prop} {s:Shared}
end
end PySem
namespace PySem
open Sem (wp)
namespace F
end F
section
variable {prog:Program} {w:World} {A:Around} {E:Value->Shared->Prop} {s:Shared}
end
section
variable {prog:Program} {w:World} {K:Type} [DecidableEq K] {knd:HeapKind prog w K} {A:Around} {E:Value->Shared->Prop} {s:Shared}
end
end PySem
namespace L2
open PySem PySem.Spec PyProof.Rows
section
variable {X:Cx} {o i:Expr} {pos:Pos} {td ty:TE}
end
end L2
namespace L2.F2
open PySem PySem.Spec PyProof.Rows
end L2.F2
namespace L2
open PySem PySem.Spec PyProof.Rows
section
variable {prog:Program} {w:World} {A:Around} {E:Value->Shared->Prop} {s:Shared}
end
section
variable {X:Cx} {tg:Expr}
end
end L2
set_option maxHeartbeats 1000000
namespace L2
open PySem PySem.Spec PyProof.Rows
section
variable {X:Cx}
theorem Ak {i:Nat} (h:(i:Int)<2 ^ 63):Builtin.List.listFitsIndex (i:Int)=true:=by
 unfold Builtin.List.listFitsIndex
 rw[UJ]
 exact ⟨decide_eq_true (by omega),decide_eq_true (by omega)⟩
def De:V->List V->Hp->VK->Prop:=fun x vs H Q=> ∃(l:Addr) (xs:List V) (i:Nat) (y:V),x= .ref l/\vs=[.int i,y]/\H l=some (.lst xs)/\i<=xs.length/\xs.length<sizeLine/\Q .gB (upd H l (.lst (xs.take i++y::xs.drop i)))
theorem yy:Ko X "list.insert" De:=by
 intro pins s σ H x vs v us Q I rx rv h
 obtain ⟨l,xs,i,y,rfl,rfl,hH,hi,hz,q⟩:=h
 cases rx
 obtain ⟨a,b,rfl,⟨t,rfl⟩,rb⟩:=vals2 rv
 obtain ⟨z,aJ,n,r,hl,e⟩:=I.zN hH
 have hn:=eT
 have hf: ¬(!Builtin.List.listFitsIndex (i:Int))=true:=by rw[Ak (by omega)];decide
 have hsz:aJ.toArray.size<=sizeLine:=by rw[QR];omega
 generalize hI:(i:Int)=I' at hf
 have hm:=PySem.AutoSeq1.list_insert_list_int_val_1 l aJ.toArray n I' t b hf hsz
 refine call_meets F.slot_list_insert ⟨_,e,rfl⟩ F.entry_list_insert (F.args_list_insert_3 _ _ _) hm ⟨e,?_⟩
 clear hm
 refine ⟨.gB,_,I.zM (its':=aJ.take i++b::aJ.drop i) hH e ?_ ?_ ?_,rfl,q⟩
 ·have e1:(if I'<0 then (I'+(aJ.toArray.size:Int)).toNat else min I'.toNat aJ.toArray.size)=i:=by rw[<-hI,if_neg (by omega),Pj,QR];omega
  show ((aJ.toArray.extract 0 (if I'<0 then (I'+(aJ.toArray.size:Int)).toNat else min I'.toNat aJ.toArray.size)).push b++aJ.toArray.extract (if I'<0 then (I'+(aJ.toArray.size:Int)).toNat else min I'.toNat aJ.toArray.size))=_
  rw[e1]
  apply V2.mp
  simp
  exact Uc (by rw[T6];exact Mj _)
 ·have h1:Vals (xs.take i) (aJ.take i):=r.take i
  exact h1.append (.cons rb (r.drop i))
 ·rw[Tn,Uu,T4,T6];omega
end
end L2
namespace L2
open PySem PySem.Spec PyProof.Rows PySem.W
section
section
variable {lt:Nat->Nat->Bool} {n:Nat}
end
end
section
variable {prog:Program} {w:World} {A:Around} {E:Value->Shared->Prop} {s:Shared}
end
section
variable {X:Cx}
end
section
variable {X:Cx} {tg:Expr}
end
section
variable {X:Cx} {tg:Expr}
end
end L2
namespace L2
open PySem PySem.Spec PyProof.Rows PySem.MeetsSeq PySem.SeqAt
section
variable {X:Cx}
end
section
variable {prog:Program} {w:World} {A:Around} {E:Value->Shared->Prop} {s:Shared}
variable {z TI TO i1 i2:Addr} {f1 f2:List Addr} {n1 n2 i:Nat} {P1 P2:Nat->Value->Prop} {S1 S2:Nat->Heap->Prop} {a b:Value}
end
section
variable {X:Cx} {nx:Str} {pos':Pos} {a b:Expr} {ta:TA} {p pos:Pos}
end
end L2
namespace L2
open PySem PySem.Spec PyProof.Rows HT
section
variable {prog:Program} {w:World} {A:Around} {E:Value->Shared->Prop} {s:Shared}
end
section
variable {X:Cx}
end
section
variable {X:Cx} {o i e value tg:Expr} {pos pos' Ka:Pos} {td ty tv:TE} (K:PySem.W.Frag) (P:Program) (w:World)
end
section
variable {X:Cx}
end
section
variable {X:Cx}
end
section
variable {X:Cx} {tg:Expr}
end
end L2
set_option maxHeartbeats 1000000
namespace L2
open PySem PySem.Spec PyProof.Rows
section
variable {prog:Program} {w:World} {A:Around} {E:Value->Shared->Prop} {s:Shared}
end
section
variable {X:Cx} {a b:Expr} {ta:TA} {p p2 pos Rg:Pos}
end
end L2
set_option maxHeartbeats 1000000
namespace L2
open PySem PySem.Spec PyProof.Rows
section
variable {prog:Program} {w:World} {A:Around} {E:Value->Shared->Prop} {s:Shared} {κ:KeyKind} {a₀:Array Keyed}
end
section
variable {prog:Program} {w:World} {A:Around} {E:Value->Shared->Prop} {s:Shared} {κ:KeyKind} {a₀:Array Keyed}
end
end L2
set_option maxHeartbeats 1000000
namespace L2
open PySem PySem.Spec PyProof.Rows
section
variable {prog:Program} {w:World} {A:Around} {E:Value->Shared->Prop} {s:Shared} {κ:KeyKind} {a₀:Array Keyed}
end
section
variable {prog:Program} {w:World} {A:Around} {E:Value->Shared->Prop} {s:Shared} {κ:KeyKind} {a₀:Array Keyed}
end
end L2
set_option maxHeartbeats 1000000
namespace L2
open PySem PySem.Spec PyProof.Rows
section
variable {prog:Program} {w:World} {A:Around} {E:Value->Shared->Prop} {s:Shared}
end
section
variable {X:Cx}
end
end L2
set_option maxHeartbeats 1000000
namespace L2
open PySem PySem.Spec PyProof.Rows
section
variable {X:Cx}
end
end L2
set_option maxHeartbeats 1000000
namespace L2
open PySem PySem.Spec PyProof.Rows
section
variable {prog:Program} {w:World} {A:Around} {E:Value->Shared->Prop} {s:Shared} {kd:SortKind} {lt:Keyed->Keyed->Bool} {a₀:Array Keyed}
end
end L2
set_option maxHeartbeats 1000000
namespace L2
open PySem PySem.Spec PyProof.Rows
section
variable {lt:Keyed->Keyed->Bool}
variable {a b out:Array Keyed} {ia ib k:Nat} {p q:Keyed}
end
section
variable {prog:Program} {w:World} {A:Around} {E:Value->Shared->Prop} {s:Shared} {kd:SortKind} {lt:Keyed->Keyed->Bool} {a₀:Array Keyed}
end
end L2
set_option maxHeartbeats 1000000
namespace L2
open PySem PySem.Spec PyProof.Rows
section
variable {lt:Keyed->Keyed->Bool}
variable {a b out:Array Keyed} {na nb k:Nat} {p q:Keyed}
end
section
variable {prog:Program} {w:World} {A:Around} {E:Value->Shared->Prop} {s:Shared} {kd:SortKind} {lt:Keyed->Keyed->Bool} {a₀:Array Keyed}
end
end L2
set_option maxHeartbeats 1000000
namespace L2
open PySem PySem.Spec PyProof.Rows
section
variable {lt:Keyed->Keyed->Bool}
end
section
variable {prog:Program} {w:World} {A:Around} {E:Value->Shared->Prop} {s:Shared} {kd:SortKind} {lt:Keyed->Keyed->Bool} {a₀:Array Keyed}
end
section
variable {prog:Program} {w:World} {A:Around} {E:Value->Shared->Prop} {s:Shared} {kd:SortKind} {lt:Keyed->Keyed->Bool} {a₀:Array Keyed}
end
end L2
set_option maxHeartbeats 1000000
namespace L2
open PySem PySem.Spec PyProof.Rows
section
variable {prog:Program} {w:World} {A:Around} {E:Value->Shared->Prop} {s:Shared} {kd:SortKind} {lt:Keyed->Keyed->Bool} {a₀:Array Keyed}
end
end L2
set_option maxHeartbeats 1000000
namespace L2
open PySem PySem.Spec PyProof.Rows
theorem qx: ∀a b c:List Int,bu b a=false->bu c b=false->bu c a=false
 | [],[],[],_,_=>rfl
 | [],[],_::_,_,h=>h
 | [],_::_,[],_,_=>rfl
 | [],_::_,_::_,_,_=>rfl
 | _::_,[],_,h,_=>by cases h
 | _::_,_::_,[],_,h=>by cases h
 | x::a,y::b,z::c,h,g=>by
  have h':(if y=x then bu b a else decide (y<x))=false:=h
  have g':(if z=y then bu c b else decide (z<y))=false:=g
  show (if z=x then bu c a else decide (z<x))=false
  by_cases e1:y=x
  ·rw[if_pos e1]at h'
   by_cases e2:z=y
   ·rw[if_pos e2]at g'
    rw[if_pos (e2.trans e1)]
    exact qx a b c h' g'
   ·rw[if_neg e2]at g'
    rw[if_neg fun w=>e2 (w.trans e1.symm), <-e1]
    exact g'
  ·rw[if_neg e1]at h'
   have q1:=of_decide_eq_false h'
   by_cases e2:z=y
   ·rw[if_neg fun w=>e1 (e2.symm.trans w),e2];exact h'
   ·rw[if_neg e2]at g'
    have q2:=of_decide_eq_false g'
    rw[if_neg (by omega)]
    exact decide_eq_false (by omega)
section
variable {prog:Program} {w:World} {A:Around} {E:Value->Shared->Prop} {s:Shared}
end
section
variable {X:Cx}
end
section
variable {X:Cx} {e st:Expr} {te:TE} {ts:TO} {pos p2:Pos}
theorem yA (l:List Nat) (t tk:Tok):sliceMade (S l) t none none (some (-1,tk))= .str (S l.reverse):=by
 unfold sliceMade
 rw[if_neg (by simp)]
 have e:slicePicked (S l) none none (some (-1,tk))=(List.range (S l).cps.size).reverse:=by
  rw[<-PySem.W.krv_range, <-PySem.W.krv_sliceRange]
  rfl
 rw[e,List.filterMap_reverse,PySem.W.krv_all,eU]
 rfl
def K7 (te:TE) (ts:TO):TE:=fun σ H Q=>te σ H fun x H1=>ts σ H1 fun o H2=>o=some (-1)/\ ∃l,x= .str (S l)/\l.length<=sizeLine/\Q (.str (S l.reverse)) H2
theorem Df (he:PE X e te) (hs:PO X (some st) ts):PE X (.Subscript e (.Slice none none (some st) p2) pos) (K7 te ts):=by
 intro pins s σ H Q I h
 refine Subscript_ (bV (he pins s σ H _ I h) fun v s1 ⟨x,H1,I1,r1,q1⟩=>?_)
 refine wpAny_Slice ?_
 rw[evalPart_none]
 refine wpAny_pure (wpAny_pure (bV (hs pins s1 σ H1 _ I1 q1) fun vk s3 ⟨o,H3,I3,pk,eo,l,ex,hz,q3⟩=>?_))
 subst eo ex
 obtain ⟨t,rfl⟩:=r1
 cases pk with
 | int i tk=>
 have I4:Inv X pins σ H3 { s3 with heap:=s3.heap.push { cls:= .type "slice",data:= .fields #[.none, .none, .int (-1) tk] } }:=I3.kept (t':=s3.toks) fun b ob q=>Pd _ q
 show wpAny (model X.prog X.w) X.A (subscriptTail e (.Slice none none (some st) p2) (.str (S l) t) (.ref s3.heap.objs.size)) (EP X pins σ Q) X.xe { s3 with heap:=s3.heap.push { cls:= .type "slice",data:= .fields #[.none, .none, .int (-1) tk] } }
 refine tail_any (ops:=[.str (S l) t, .ref s3.heap.objs.size]) (typeIs_str _ _ _) F.slot_str_getitem.lookup (wpAny_getItem_str_slice (l:=none) (u:=none) (st:=some (-1,tk)) ⟨_,TX _ rfl,rfl,rfl⟩ rfl ?_) (by with_unfolding_all rfl)
 rw[yA]
 refine ⟨by rw[cI,Ul];exact hz,?_⟩
 exact ⟨.str (S l.reverse),H3,I4.tok _,⟨_,rfl⟩,q3⟩
end
end L2
namespace PySem
open PySem.Spec PyProof.Rows
section
variable {M:Model} {A:Around} {E:Value->Shared->Prop} {s₀ s:Shared} {m cm:Str->Option Value} {env:Env}
end
end PySem
namespace L2
open PySem PySem.Spec PyProof.Rows
section
variable {P:Program} {w:World} {K:PySem.W.Frag} {mg:Str->Option Value} {base:Heap}
end
section
variable {X:Cx} {n:Nat} {p:Value->Shared->Prop}
end
section
variable {X:Cx}
end
section
variable {X:Cx}
end
section
variable {X:Cx}
end
section
variable {X:Cx}
end
section
variable {X:Cx}
end
end L2
set_option maxHeartbeats 1000000
namespace L2
open PySem PySem.Spec PyProof.Rows
section
variable {prog:Program} {w:World} {A:Around} {E:Value->Shared->Prop} {s:Shared}
end
section
variable {X:Cx}
end
section
variable {X:Cx}
end
section
variable {X:Cx}
end
section
variable {X:Cx}
end
end L2
set_option maxHeartbeats 4000000
namespace L2
open PySem PySem.Spec PyProof.Rows
section
variable {X:Cx} {K:PySem.W.Frag} {CX:x_} {k1 k2:Nat} {f1 f2:Addr} {Px Py:FuncData} {Pz PB:List Str} {Mr Ms:Sp} {E:XK} {x f:Str} {p pos pos':Pos} {e o value:Expr} {es:List Expr} {ta tv:TE} {t:TA}
theorem bB (K:PySem.W.Frag) (hK:X.K=K) (he:PE X e ta) (hb:attributeBase e f X.env (eval e X.env)=eval e X.env):PE X (.Attribute e f pos) (J_ K ta f):=by subst hK;exact FE he hb
def Al (f1 f2:Addr) (Mr Ms:Sp) (E:XK) (ta:TE) (t:TA):TE:=fun σ H Q=>ta σ H fun v H1=>(v= .ref f1/\t σ H1 fun vs H2=>Mr vs H2 Q E)\/(v= .ref f2/\t σ H1 fun vs H2=>Ms vs H2 Q E)
theorem jy (hf:PE X (.Name x p) ta) (F1:bC X.prog X.w X.K X.mg X.base CX k1 f1 Px Pz Mr) (EL:dR k1 X.A) (Rh:PySem.W.keepIn X.K (.ref f1)=true) (Cr:Binds X.K Px Pz []) (F2:bC X.prog X.w X.K X.mg X.base CX k2 f2 Py PB Ms) (HZ:dR k2 X.A) (zm:PySem.W.keepIn X.K (.ref f2)=true) (rM:Binds X.K Py PB []) (hx:Passes CX X E)
  (ha:PA X (e::es) t) (he:starEach (e::es) X.env=(false,eval e X.env)::starEach es X.env:=by rfl) (jV:(backTo pos (starEach es X.env)).any (·.1)=false:=by rfl):
  PE X (.Call (.Name x p) (e::es) [] pos) (Al f1 f2 Mr Ms E ta t):=by
 intro pins s σ H Q I h
 refine wpAny_Call_Name_kw (bV (hf pins s σ H _ I h) fun u s1 ⟨v,H1,I1,r,q⟩=>?_)
 rcases q with ⟨rfl,q⟩ | ⟨rfl,q⟩
 ·obtain rfl:u=Value.ref f1:=r
  refine VS (h₀:=X.base) I1.ok.mod.HS Rh (bV (ha pos pins s1 σ H1 _ I1 q) fun us s2 ⟨vs,H2,I2,r2,q2⟩=>⟨I2.xW,?_⟩) he jV
  exact uI (dvs:=[]) (ds:=[]) F1 EL Cr .nil hx I2 r2 (by rw[UH];exact q2)
 ·obtain rfl:u=Value.ref f2:=r
  refine VS (h₀:=X.base) I1.ok.mod.HS zm (bV (ha pos pins s1 σ H1 _ I1 q) fun us s2 ⟨vs,H2,I2,r2,q2⟩=>⟨I2.xW,?_⟩) he jV
  exact uI (dvs:=[]) (ds:=[]) F2 HZ rM .nil hx I2 r2 (by rw[UH];exact q2)
end
end L2
set_option maxHeartbeats 4000000
namespace L2
open PySem PySem.Spec PyProof.Rows
section
variable {prog:Program} {w:World} {A:Around} {E:Value->Shared->Prop} {R:Result->Shared->Prop} {I S:Addr} {fp wr:List Addr} {n:Nat} {P:Nat->Value->Prop} {St:Nat->Heap->Prop} {kw:List (Str×Value)} {bt:Nat->Nat->Bool}
theorem wV:(toString "max"++toString ".loop":String)="max.loop":=by decide
theorem K8 (W:Walks prog w A.in1 I fp wr n P St) (cm:CmpOf prog w A.in1 .Gt P bt) (sf:S∉fp): ∀(m j:Nat) (s:Shared) (b:Value) (c:Nat),n=j+1+m->St (j+1) s.heap->P (argBest bt j) b->s.heap.get? S=some { cls:= .type "list",dict:=none,data:= .seq #[b,b] c,slots:= #[] }->
  (∀v h' tk,P (argBest bt (n - 1)) v->(∀a o,a∉wr->a≠S->s.heap.get? a=some o->h'.get? a=some o)->R (.ok (.ret v)) { s with heap:=h',toks:=tk })->
  codeAny (model prog w) A (.builtin "max.loop" ⟨[.ref I, .none, .ref S],kw⟩) R s:=by
 have sw:S∉wr:=fun z=>sf (W.sub _ z)
 intro m
 induction m with
 | zero=>
  intro j s b c en kN hb hS hR
  have e1:n=j+1:=en
  subst e1
  refine codeAny_builtin V7 ?_
  rw[Around.under_plainId UO _]
  refine wpAny_bind (m:=seqItems? (.ref S)) (wpAny_seqItems hS rfl ?_)
  refine wpAny_bind (m:=tryCatch (pyNext (.ref I)) _) (wpAny_tryCatch (W.done s _ _ kN fun h1 tk k1=>?_))
  refine wpAny_bind (m:=updateSeq S fun _=> #[]) (wpAny_updateSeq (k1 S _ sw hS) rfl (wpAny_bind (wpAny_letGo (wpAny_pure ?_))))
  exact hR b _ tk hb fun a o aw aS ea=>(Ur _ _ (Ne.symm aS)).trans (k1 a o aw ea)
 | succ m ih=>
  intro j s b c en kN hb hS hR
  refine codeAny_builtin V7 ?_
  rw[Around.under_plainId UO _]
  refine wpAny_bind (m:=seqItems? (.ref S)) (wpAny_seqItems hS rfl ?_)
  refine wpAny_bind (m:=tryCatch (pyNext (.ref I)) _) (wpAny_tryCatch (W.item (j+1) s _ _ (by omega) kN fun v h1 tk pv uh k1=>?_))
  have H_:=k1 S _ sw hS
  refine wpAny_bind (m:=tryCatch (holding [v,v] (richCompare .Gt v b >>= _)) _) (wpAny_tryCatch (wpAny_holding (wpAny_bind (cm (j+1) (argBest bt j) v b _ _ _ pv hb (wpAny_bind (wpAny_holding (wpAny_truthy_bool (wpAny_bind (wpAny_letGo (wpAny_pure ?_))))))))))
  cases q:bt (j+1) (argBest bt j)
  ·rw[if_neg (by decide)]
   refine wpAny_bind (wpAny_letGo ?_)
   rw[wV]
   refine wpAny_pure ⟨plainId_quiet UO _,ih (j+1) _ b c (by omega) uh (by rw[argBest,q];exact hb) H_ fun v' h2 K9 p2 k2=>?_⟩
   exact hR v' h2 K9 p2 fun a o aw aS ea=>k2 a o aw aS (k1 a o aw ea)
  ·rw[if_pos rfl]
   refine wpAny_bind (wpAny_updateSeq H_ rfl (wpAny_bind (wpAny_letGo ?_)))
   rw[wV]
   refine wpAny_pure ⟨plainId_quiet UO _,ih (j+1) _ v _ (by omega) (W.frame _ _ _ uh fun a af o ea=>?_) (by rw[argBest,q];exact pv) (UN _ H_ rfl) fun v' h2 K9 p2 k2=>?_⟩
   ·exact (Ur _ _ (fun z:S=a=>sf (z▸af))).trans ea
   ·exact hR v' h2 K9 p2 fun a o aw aS ea=>k2 a o aw aS ((Ur _ _ (Ne.symm aS)).trans (k1 a o aw ea))
theorem K_ (a d:Value):argsOk "max" ⟨[a],[(Str.ofString "default",d)]⟩:=by unfold argsOk;kernel_rfl
theorem Dg {s:Shared} {x d:Value} {Q:Value->Shared->Prop}
  (h:wpAny (model prog w) A.in1 (pyIter x) (fun it s₂=> ∃I fp wr n P St bt,it= .ref I/\Walks prog w A.in1 I fp wr n P St/\St 0 s₂.heap/\(∀b∈fp,b<s₂.heap.objs.size)/\CmpOf prog w A.in1 .Gt P bt/\
   ∀v h' tk,(n=0->v=d)->(0<n->P (argBest bt (n - 1)) v)->(∀b o,b∉wr->s₂.heap.get? b=some o->h'.get? b=some o)->Q v { s₂ with heap:=h',toks:=tk }) E s):
  wpAny (model prog w) A (call (.builtin "max") [x] [(Str.ofString "default",d)]) Q E s:=by
 refine kmk_tree PySem.F.kind_max PySem.F.plain_max PySem.F.entry_max (K_ x d) ?_
 refine wpAny_bind (m:=Builtin.Builtins.bindParams "max" ["key","default"] 0 ⟨[],[(Str.ofString "default",d)]⟩) (wpAny_of_eq (a:=[none,some d]) rfl ?_)
 refine wpAny_bind (wpAny_pure (wpAny_bind (wpAny_mono h (fun it s2 h2=>?_) fun _ _ e=>e)))
 obtain ⟨I,fp,wr,n,P,St,bt,rfl,W,kN,Ri,cm,hQ⟩:=h2
 refine wpAny_bind (wpAny_newObj_type ?_)
 have sf:s2.heap.objs.size∉fp:=fun z=>Ut _ (Ri _ z)
 have sw:s2.heap.objs.size∉wr:=fun z=>sf (W.sub _ z)
 have hS:(s2.heap.push { cls:= .type "list",data:= .seq #[] }).get? s2.heap.objs.size=some { cls:= .type "list",dict:=none,data:= .seq #[] 0,slots:= #[] }:=TX _ rfl
 have La:=W.frame _ _ (s2.heap.push { cls:= .type "list",data:= .seq #[] }) kN fun b _ o e=>Pd _ e
 have lo: ∀{b o},s2.heap.get? b=some o->b≠s2.heap.objs.size:=fun e=>TY (To e)
 rw[wV]
 refine wpAny_pure ⟨plainId_quiet UO _,codeAny_builtin V7 ?_⟩
 rw[Around.under_plainId UO _]
 refine wpAny_bind (m:=seqItems? (.ref s2.heap.objs.size)) (wpAny_seqItems hS rfl ?_)
 cases n with
 | zero=>
  refine wpAny_bind (m:=tryCatch (pyNext (.ref I)) _) (wpAny_tryCatch (W.done _ _ _ La fun h1 tk k1=>?_))
  refine wpAny_bind (wpAny_rule ?_)
  refine wpAny_pure (hQ d h1 tk (fun _=>rfl) (fun z=>absurd z (Ut _)) fun b o bw e=>k1 b o bw (Pd _ e))
 | succ m=>
  refine wpAny_bind (m:=tryCatch (pyNext (.ref I)) _) (wpAny_tryCatch (W.item 0 _ _ _ (Wx _) La fun v h1 tk pv uh k1=>?_))
  have H_:=k1 _ _ sw hS
  refine wpAny_bind (m:=updateSeq s2.heap.objs.size fun _=> #[v,v]) (wpAny_updateSeq H_ rfl ?_)
  rw[wV]
  refine wpAny_pure ⟨plainId_quiet UO _,K8 W cm sf m 0 _ v _ (by omega) (W.frame _ _ _ uh fun a af o ea=>?_) pv (UN _ H_ rfl) fun v' h2 K9 p2 k2=>?_⟩
  ·exact (Ur _ _ (fun z:s2.heap.objs.size=a=>sf (z▸af))).trans ea
  ·exact hQ v' h2 K9 (fun z=>by omega) (fun _=>p2) fun b o bw e=>k2 b o bw (lo e) ((Ur _ _ (Ne.symm (lo e))).trans (k1 b o bw (Pd _ e)))
end
noncomputable def Gv (d:Int):List Int->Int
 | []=>d
 | a::r=>r.foldl (fun x y=>if y>x then y else x) a
noncomputable def dS (l:List Int) (i j:Nat):Bool:=decide (l.getD i 0>l.getD j 0)
theorem jz (l:List Int): ∀n:Nat,n<l.length->l.getD (argBest (dS l) n) 0=((l.drop 1).take n).foldl (fun x y=>if y>x then y else x) (l.getD 0 0)
 | 0,_=>by simp[argBest]
 | n+1,h=>by
  have ih:=jz l n (by omega)
  have e:(l.drop 1).take (n+1)=(l.drop 1).take n++[l.getD (n+1) 0]:=by
   rw[Wz,UY,show 1+n=n+1 by omega,QQ,FW h]
   rfl
  rw[e,List.foldl_append, <-ih]
  show l.getD (if dS l (n+1) (argBest (dS l) n)=true then n+1 else argBest (dS l) n) 0=if l.getD (n+1) 0>l.getD (argBest (dS l) n) 0 then l.getD (n+1) 0 else l.getD (argBest (dS l) n) 0
  by_cases z:l.getD (n+1) 0>l.getD (argBest (dS l) n) 0
  ·rw[if_pos (show dS l (n+1) (argBest (dS l) n)=true from decide_eq_true z),if_pos z]
  ·rw[if_neg (show ¬dS l (n+1) (argBest (dS l) n)=true from fun w=>z (of_decide_eq_true w)),if_neg z]
section
variable {X:Cx}
theorem Am {prog:Program} {w:World} {A:Around} {l:List Int} {aJ:List Value} (r:Vals (l.map V.int) aJ):CmpOf prog w A .Gt (fun i v=>aJ.toArray[i]? =some v) (dS l):=by
 intro i j vi vj s Q E hi hj hQ
 have get: ∀{i:Nat} {v:Value},aJ.toArray[i]? =some v-> ∃t,v= .int (l.getD i 0) t:=by
  intro i v h
  have h':aJ[i]? =some v:=by simpa using h
  have hl:i<l.length:=by have:=(FX.mp h').1;rw[<-r.length,HX]at this;exact this
  obtain ⟨u,hu,ru⟩:=r.get (i:=i) (x:=V.int (l.getD i 0)) (by rw[TQ,QQ,FW hl];rfl)
  rw[h']at hu;cases hu
  exact ru
 obtain ⟨t,rfl⟩:=get hi
 obtain ⟨u,rfl⟩:=get hj
 exact gt_int hQ
def Lc (K:PySem.W.Frag) (d:Int) (t:TA):TE:=fun σ H Q=>t σ H fun vs H1=> ∃(p:Addr) (l:List Int),vs=[.ref p]/\bK K H1 p (l.map V.int)/\Q (.int (Gv d l)) H1
theorem Dh {e:Expr} {t:TA} {d:Int} {j:Nat} {kp cp p pos:Pos} (K:PySem.W.Frag) (hK:X.K=K) (hc:X.calm=true) (hg:Gl X "max") (hm:X.mg "max"=none) (ha:PA X [e] t)
  (he:backTo pos (starEach [e] X.env)=[(false,eval e X.env)]:=by rfl):PE X (.Call (.Name "max" p) [e] [⟨some "default", .Constant (.int d) j cp,kp⟩] pos) (Lc K d t):=by
 subst hK
 intro pins s σ H Q I h
 refine wpAny_Call_Name_kw (gh I hg hm boot_max ?_)
 refine callWith_kw (bV (ha pos pins s σ H _ I h) fun us s1 ⟨vs,H1,I1,r1,q1⟩=>?_) he (by rw[he];rfl)
 obtain ⟨a,l,rfl,hq,q⟩:=q1
 obtain ⟨u,rfl,ru⟩:=vals1 r1
 cases ru
 refine kws_cons (wpAny_Constant_int (kws_nil ?_))
 obtain ⟨aJ,rv,pl,hz⟩:=I1.list hq
 have hlen:aJ.length=l.length:=by rw[<-rv.length,HX]
 have hp:a<s1.heap.objs.size:=by
  obtain ⟨o,n,e,_⟩:=pl
  exact To e
 refine Dg (wpAny_pyIter_list pl.isList ?_)
 refine ⟨_,_,_,_,_,_,dS l,rfl,Walks.list (A:=X.A.in1) (I1.ok.hd hc) s1.heap.objs.size a (TY hp) aJ.toArray,⟨⟨_,TX _ rfl,rfl,rfl⟩,?_⟩,fun b hb=>?_,Am rv,fun v h' tk h0 h1 hk=>?_⟩
 ·obtain ⟨o,ho,hr⟩:=pl.isList
  exact ⟨o,Pd _ ho,hr⟩
 ·show b<(s1.heap.push _).objs.size
  rw[VH]
  exact (QS.mp hb).elim (fun z=>z▸UW _) fun z=>(QU.mp z)▸Vg hp
 ·have ru:RelV (.int (Gv d l)) v:=by
   cases l with
   | nil=>
    have:=h0 (by rw[QR,hlen];rfl)
    subst this
    exact ⟨_,rfl⟩
   | cons b l=>
    have hn:aJ.toArray.size - 1=l.length:=by rw[QR,hlen];rfl
    have hP:=h1 (by rw[QR,hlen];exact Wx _)
    rw[hn]at hP
    have Rj:aJ[argBest (dS (b::l)) l.length]? =some v:=by simpa using hP
    have hl:argBest (dS (b::l)) l.length<(b::l).length:=Nat.lt_succ_of_le (argBest_lt _ _)
    have e:=jz (b::l) l.length (UW _)
    rw[show ((b::l).drop 1).take l.length=l from Uc (Mj _),QQ,FW hl]at e
    have e':(b::l)[argBest (dS (b::l)) l.length]=Gv d (b::l):=e
    obtain ⟨u,hu,ru⟩:=rv.get (i:=argBest (dS (b::l)) l.length) (x:=V.int (Gv d (b::l))) (by rw[TQ,FW hl,e'];rfl)
    rw[Rj]at hu;cases hu
    exact ru
  refine ⟨.int (Gv d l),H1,?_,ru,q⟩
  have I2:Inv X pins σ H1 { s1 with heap:=s1.heap.push { cls:= .type "list_iterator",data:= .fields #[.ref a, .int 0 0] },toks:=s1.toks+1 }:=I1.kept (t':=s1.toks+1) fun b o e=>Pd _ e
  have f:=I1.nV (H':=H1) (b:=s1.heap.objs.size) (Mj _) I1.fresh
  exact I2.turned (h':=h') (t':=tk) (it:=s1.heap.objs.size) (fun b o hb e=>hk b o (by simpa using hb) e) f.1 f.2.1 f.2.2.2.1 f.2.2.2.2.1 f.2.2.2.2.2
end
end L2
set_option maxHeartbeats 1000000
namespace L2
open PySem PySem.Spec PyProof.Rows
section
variable {X:Cx}
theorem Gw:JS X .Mult (fun x y H Q=> ∃i j,x= .int i/\y= .int j/\zD i j/\Q (.int (i*j)) H):=by
 intro pins s σ H x y v u Q I r1 r2 h
 obtain ⟨i,j,rfl,rfl,c,q⟩:=h
 obtain ⟨t,rfl⟩:=r1
 obtain ⟨t',rfl⟩:=r2
 exact imul_int ⟨.int _,H,I.tok _,⟨_,rfl⟩,q⟩ c.ok
theorem Di:JS X .FloorDiv (fun x y H Q=> ∃i j,x= .int i/\y= .int j/\Ny i j/\Q (.int (i / j)) H):=by
 intro pins s σ H x y v u Q I r1 r2 h
 obtain ⟨i,j,rfl,rfl,hc,q⟩:=h
 obtain ⟨t,rfl⟩:=r1
 obtain ⟨t',rfl⟩:=r2
 have h1:(0:Int)<j:=hc.1
 have h2:j<1073741824:=hc.2
 exact ifloordiv_int (by omega) (by rw[Int.fdiv_eq_ediv_of_nonneg i (by omega)];exact ⟨.int _,H,I.tok _,⟨_,rfl⟩,q⟩) (.inl (PyProof.noPylong_small (by omega)))
end
theorem sO: ∀{ls:List Int} {aJ:List Value},Vals (ls.map V.int) aJ->IntsAre aJ ls
 | [],_, .nil=> .nil
 | _::_,_, .cons ⟨t,e⟩ h=>e▸ .cons _ t (sO h)
theorem sP: ∀{ls:List Int} {aJ:List Value},IntsAre aJ ls->Vals (ls.map V.int) aJ
 | _,_, .nil=> .nil
 | _,_, .cons n t h=> .cons ⟨t,rfl⟩ (sP h)
section
variable {prog:Program} {w:World} {A:Around} {E:Value->Shared->Prop} {s:Shared}
theorem qy {Q:Value->Shared->Prop} (hh:A.handled=none) (d:Addr) (aI:List (Key×Value)) (ep:Nat) (ls:List Int) (hk:aI.map (·.1)=ls.map fun l=>Sum.inl l) (hd:(d==sysModules)=false) (hm:s.heap.DictAt (b5 prog w) d aI ep) (Q0:aI.length<64)
  (h: ∀(h1 h':Heap) (tk:Nat) (a:Addr) (out:Array Value) (zo:List Int) (e:Nat),(∀b o,s.heap.get? b=some o->h1.get? b=some o)->(∀b o,h1.get? b=some o->h'.get? b=some o)->a=h1.objs.size->h'.get? a=some (seqObj "list" out e)->IntsAre out.toList zo->zo.Perm ls->(zo.Pairwise fun a b=> ¬b<a)->Q (.ref a) { s with heap:=h',toks:=tk }):
  wpAny (model prog w) A (call (.builtin "sorted") [.ref d]) Q E s:=by
 refine Calls.call_function_entry kind_sorted plain_sorted entry_sorted (args_sorted1 _) ?_
 unfold Builtin.«sorted»
 refine wpAny_bind (m:=checkCount "sorted" 1 1 _) (wpAny_pure ?_)
 have kP:(10000:Nat)<sizeLine:=by decide
 refine wpAny_bind (qw (A:=A.in1) (show A.in1.handled=none from hh) d aI ep hd hm (by omega) (fun s' acc Rk hg Ia ho uR=>?_))
 obtain ⟨h1,h2⟩:=uR
 have hlen:aI.length=ls.length:=by have:=congrArg List.length hk;simpa using this
 have rv:Vals (ls.map V.int) acc.toList:=by
  have key: ∀(ls:List Int) (vs:List Value),vs.length=ls.length->(∀(j:Nat) (v:Value),vs[j]? =some v-> ∃l t,ls[j]? =some l/\v=Value.int l t)->Vals (ls.map V.int) vs:=by
   intro ls
   induction ls with
   | nil=>intro vs hl _;have:vs=[]:=VG hl;subst this;exact .nil
   | cons l ls ih=>
    intro vs hl hv
    cases vs with
    | nil=>simp at hl
    | cons v vs=>
     obtain ⟨l',t,e1,e2⟩:=hv 0 v rfl
     have zX:l=l':=by simpa using e1
     subst zX
     refine .cons ⟨t,e2⟩ (ih vs (by simpa using hl) fun j v' e=>?_)
     obtain ⟨l',t',g1,g2⟩:=hv (j+1) v' (by simpa using e)
     exact ⟨l',t',by simpa using g1,g2⟩
  refine key ls acc.toList (by simpa [<-hlen]using h1) fun j v e=>?_
  obtain ⟨k,x,e1,e2⟩:=h2 j v (by simpa using e)
  have e3:(aI.map (·.1))[j]? =some k:=by rw[TQ,e1];rfl
  rw[hk,TQ]at e3
  cases e4:ls[j]? with
  | none=>rw[e4]at e3;cases e3
  | some l=>
   rw[e4]at e3
   have e5:k=Sum.inl l:=(TZ e3).symm
   subst e5
   obtain ⟨t,e6⟩:=Value.isInt_shape (k:=l) (v:=v) e2
   exact ⟨l,t,rfl,e6⟩
 have hS:=sO rv
 have hn:acc.toList.length=ls.length:=by rw[<-rv.length,HX]
 refine wpAny_bind (wpAny_newList ?_)
 have JK:(s'.heap.push (seqObj "list" acc.toList.toArray 0)).get? s'.heap.objs.size=some (seqObj "list" acc.toList.toArray 0):=TX _ rfl
 show wpAny _ _ _ _ _ { s' with heap:=s'.heap.push (seqObj "list" acc.toList.toArray 0) }
 refine wpAny_bind (wpAny_holding (wpAny_call_entry slot_list_sort ⟨_,JK,rfl⟩ entry_list_sort (list_sort_tree JK hS (by omega) fun out zo k1 k2 k3=>⟨_,rfl,?_⟩) (args_list_sort _)))
 obtain ⟨e,he⟩:=sortedHeap_at (out:=out) JK
 refine wpAny_pure ⟨_,rfl,?_⟩
 have es: ∀hh:Heap,({ s' with heap:=hh }:Shared)={ s with heap:=hh,toks:=s'.toks }:=fun hh=>by
  cases s;cases s'
  simp only at hg Ia ho
  subst hg Ia ho
  rfl
 show Q (.ref s'.heap.objs.size) { s' with heap:=sortedHeap (s'.heap.push (seqObj "list" acc.toList.toArray 0)) s'.heap.objs.size acc.toList (out) }
 rw[es]
 refine h s'.heap _ _ _ _ zo e Rk (fun b o hb=>?_) rfl he k1 k2 (k3.imp fun h=>Int.not_lt.mpr h)
 have dc:=To hb
 rw[sortedHeap_old (TY dc) (by rw[size_push'];exact Vg dc)]
 exact Pd _ hb
end
section
variable {X:Cx}
def Dj:List V->Hp->VK->Prop:=fun xs H Q=> ∃(d:Addr) (aI:List (Key×V)) (ls:List Int),xs=[.ref d]/\H d=some (.dK aI)/\aI.map (·.1)=(ls.map fun l=>Sum.inl l)/\ls.length<64/\ ∀(q:Addr) (ms:List Int),H q=none->ms.Perm ls->(ms.Pairwise fun a b=> ¬b<a)->Q (.ref q) (upd H q (.lst (ms.map V.int)))
theorem oa (hc:X.calm=true):de X (.builtin "sorted") Dj:=by
 intro pins s σ H xs us Q I r h
 obtain ⟨d,aI,ls,rfl,hd,hk,hn,q⟩:=h
 obtain ⟨u,rfl,ru⟩:=vals1 r
 cases ru
 obtain ⟨hz,Ob,vs,kv,o,es,ep,e1,e2,e3,e4,e5,e6⟩:=I.bR d _ hd
 have hlen:vs.length=ls.length:=by
  have a1:=congrArg List.length (wU kv)
  have a2:=congrArg List.length hk
  simp only[HX]at a1 a2
  omega
 refine qy (s:=s) (I.ok.hd hc) d vs ep ls ((wU kv).trans hk) Ob ⟨o,es,e1,e2,e3,e4,e5,e6⟩ (by omega) fun h1 h' tk a out zo e k1 k2 ea he g1 g2 g3=>?_
 have sE:=g2
 have hv:=sP g1
 have pw:=g3
 have I1:Inv X pins σ H { s with heap:=h1,toks:=tk }:=I.kept k1
 have hsz:(10000:Nat)<sizeLine:=by decide
 have I2:Inv X pins σ (upd H a (.lst (zo.map V.int))) { s with heap:=h',toks:=tk }:=
  I1.laid (t':=tk) (a:=a) (o:= .lst (zo.map V.int)) k2 (by rw[ea];exact Mj _) ⟨by rw[HX,sE.length_eq];omega,out.toList,e,hv,by simpa [seqObj]using he⟩
 exact ⟨.ref a,_,I2,rfl,q _ _ (I1.bR.fresh (by rw[ea];exact Mj _)) sE pw⟩
end
end L2
set_option maxHeartbeats 4000000
namespace My
open PySem PySem.Spec PyProof.Rows L2 XL
noncomputable def aM:List Nat:=[97,98,99,100,101,102,103,104,105,106,107,108,109,110,111,112,113,114,115,116,117,118,119,120,121,122]
noncomputable def i4:List Nat:=[65,66,67,68,69,70,71,72,73,74,75,76,77,78,79,80,81,82,83,84,85,86,87,88,89,90]
def Lt (c:Nat):Prop:=c∈aM\/c∈i4
noncomputable instance (c:Nat):Decidable (Lt c):=by unfold Lt;infer_instance
noncomputable def ao (c:Nat):Nat:=if aA c=true then PyProof.Rows.up1 c else PyProof.Rows.lo1 c
theorem qz: ∀c∈aM++i4,c<128/\ao c∈aM++i4/\ao (ao c)=c/\ao c≠c:=by decide+kernel
theorem Lt.mem {c:Nat} (h:Lt c):c∈aM++i4:=T9.mpr h
theorem Lt.lt {c:Nat} (h:Lt c):c<128:=(qz c h.mem).1
theorem Lt.ao {c:Nat} (h:Lt c):Lt (ao c):=T9.mp (qz c h.mem).2.1
theorem aG {c:Nat} (h:Lt c):ao (ao c)=c:=(qz c h.mem).2.2.1
theorem i5 {c:Nat} (h:Lt c):ao c≠c:=(qz c h.mem).2.2.2
theorem cT {a b:Nat} (ha:Lt a) (hb:Lt b) (e:My.ao a=My.ao b):a=b:=by rw[<-aG ha,e,aG hb]
theorem sQ: ∀c∈aM,j6 i4 ((aM.idxOf c:Nat):Int)=some (ao c):=by decide+kernel
theorem yB: ∀c∈i4,j6 aM ((i4.idxOf c:Nat):Int)=some (ao c):=by decide+kernel
noncomputable def gm (l:List Nat):List Nat:=(l.map ao).reverse
def aW (b:Addr) (H H':Hp):Prop:= ∀c o,H c=some o->c≠b->H' c=some o
theorem aW.refl (b:Addr) (H:Hp):aW b H H:=fun _ _ h _=>h
theorem aW.trans {b:Addr} {H H1 H2:Hp} (x:aW b H H1) (y:aW b H1 H2):aW b H H2:=fun c o h n=>y c o (x c o h n) n
theorem aW.of {b:Addr} {H H':Hp} (x:au H H'):aW b H H':=fun c o h _=>x c o h
theorem aW.upd (b:Addr) (H:Hp) (o:HO):aW b H (upd H b o):=fun c o h n=>by rw[az n];exact h
theorem au.upd {H:Hp} {p:Addr} {o:HO} (h:H p=none):au H (L2.upd H p o):=fun c u e=>by rw[az (aq e h)];exact e
def eX (H:Hp) (b:Addr):Prop:= ∃x y:Int,H b=some (.lst [.int x, .int y])
theorem eX.same {H H':Hp} {b:Addr} (h:eX H b) (s:au H H'):eX H' b:=let ⟨x,y,e⟩:=h;⟨x,y,s _ _ e⟩
structure Yd (y:List Nat):Prop where
 nd:y.Nodup
 lt: ∀c∈y,Lt c
 cl: ∀c∈y,ao c∈y
def kS (_:PySem.W.Frag):Sp:=fun vs H Q _=> ∃c,vs=[.str (S [c])]/\c<128/\Q (.str (S [ao c])) H
theorem qA {K:PySem.W.Frag} {vs:List V} {H:Hp} {Q:VK} {E:XK} (h:kS K vs H Q E):vs.length=1:=by obtain ⟨c,rfl,_⟩:=h;rfl
def o7 (_:PySem.W.Frag):Sp:=fun vs H Q _=> ∃c,vs=[.str (S [c])]/\Lt c/\Q (.str (S [ao c])) H
theorem vb {K:PySem.W.Frag} {vs:List V} {H:Hp} {Q:VK} {E:XK} (h:o7 K vs H Q E):vs.length=1:=by obtain ⟨c,rfl,_⟩:=h;rfl
def o8 (_:PySem.W.Frag):Sp:=fun vs H Q _=> ∃l:List Nat,vs=[.str (S l)]/\(∀c∈l,c<128)/\l.length<=1000/\ ∀H',au H H'->Q (.str (S (gm l))) H'
theorem vc {K:PySem.W.Frag} {vs:List V} {H:Hp} {Q:VK} {E:XK} (h:o8 K vs H Q E):vs.length=1:=by obtain ⟨c,rfl,_⟩:=h;rfl
def wW (K:PySem.W.Frag):Sp:=fun vs H Q _=> ∃(a:Addr) (ns:List Int) (k:Nat),vs=[.ref a, .int k]/\bK K H a (ns.map V.int)/\k<=1000/\ ∀b H',H b=none->eX H' b->au H H'->Q (.ref b) H'
theorem An {K:PySem.W.Frag} {vs:List V} {H:Hp} {Q:VK} {E:XK} (h:wW K vs H Q E):vs.length=2:=by obtain ⟨a,ns,k,rfl,_⟩:=h;rfl
def mP (_:PySem.W.Frag):Sp:=fun vs H Q _=> ∃(b:Addr) (m:Int),vs=[.ref b, .int m]/\eX H b/\1<=m/\m<1000000/\ ∀(r:Nat) H',(r:Int)<m->eX H' b->aW b H H'->Q (.int r) H'
theorem yC {K:PySem.W.Frag} {vs:List V} {H:Hp} {Q:VK} {E:XK} (h:mP K vs H Q E):vs.length=2:=by obtain ⟨b,m,rfl,_⟩:=h;rfl
def j7 (K:PySem.W.Frag):Sp:=fun vs H Q _=> ∃(a:Addr) (ns:List Int),vs=[.ref a]/\bK K H a (ns.map V.int)/\ns.length<=63/\ ∀H',Q (.bl true) H'
theorem Dk {K:PySem.W.Frag} {vs:List V} {H:Hp} {Q:VK} {E:XK} (h:j7 K vs H Q E):vs.length=1:=by obtain ⟨b,m,rfl,_⟩:=h;rfl
theorem sR: ∀l:List Nat,(l.map fun c=>[c]).flatten=l
 | []=>rfl
 | c::l=>by rw[TV,Vt,sR l];rfl
theorem Ao: ∀l:List Nat,((l.map fun c=>[c]).map List.length).sum=l.length
 | []=>rfl
 | c::l=>by
  rw[TV,TV,U7,Ao l]
  show 1+l.length=l.length+1
  omega
theorem iu (l:List Nat):dz l=(l.map fun c=>[c]).map fun l=>V.str (S l):=by unfold dz;rw[Us];rfl
theorem Dm (l:List Nat):(dz l).reverse=dz l.reverse:=by unfold dz;rw[VD]
theorem eY (l:List Nat) (c:Nat):dz l++[V.str (S [c])]=dz (l++[c]):=by unfold dz;rw[QT];rfl
theorem take_snoc {α:Type} {l:List α} {i:Nat} {x:α} (h:l[i]? =some x):l.take i++[x]=l.take (i+1):=by rw[Wz,h];rfl
theorem wX {ns:List Int} {i:Nat} (h:i<ns.length): ∃z,(ns.map V.int)[i]? =some (V.int z):=⟨ns[i],by rw[TQ,FW h];rfl⟩
theorem iw {σ:L2.St} {H:Hp} {A B:Hp->Prop} (h:A H):Kv σ H fun b H3=>if b=true then A H3 else B H3:=by
 show (if true=true then A H else B H)
 rw[if_pos rfl]
 exact h
theorem vd (b:Bool) (z:Int): ∃y,j6 [V.int 0,V.int z] (if b=true then 1 else 0)=some (V.int y):=by
 cases b
 ·exact ⟨0,rfl⟩
 ·exact ⟨z,rfl⟩
theorem yD (l:List Nat) (i:Nat):(dz l).eraseIdx i=dz (l.eraseIdx i):=by
 unfold dz
 induction l generalizing i with
 | nil=>rfl
 | cons a l ih=>
  cases i with
  | zero=>rfl
  | succ i=>rw[TV,V1,ih,V1,TV]
theorem Ap {l:List Nat} {i:Nat} (h:i<l.length):(dz l)[i]? =some (V.str (S [l[i]])):=by unfold dz;rw[TQ,FW h];rfl
theorem o9:aM.Nodup:=by decide+kernel
theorem Yd.perm {a b:List Nat} (h:Yd a) (p:a.Perm b):Yd b:=
 ⟨p.nodup_iff.mp h.nd,fun c hc=>h.lt c (p.mem_iff.mpr hc),fun c hc=>p.mem_iff.mp (h.cl c (p.mem_iff.mpr hc))⟩
theorem aW.lq {b p:Addr} {H H':Hp} {o:HO} (h:aW b H H') (n:H p=none):aW b H (L2.upd H' p o):=fun c u e z=>by rw[az (aq e n)];exact h c u e z
theorem eX.lq {b p:Addr} {H:Hp} {o:HO} (h:eX H b) (n:p≠b):eX (L2.upd H p o) b:=let ⟨x,y,e⟩:=h;⟨x,y,by rw[az (Ne.symm n)];exact e⟩
theorem eX.ne {b p:Addr} {H:Hp} (h:eX H b) (n:H p=none):p≠b:=fun z=>by obtain ⟨x,y,e⟩:=h;rw[<-z,n]at e;cases e
theorem Dp {c:Bool} {A B:Prop} (h:c=false) (hB:B):if c=true then A else B:=by rw[h];exact Ks hB
theorem Oc {c:Bool} {A B:Prop} (h:c=true) (hA:A):if c=true then A else B:=by rw[h];exact NN hA
theorem b7 (l:List Nat):(gm l).length=l.length:=by unfold gm;rw[Ul,HX]
theorem Dq {l:List Nat} (h: ∀c∈l,Lt c):gm (gm l)=l:=by
 unfold gm
 rw[VD,List.reverse_reverse,Us]
 have: ∀c∈l,(ao ∘ ao) c=c:=fun c hc=>aG (h c hc)
 calc l.map (ao ∘ ao)=l.map id:=UR this
  _=l:=WM l
theorem EM {l:List Nat} (h: ∀c∈l,Lt c): ∀c∈l,c<128:=fun c hc=>(h c hc).lt
theorem sS (a:List Nat):a.take (dz a).length=a:=by rw[bP];exact Uc (Mj _)
theorem aW.same {b:Addr} {H H2 H3:Hp} (n:H b=Option.none) (s:au H H2) (t:aW b H2 H3):au H H3:=fun c o e=>t c o (s c o e) (aq e n)
theorem aW.after {p:Addr} {H H1 H2:Hp} (s:aW p H H1) (t:au H1 H2):aW p H H2:=fun c o e z=>t c o (s c o e z)
noncomputable def ve (ws:List (List Nat)):List V:=ws.map fun l=>V.str (S l)
theorem dP (ws:List (List Nat)):(ve ws).length=ws.length:=by unfold ve;rw[HX]
theorem mQ {ws:List (List Nat)} {i:Nat} (h:i<ws.length):(ve ws)[i]? =some (V.str (S ws[i])):=by unfold ve;rw[TQ,FW h];rfl
noncomputable def eJ (st:List Nat) (c:Nat):List Nat:=if st.getLast? =some (ao c) then st.dropLast else st++[c]
noncomputable def red (l:List Nat):List Nat:=l.foldl eJ []
def vf:List Nat->Prop
 | []=>True
 | [_]=>True
 | a::b::r=>a≠ao b/\vf (b::r)
theorem vf.init: ∀{l:List Nat} {c:Nat},vf (l++[c])->vf l/\l.getLast?≠ some (ao c)
 | [],_,_=>⟨trivial,by simp⟩
 | [a],c,h=>⟨trivial,fun z=>h.1 (by simpa using z)⟩
 | a::b::r,c,h=>by
  have ih:=vf.init (l:=b::r) (c:=c) h.2
  exact ⟨⟨h.1,ih.1⟩,by simpa using ih.2⟩
theorem snoc_cases (l:List Nat):l=[]\/ ∃m a,l=m++[a]:=by
 by_cases h:l=[]
 ·exact .inl h
 ·exact .inr ⟨l.dropLast,l.getLast h,(List.dropLast_concat_getLast h).symm⟩
theorem vf.left: ∀{m l:List Nat},vf (m++l)->vf m
 | [],_,_=>trivial
 | [_],_,_=>trivial
 | a::b::r,l,h=>⟨h.1,vf.left (m:=b::r) (l:=l) h.2⟩
theorem yE {st:List Nat} {c d:Nat} (h:d∈eJ st c):d∈st\/d=c:=by
 unfold eJ at h
 by_cases e:st.getLast? =some (ao c)
 ·rw[if_pos e]at h
  exact .inl (List.dropLast_subset _ h)
 ·rw[if_neg e]at h
  rcases T9.mp h with z | z
  ·exact .inl z
  ·exact .inr (QU.mp z)
theorem fold_same: ∀(l st:List Nat),vf (st++l)->l.foldl eJ st=st++l
 | [],st,_=>by simp
 | c::l,st,h=>by
  have h':vf ((st++[c])++l):=by rw[Vi];exact h
  have h2:=(vf.left h').init.2
  rw[VM]
  have:eJ st c=st++[c]:=by unfold eJ;rw[if_neg h2]
  rw[this,fold_same l (st++[c]) h',Vi]
  rfl
theorem Aq {l:List Nat} (h:vf l):red l=l:=by
 exact fold_same l [] h
theorem fold_lt: ∀(l st:List Nat),(∀c∈l,Lt c)->(∀c∈st,Lt c)-> ∀c∈l.foldl eJ st,Lt c
 | [],_,_,h=>h
 | a::l,st,h1,h2=>fold_lt l _ (fun c hc=>h1 c (Tj _ hc)) fun c hc=>(yE hc).elim (h2 c) fun z=>z▸h1 a TR
theorem Gx {l:List Nat} (h: ∀c∈l,Lt c): ∀c∈red l,Lt c:=fold_lt l [] h fun _ h=>absurd h Uh
theorem yF (st:List Nat) (c:Nat):(eJ st c).length<=st.length+1:=by
 unfold eJ
 by_cases e:st.getLast? =some (ao c)
 ·rw[if_pos e,List.length_dropLast];omega
 ·rw[if_neg e,Tn];exact Mj _
theorem sU: ∀(l st:List Nat),(l.foldl eJ st).length<=st.length+l.length
 | [],_=>Mj _
 | c::l,st=>by
  have:=sU l (eJ st c)
  have h2:=yF st c
  rw[VM,Uu]
  omega
theorem jA (l:List Nat):(red l).length<=l.length:=by
 have:=sU l []
 rw[List.length_nil,VP]at this
 exact this
theorem Ar {l:List Nat} {i c:Nat} (h:l[i]? =some c):red (l.take (i+1))=eJ (red (l.take i)) c:=by
 unfold red
 rw[<-take_snoc h,List.foldl_append]
 rfl
theorem As: ∀{l:List Nat},(∀k a b,l[k]? =some a->l[k+1]? =some b->a≠ao b)->vf l
 | [],_=>trivial
 | [_],_=>trivial
 | a::b::r,h=>⟨h 0 a b rfl rfl,As (l:=b::r) fun k x y h1 h2=>h (k+1) x y (by simpa using h1) (by simpa using h2)⟩
noncomputable def zp (l:List Nat) (s e:Nat):List Nat:=(l.drop s).take (e - s)
noncomputable def strip:Nat->List Nat->List Nat
 | 0,l=>l
 | n+1,l=>match l with
  | []=>[]
  | [a]=>[a]
  | a::b::r=>if a=ao ((b::r).getLast (by simp)) then strip n (b::r).dropLast else a::b::r
theorem dU: ∀(n:Nat) {l:List Nat},l.length<2->strip n l=l
 | 0,_,_=>rfl
 | _+1,[],_=>rfl
 | _+1,[_],_=>rfl
 | _+1,_::_::_,h=>by simp at h;omega
theorem jB (l:List Nat) (y:Nat):(l++[y]).getLast (by simp)=y:=by simp
theorem strip_go (n:Nat) {a y:Nat} {m:List Nat} (h:a=ao y):strip (n+1) (a::(m++[y]))=strip n m:=by
 cases m with
 | nil=>
  show (if a=ao (([y]:List Nat).getLast (by simp)) then strip n ([y]:List Nat).dropLast else _)=strip n []
  rw[if_pos (by simpa using h)]
  rfl
 | cons b r=>
  show (if a=ao ((b::(r++[y])).getLast (by simp)) then strip n (b::(r++[y])).dropLast else _)=strip n (b::r)
  have e1:(b::(r++[y])).getLast (by simp)=y:=jB (b::r) y
  have e2:(b::(r++[y])).dropLast=b::r:=by
   have:b::(r++[y])=(b::r)++[y]:=rfl
   rw[this,Wm]
  rw[if_pos (by rw[e1];exact h),e2]
theorem strip_stop (n:Nat) {a y:Nat} {m:List Nat} (h:a≠ao y):strip n (a::(m++[y]))=a::(m++[y]):=by
 cases n with
 | zero=>rfl
 | succ n=>
  cases m with
  | nil=>
   show (if a=ao (([y]:List Nat).getLast (by simp)) then _ else _)=_
   rw[if_neg (by simpa using h)]
   rfl
  | cons b r=>
   show (if a=ao ((b::(r++[y])).getLast (by simp)) then _ else _)=_
   have e1:(b::(r++[y])).getLast (by simp)=y:=jB (b::r) y
   rw[if_neg (by rw[e1];exact h)]
   rfl
theorem Au {l:List Nat} (h:2<=l.length): ∃a m y,l=a::(m++[y]):=by
 cases l with
 | nil=>simp at h
 | cons a r=>
  rcases snoc_cases r with rfl | ⟨m,y,rfl⟩
  ·simp at h
  ·exact ⟨a,m,y,rfl⟩
theorem mR: ∀(n:Nat) (l:List Nat) (k:Nat),l.length<=n->strip (n+k) l=strip n l
 | 0,l,k,h=>by rw[dU _ (by omega),dU _ (by omega)]
 | n+1,l,k,h=>by
  by_cases h2:l.length<2
  ·rw[dU _ h2,dU _ h2]
  ·obtain ⟨a,m,y,rfl⟩:=Au (l:=l) (by omega)
   have hm:m.length<=n:=by simp at h;omega
   by_cases e:a=ao y
   ·have:n+1+k=(n+k)+1:=by omega
    rw[this,strip_go _ e,strip_go _ e,mR n m k hm]
   ·rw[strip_stop _ e,strip_stop _ e]
noncomputable def core (l:List Nat):List Nat:=strip l.length l
theorem wY {a y:Nat} {m:List Nat} (h:a=ao y):core (a::(m++[y]))=core m:=by
 unfold core
 have:(a::(m++[y])).length=(m.length+1)+1:=by simp
 rw[this,strip_go _ h,mR _ _ _ (Mj _)]
theorem ke {a y:Nat} {m:List Nat} (h:a≠ao y):core (a::(m++[y]))=a::(m++[y]):=strip_stop _ h
theorem gn {l:List Nat} (h:l.length<2):core l=l:=dU _ h
theorem sV {P:List Nat->List Nat->Prop} (h1: ∀l,l.length<2->P l l) (h2: ∀a m y,a≠ao y->P (a::(m++[y])) (a::(m++[y]))) (h3: ∀a m y r,a=ao y->P m r->P (a::(m++[y])) r): ∀(n:Nat) (l:List Nat),l.length<=n->P l (core l)
 | 0,l,h=>by rw[gn (by omega)];exact h1 l (by omega)
 | n+1,l,h=>by
  by_cases hl:l.length<2
  ·rw[gn hl];exact h1 l hl
  ·obtain ⟨a,m,y,rfl⟩:=Au (l:=l) (by omega)
   by_cases e:a=ao y
   ·rw[wY e]
    exact h3 a m y _ e (sV h1 h2 h3 n m (by simp at h;omega))
   ·rw[ke e];exact h2 a m y e
theorem sW (l:List Nat):(core l).length<=l.length:=
 sV (P:=fun l r=>r.length<=l.length) (fun _ _=>Mj _) (fun _ _ _ _=>Mj _) (fun a m y r _ k=>by simp;omega) l.length l (Mj _)
theorem Gy {l:List Nat} {s e:Nat} (h1:s+2<=e) (h2:e<=l.length):zp l s e=l[s]::(zp l (s+1) (e - 1)++[l[e - 1]]):=by
 unfold zp
 rw[Uz (by omega)]
 have e1:e - s=(e - 1 - (s+1))+1+1:=by omega
 rw[e1,List.take_succ_cons,Wz,UY]
 have e2:s+1+(e - 1 - (s+1))=e - 1:=by omega
 rw[e2,FW (by omega)]
 rfl
theorem Dr {l:List Nat} {s e:Nat} (h2:e<=l.length):(zp l s e).length=e - s:=by unfold zp;rw[T4,T6];omega
theorem Ds (l:List Nat):zp l 0 l.length=l:=by unfold zp;simp
def jC (_:PySem.W.Frag):Sp:=fun vs H Q _=> ∃l:List Nat,vs=[.str (S l)]/\(∀c∈l,Lt c)/\l.length<=1000/\ ∀H',au H H'->Q (.str (S (red l))) H'
theorem oe {K:PySem.W.Frag} {vs:List V} {H:Hp} {Q:VK} {E:XK} (h:jC K vs H Q E):vs.length=1:=by obtain ⟨c,rfl,_⟩:=h;rfl
def kT (_:PySem.W.Frag):Sp:=fun vs H Q _=> ∃l:List Nat,vs=[.str (S l)]/\(∀c∈l,Lt c)/\l.length<=1000/\ ∀H',au H H'->Q (.str (S (core (red l)))) H'
theorem qB {K:PySem.W.Frag} {vs:List V} {H:Hp} {Q:VK} {E:XK} (h:kT K vs H Q E):vs.length=1:=by obtain ⟨c,rfl,_⟩:=h;rfl
theorem eZ {α:Type} (l:List α) (k:Nat):cut l none (some (k:Int))=l.take k:=by
 unfold cut
 rw[HT.r_,HT.fz,List.drop_zero,Nat.sub_zero]
 by_cases h:k<=l.length
 ·rw[UE h]
 ·rw[UI (by omega),Uc (Mj _),Uc (by omega)]
theorem e_ {α:Type} (l:List α) (k:Nat):cut l (some (k:Int)) none=l.drop k:=by
 unfold cut
 rw[HT.r_,HT.fz]
 by_cases h:k<=l.length
 ·rw[UE h,Uc (by rw[T6];exact Mj _)]
 ·rw[UI (by omega),UQ (Mj _),UQ (by omega)]
  simp
noncomputable def da (c:List Nat) (k:Nat):List Nat:=c.drop k++c.take k
noncomputable def jD (c:List Nat) (n:Nat):List (List Nat):=(List.range n).map fun k=>da c (k+1)
noncomputable def eK (c:List Nat):List Nat:=bQ c (jD c (c.length - 1))
@[irreducible] noncomputable def cZ (w:List Nat):List Nat:=eK (core (red w))
theorem o_ (c:List Nat) (n:Nat):jD c (n+1)=jD c n++[da c (n+1)]:=by unfold jD;rw[UG,QT];rfl
theorem gp: ∀(r:List (List Nat)) (a b:List Nat),bQ a (r++[b])=cu (bQ a r) b
 | [],_,_=>rfl
 | _::r,_,_=>gp r _ _
theorem b8 (c:List Nat) (k:Nat):(da c k).length=c.length:=by unfold da;rw[Tn,T6,T4];omega
theorem i6: ∀(r:List (List Nat)) (a:List Nat),bQ a r=a\/bQ a r∈r
 | [],a=> .inl rfl
 | b::r,a=>by
  rcases i6 r (cu a b) with h | h
  ·have hl:cu a b=a\/cu a b=b:=by unfold cu;split<;>simp
   rcases hl with e | e
   ·left;show bQ (cu a b) r=a;rw[h,e]
   ·right;show bQ (cu a b) r∈b::r;rw[h,e];exact TR
  ·right;exact Tj _ h
theorem pb (c:List Nat): ∃k,eK c=da c k:=by
 rcases i6 (jD c (c.length - 1)) c with h | h
 ·exact ⟨0,by show bQ _ _=_;rw[h];unfold da;simp⟩
 ·unfold jD at h
  obtain ⟨k,_,e⟩:=T3.mp h
  exact ⟨k+1,e.symm⟩
theorem yG (w:List Nat):(cZ w).length<=w.length:=by
 obtain ⟨k,e⟩:=pb (core (red w))
 unfold cZ
 rw[e,b8]
 exact Ug (sW _) (jA w)
def wZ (_:PySem.W.Frag):Sp:=fun vs H Q _=> ∃l:List Nat,vs=[.str (S l)]/\(∀c∈l,Lt c)/\l.length<=1000/\ ∀H',au H H'->Q (.str (S (cZ l))) H'
theorem Av {K:PySem.W.Frag} {vs:List V} {H:Hp} {Q:VK} {E:XK} (h:wZ K vs H Q E):vs.length=1:=by obtain ⟨c,rfl,_⟩:=h;rfl
def AllLt (l:List Nat):Prop:= ∀c∈l,Lt c
theorem mS (a b:List Nat): ¬a<cu a b:=by
 unfold cu
 split
 ·rename_i h;exact fun g=>Vs a (List.lt_trans g h)
 ·exact Vs a
theorem lr (a b:List Nat): ¬b<cu a b:=by
 unfold cu
 split
 ·exact Vs b
 ·rename_i h;exact h
theorem EN {a b c:List Nat} (h: ¬b<a) (g: ¬c<b): ¬c<a:=List.le_trans (show a<=b from h) (show b<=c from g)
theorem i7: ∀(r:List (List Nat)) (a:List Nat), ∀x∈a::r, ¬x<bQ a r
 | [],a,x,hx=>by rw[QU.mp hx];exact Vs a
 | b::r,a,x,hx=>by
  show ¬x<bQ (cu a b) r
  have h0:=i7 r (cu a b) (cu a b) TR
  rcases QS.mp hx with e | hx
  ·rw[e];exact EN h0 (mS a b)
  ·rcases QS.mp hx with e | hx
   ·rw[e];exact EN h0 (lr a b)
   ·exact i7 r (cu a b) x (Tj _ hx)
theorem sX (c:List Nat):da c 0=c:=by unfold da;simp
theorem jE (u:List Nat): ∀(m i:Nat),i<m*u.length->(dm m u)[i]? =u[i%u.length]?
 | 0,i,h=>by simp at h
 | m+1,i,h=>by
  rw[dE,List.getElem?_append]
  by_cases z:i<u.length
  ·rw[if_pos z,U8 z]
  ·rw[if_neg z,jE u m (i - u.length) (by rw[V8]at h;omega), <-Nat.mod_eq_sub_mod (by omega)]
def fV (w:List Nat) (s:Nat):Prop:=dm (w.length / s) (w.take s)=w
def fW (w:List Nat) (k:Nat):Prop:=da w k=w
noncomputable instance (w:List Nat) (s:Nat):Decidable (fV w s):=by unfold fV;infer_instance
noncomputable instance (w:List Nat) (s:Nat):Decidable (fW w s):=by unfold fW;infer_instance
def bA (w:List Nat) (s:Nat):Prop:=(w=[]/\s=0)\/(1<=s/\s<=w.length/\fV w s/\ ∀j,1<=j->j<s-> ¬fV w j)
def i8 (w:List Nat) (s:Nat):Prop:=(w=[]/\s=0)\/(1<=s/\s<=w.length/\fW w s/\ ∀j,1<=j->j<s-> ¬fW w j)
theorem lR {w:List Nat} {s:Nat} (h1:1<=s) (h2:s<=w.length) (h:fV w s):fW w s:=by
 unfold fV at h
 have hm:1<=w.length / s:=Nat.div_pos h2 h1
 obtain ⟨m,e⟩: ∃m,w.length / s=m+1:=⟨w.length / s - 1,by omega⟩
 rw[e]at h
 have hu:(w.take s).length=s:=by rw[T4];omega
 generalize w.take s=u at h hu
 unfold fW da
 rw[<-h,dE,List.drop_left' hu,List.take_left' hu, <-uZ,dE]
noncomputable def Fw (w:List Nat) (i:Nat):Option Nat:=w[i%w.length]?
theorem lS {w:List Nat} {k i:Nat} (hk:k<=w.length) (hi:i<w.length):(da w k)[i]? =Fw w (i+k):=by
 unfold da Fw
 rw[List.getElem?_append,T6]
 by_cases z:i<w.length - k
 ·rw[if_pos z,UY,U8 (by omega),Nat.add_comm]
 ·rw[if_neg z,VT,if_pos (by omega),Nat.mod_eq_sub_mod (by omega),U8 (by omega)]
  congr 1
  omega
def ui (w:List Nat) (k:Nat):Prop:= ∀i,Fw w (i+k)=Fw w i
theorem Aw (w:List Nat) (i k:Nat):Fw w (i%w.length+k)=Fw w (i+k):=by unfold Fw;rw[Nat.mod_add_mod]
theorem fB {w:List Nat} {k:Nat} (hn:w≠[]) (hk:k<=w.length):fW w k↔ui w k:=by
 have hl:0<w.length:=Pe.mpr hn
 constructor
 ·intro h i
  have hi:=U_ i hl
  rw[<-Aw, <-lS hk hi,h]
  rfl
 ·intro h
  refine WB fun i=>?_
  by_cases hi:i<w.length
  ·rw[lS hk hi,h i]
   unfold Fw
   rw[U8 hi]
  ·have hr:(da w k).length=w.length:=b8 w k
   rw[U0 (by omega),U0 (by omega)]
theorem ui.mul {w:List Nat} {k:Nat} (h:ui w k): ∀j i,Fw w (i+k*j)=Fw w i
 | 0,i=>rfl
 | j+1,i=>by rw[Nat.mul_succ, <-WR,h,ui.mul h j]
theorem ui.whole (w:List Nat):ui w w.length:=fun i=>by unfold Fw;rw[Nat.add_mod_right]
theorem ui.rest {w:List Nat} {k:Nat} (h:ui w k):ui w (w.length%k):=fun i=>by
 rw[<-h.mul (w.length / k) (i+w.length%k),WR,Wa]
 exact ui.whole w i
theorem pe {w:List Nat} {k:Nat} (hn:w≠[]) (h1:1<=k) (h2:k<=w.length) (h:fW w k) (hl: ∀j,1<=j->j<k-> ¬fW w j):fV w k:=by
 have hp:=(fB hn h2).mp h
 have hr:w.length%k=0:=by
  by_cases z:w.length%k=0
  ·exact z
  ·have dc:=U_ w.length (show k>0 by omega)
   exact absurd ((fB hn (by omega)).mpr hp.rest) (hl _ (by omega) dc)
 have hm:w.length / k*k=w.length:=by
  have:=Wa w.length k
  rw[hr,VP,U3]at this
  exact this
 have hu:(w.take k).length=k:=by rw[T4];omega
 unfold fV
 refine WB fun i=>?_
 by_cases hi:i<w.length
 ·rw[jE _ _ _ (by rw[hu,hm];exact hi),hu,VT]
  have Rl:=U_ i (show k>0 by omega)
  rw[if_pos Rl]
  have e:=hp.mul (i / k) (i%k)
  rw[Wa]at e
  unfold Fw at e
  rw[U8 hi,U8 (by omega)]at e
  exact e.symm
 ·rw[U0 (by rw[so,hu,hm];omega),U0 (by omega)]
theorem iA {w:List Nat} {s k:Nat} (h:bA w s) (g:i8 w k):s=k:=by
 rcases h with ⟨e,e2⟩ | ⟨h1,h2,h3,h4⟩
 ·rcases g with ⟨_,g2⟩ | ⟨g1,g2,_,_⟩
  ·rw[e2,g2]
  ·rw[e]at g2;simp at g2;omega
 ·rcases g with ⟨e,_⟩ | ⟨g1,g2,g3,g4⟩
  ·rw[e]at h2;simp at h2;omega
  ·have hn:w≠[]:=fun z=>by rw[z]at h2;simp at h2;omega
   by_cases z:s<k
   ·exact absurd (lR h1 h2 h3) (g4 s h1 z)
   ·by_cases z2:k<s
    ·exact absurd (pe hn g1 g2 g3 g4) (h4 k g1 z2)
    ·omega
theorem yH (w:List Nat) (h:w≠[]):fV w w.length:=by
 have hl:0<w.length:=Pe.mpr h
 unfold fV
 rw[Nat.div_self hl,Uc (Mj _)]
 show dm (0+1) w=w
 rw[dE]
 simp[dm]
theorem yI (w:List Nat):fW w w.length:=by
 unfold fW da
 rw[UQ (Mj _),Uc (Mj _)]
 rfl
noncomputable def Dt (c:List Nat) (n:Nat):List Nat:=((List.range n).map (· +1)).filter fun k=>decide (fW c k)
theorem qC {c:List Nat} {n k:Nat}:k∈Dt c n↔(1<=k/\k<=n)/\fW c k:=by
 unfold Dt
 rw[Uq,T3]
 constructor
 ·rintro ⟨⟨j,hj,rfl⟩,h⟩
  have:=Ux.mp hj
  exact ⟨by omega,of_decide_eq_true h⟩
 ·rintro ⟨h1,h2⟩
  exact ⟨⟨k - 1,Ux.mpr (by omega),by omega⟩,decide_eq_true h2⟩
theorem vg (c:List Nat) (n:Nat):(Dt c n).Pairwise (· < ·):=by
 unfold Dt
 refine List.Pairwise.filter _ ?_
 rw[UC]
 exact (List.pairwise_lt_range (n:=n)).imp fun h=>WI h
theorem mT {c:List Nat} (h:c≠[]): ∃k r,Dt c c.length=k::r/\i8 c k:=by
 have hl:0<c.length:=Pe.mpr h
 have hm:c.length∈Dt c c.length:=qC.mpr ⟨by omega,yI c⟩
 rcases e:Dt c c.length with _ | ⟨k,r⟩
 ·rw[e]at hm;exact absurd hm Uh
 ·refine ⟨k,r,rfl, .inr ?_⟩
  have hk:k∈Dt c c.length:=by rw[e];exact TR
  obtain ⟨⟨h1,h2⟩,h3⟩:=qC.mp hk
  refine ⟨h1,h2,h3,fun j j1 j2 z=>?_⟩
  have hj:j∈Dt c c.length:=qC.mpr ⟨by omega,z⟩
  have hs:=vg c c.length
  rw[e]at hj hs
  rcases QS.mp hj with w | w
  ·omega
  ·have:=List.rel_of_pairwise_cons hs w
   omega
noncomputable def EO (w:List Nat) (s:Nat):List V:=[.str (S (w.take s)), .int ((w.length / s:Nat):Int)]
def w4 (_:PySem.W.Frag):Sp:=fun vs H Q _=> ∃l:List Nat,vs=[.str (S l)]/\(∀c∈l,Lt c)/\l.length<=1000/\ ∀p s H',H p=none->H' p=some (.tup (EO (cZ l) s))->bA (cZ l) s->au H H'->Q (.ref p) H'
theorem Ax {K:PySem.W.Frag} {vs:List V} {H:Hp} {Q:VK} {E:XK} (h:w4 K vs H Q E):vs.length=1:=by obtain ⟨c,rfl,_⟩:=h;rfl
theorem aV: ∀c∈aM,aA c=true/\PyProof.Rows.lo1 c=c/\ao c∈i4:=by decide+kernel
theorem bD: ∀c∈i4,aA c=false/\PyProof.Rows.lo1 c=ao c/\c∉aM/\ao c∈aM:=by decide+kernel
theorem ph: ∀c∈i4,c∉aM:=by decide+kernel
theorem iB {c:Nat} (h:Lt c):aA c=decide (c∈aM):=by
 rcases h with h | h
 ·rw[(aV c h).1,decide_eq_true h]
 ·rw[(bD c h).1,decide_eq_false (bD c h).2.2.1]
noncomputable def gr (y:List Nat) (a b c:Nat):Bool:=decide ((((y.idxOf b:Nat):Int) - ((y.idxOf a:Nat):Int))%(y.length:Int)<(((y.idxOf c:Nat):Int) - ((y.idxOf a:Nat):Int))%(y.length:Int))
def iC (i j k:Nat):Prop:=(i<j/\j<k)\/(j<k/\k<i)\/(k<i/\i<j)
noncomputable instance (i j k:Nat):Decidable (iC i j k):=by unfold iC;infer_instance
theorem gW {i j n:Nat} (hi:i<n) (hj:j<n):((j:Int) - (i:Int))%(n:Int)=if i<=j then (j:Int) - i else (j:Int) - i+n:=by
 split
 ·exact Ue (by omega) (by omega)
 ·rw[<-Vd]
  exact Ue (by omega) (by omega)
theorem eE {y:List Nat} {a b c:Nat} (hn:y.Nodup) (ha:a∈y) (hb:b∈y) (hc:c∈y) (uj:a≠b) (ER:a≠c) (ES:b≠c):gr y a b c=decide (iC (y.idxOf a) (y.idxOf b) (y.idxOf c)):=by
 have ia:=Ph ha
 have ib:=Ph hb
 have ic:=Ph hc
 have inj: ∀{u v:Nat},u∈y->v∈y->u≠v->y.idxOf u≠y.idxOf v:=fun {u v} hu hv h z=>h (by
  have e1:=UL (Ph hu)
  have e2:=UL (Ph hv)
  rw[<-e1, <-e2]
  congr 1)
 have n1:=inj ha hb uj
 have n2:=inj ha hc ER
 have n3:=inj hb hc ES
 unfold gr
 rw[gW ia ib,gW ia ic]
 generalize y.idxOf a=i at*
 generalize y.idxOf b=j at*
 generalize y.idxOf c=k at*
 refine decide_eq_decide.mpr ?_
 unfold iC
 split<;>split<;>omega
theorem Ay {i j k:Nat}:iC j k i↔iC i j k:=by unfold iC;omega
theorem Du {i j k:Nat} (h1:i≠j) (h2:i≠k) (h3:j≠k):iC i k j↔ ¬iC i j k:=by unfold iC;omega
theorem Dv {y:List Nat} {a b c:Nat} (hn:y.Nodup) (ha:a∈y) (hb:b∈y) (hc:c∈y) (uj:a≠b) (ER:a≠c) (ES:b≠c):gr y b c a=gr y a b c:=by
 rw[eE hn ha hb hc uj ER ES,eE hn hb hc ha ES (Ne.symm uj) (Ne.symm ER)]
 exact decide_eq_decide.mpr Ay
theorem bL {y:List Nat} {u v:Nat} (hu:u∈y) (hv:v∈y) (h:u≠v):y.idxOf u≠y.idxOf v:=fun z=>h (by
 have e1:=UL (Ph hu)
 have e2:=UL (Ph hv)
 rw[<-e1, <-e2]
 congr 1)
theorem Gz {y:List Nat} {a b c:Nat} (hn:y.Nodup) (ha:a∈y) (hb:b∈y) (hc:c∈y) (uj:a≠b) (ER:a≠c) (ES:b≠c):gr y a c b=!gr y a b c:=by
 rw[eE hn ha hb hc uj ER ES,eE hn ha hc hb ER uj (Ne.symm ES)]
 rw[<-decide_not]
 exact decide_eq_decide.mpr (Du (bL ha hb uj) (bL ha hc ER) (bL hb hc ES))
theorem GA (d:Nat) (t:List Nat) (a:Nat):(d::t).idxOf a=if d=a then 0 else t.idxOf a+1:=by
 by_cases h:d=a
 ·subst h;rw[if_pos rfl,List.idxOf_cons_self]
 ·rw[if_neg h,Wd,show (d==a)=false by simp[h]];rfl
theorem yJ {a b:List Nat} (h:a.Perm b) (ha:a.Pairwise (· <= ·)) (hb:b.Pairwise (· <= ·)):a=b:=
 List.Perm.eq_of_pairwise (le:=fun x y=>x<=y) (fun _ _ _ _ h1 h2=>Wb h1 h2) ha hb h
def sY (_:PySem.W.Frag):Sp:=fun vs H Q _=> ∃l:List Nat,vs=[.str (S l)]/\(∀c∈l,c<128)/\l.length<64/\ ∀l' H',l'.Perm (l.filter aA)->l'.Pairwise (· <= ·)->au H H'->Q (.str (S l')) H'
theorem yK {K:PySem.W.Frag} {vs:List V} {H:Hp} {Q:VK} {E:XK} (h:sY K vs H Q E):vs.length=1:=by obtain ⟨c,rfl,_⟩:=h;rfl
def gX (_:PySem.W.Frag):Sp:=fun vs H Q _=> ∃(y:List Nat) (a b:Nat),vs=[.str (S y), .str (S [a]), .str (S [b])]/\a∈y/\b∈y/\y.length<=1000/\Q (.int ((((y.idxOf b:Nat):Int) - ((y.idxOf a:Nat):Int))%(y.length:Int))) H
theorem lA {K:PySem.W.Frag} {vs:List V} {H:Hp} {Q:VK} {E:XK} (h:gX K vs H Q E):vs.length=3:=by obtain ⟨c,_,_,rfl,_⟩:=h;rfl
theorem sZ {p:Nat->Bool} {l:List Nat} {i c:Nat} (h:l[i]? =some c):(l.take (i+1)).filter p=(l.take i).filter p++if p c=true then [c] else []:=by
 rw[<-take_snoc h,Vb]
 congr 1
 by_cases z:p c=true
 ·rw[if_pos z,Uk z];rfl
 ·rw[if_neg z,T_ z];rfl
theorem Az {y:List Nat} (h:Yd y):2*(y.filter aA).length=y.length:=by
 have key: ∀p q:Nat->Bool,(∀c∈y,p c=true->q (ao c)=true)->(y.filter p).length<=(y.filter q).length:=fun p q Ld=>by
  have hn:((y.filter p).map ao).Nodup:=by
   show ((y.filter p).map ao).Pairwise (· ≠ ·)
   rw[UC]
   refine (h.nd.filter p).imp_of_mem fun {a b} ha hb z e=>z ?_
   exact cT (h.lt a (Uq.mp ha).1) (h.lt b (Uq.mp hb).1) e
  have:=hn.length_le_of_subset (l₂:=y.filter q) fun c hc=>by
   obtain ⟨d,hd,rfl⟩:=T3.mp hc
   obtain ⟨d1,d2⟩:=Uq.mp hd
   exact Uq.mpr ⟨h.cl d d1,Ld d d1 d2⟩
  rwa [HX]at this
 have k1:=key aA (fun c=>!aA c) fun c hc z=>by
  rw[iB (h.lt c hc)]at z
  have hs:=of_decide_eq_true z
  rw[(bD _ (aV c hs).2.2).1];rfl
 have k2:=key (fun c=>!aA c) aA fun c hc z=>by
  rcases h.lt c hc with q | q
  ·rw[(aV c q).1]at z;cases z
  ·exact (aV _ (bD c q).2.2.2).1
 have k3:(y.filter aA).length+(y.filter fun c=>!aA c).length=y.length:=by
  clear k1 k2 key h
  induction y with
  | nil=>rfl
  | cons a r ih=>
   cases hq:aA a
   ·rw[T_ (by simp[hq]),Uk (by simp[hq]),Uu,Uu];omega
   ·rw[Uk hq,T_ (by simp[hq]),Uu,Uu];omega
 omega
noncomputable def rd (w:List Nat) (k:Int):Nat:=w.getD (k%(w.length:Int)).toNat 0
theorem Le {w:List Nat} (h:w≠[]) (k:Int):(k%(w.length:Int)).toNat<w.length:=by
 have:0<w.length:=Pe.mpr h
 have h1:=US k (b:=(w.length:Int)) (by omega)
 have h2:=UM k (b:=(w.length:Int)) (by omega)
 omega
theorem fJ {w:List Nat} (h:w≠[]) (k:Int):w[(k%(w.length:Int)).toNat]? =some (rd w k):=by
 unfold rd
 rw[QQ,FW (Le h k)]
 rfl
theorem qD {w:List Nat} (h:w≠[]) (k:Int):rd w k∈w:=TU (fJ h k)
theorem eF (w:List Nat) (k:Int):rd w (k+w.length)=rd w k:=by unfold rd;rw[Vd]
theorem gq (w:List Nat) (k:Int):rd w (k%w.length)=rd w k:=by unfold rd;rw[Wn _ (Int.dvd_refl _)]
theorem kf {w:List Nat} {k:Nat} (h:k<w.length):w[k]? =some (rd w k):=by
 have fD:w≠[]:=fun z=>by rw[z]at h;exact absurd h (VI _)
 have:=fJ fD (k:Int)
 rwa [Ue (by omega) (by omega),Pj]at this
theorem w5 {w:List Nat} {k:Int} {n:Nat} {c:Nat} (hn:n<w.length) (e:k%(w.length:Int)=n) (h:w[n]? =some c):rd w k=c:=by
 have:=kf hn
 rw[h]at this
 rw[<-gq,e]
 exact (TZ this).symm
theorem AA {w:List Nat} {k:Int} (h1: -(w.length:Int)<=k) (h2:k<w.length):j6 w k=some (rd w k):=by
 have fD:w≠[]:=fun z=>by rw[z]at h1 h2;simp at h1 h2;omega
 unfold j6 Co
 by_cases h0:0<=k
 ·rw[if_pos h0,if_pos h2]
  have:=fJ fD k
  rw[Ue h0 h2]at this
  exact this
 ·rw[if_neg h0,if_pos h1]
  have:=fJ fD (k+w.length)
  rw[eF,Ue (by omega) (by omega)]at this
  exact this
theorem gs {f:Int->Nat} {p:Nat} (P: ∀k,f (k+p)=f k) (k:Int): ∀t:Nat,f (k+t*p)=f k
 | 0=>by simp
 | t+1=>by
  have:k+((t+1:Nat):Int)*p=k+t*p+p:=by rw[Ud,Int.add_mul];simp;omega
  rw[this,P,gs P k t]
theorem fw {f g:Int->Nat} {p q:Nat} (hp:0<p) (hq:0<q) (Pf: ∀k,f (k+p)=f k) (Pg: ∀k,g (k+q)=g k) (h: ∀n:Nat,n<p+q->f n=g n) (k:Int):f k=g k:=by
 have up: ∀N n:Nat,n<N->f n=g n:=by
  intro N
  induction N with
  | zero=>intro n hn;omega
  | succ N ih=>
   intro n hn
   by_cases z:n<p+q
   ·exact h n z
   ·have e1:f n=f ((n - p:Nat):Int):=by have:=Pf ((n - p:Nat):Int);rwa [show ((n - p:Nat):Int)+p=n by omega]at this
    have e2:g ((n - p:Nat):Int)=g ((n - p - q:Nat):Int):=by have:=Pg ((n - p - q:Nat):Int);rwa [show ((n - p - q:Nat):Int)+q=((n - p:Nat):Int) by omega]at this
    have e3:f ((n - q:Nat):Int)=f ((n - p - q:Nat):Int):=by have:=Pf ((n - p - q:Nat):Int);rwa [show ((n - p - q:Nat):Int)+p=((n - q:Nat):Int) by omega]at this
    have e4:g n=g ((n - q:Nat):Int):=by have:=Pg ((n - q:Nat):Int);rwa [show ((n - q:Nat):Int)+q=n by omega]at this
    rw[e1,ih (n - p) (by omega),e2, <-ih (n - p - q) (by omega), <-e3,ih (n - q) (by omega), <-e4]
 have Aj: ∃m:Nat,k+((k.natAbs*q:Nat):Int)*p=m/\k+((k.natAbs*p:Nat):Int)*q=m:=by
  have e1:((k.natAbs*q:Nat):Int)*p=((k.natAbs*(q*p):Nat):Int):=by rw[Nat.mul_assoc k.natAbs q p |>.symm];simp
  have e2:((k.natAbs*p:Nat):Int)*q=((k.natAbs*(q*p):Nat):Int):=by rw[U3 q p,Nat.mul_assoc k.natAbs p q |>.symm];simp
  have hle:k.natAbs<=k.natAbs*(q*p):=Nat.le_mul_of_pos_right _ (Nat.mul_pos hq hp)
  generalize k.natAbs*(q*p)=M at e1 e2 hle
  exact ⟨(k+M).toNat,by omega,by omega⟩
 obtain ⟨m,h1,h2⟩:=Aj
 rw[<-gs Pf k (k.natAbs*q),h1, <-gs Pg k (k.natAbs*p),h2]
 exact up (m+1) m (UW m)
noncomputable def iD (f g:Int->Nat):Nat->Nat->Nat
 | 0,i=>i
 | n+1,i=>if f i=g i then iD f g n (i+1) else i
theorem dW (f g:Int->Nat): ∀n i:Nat,i<=iD f g n i/\iD f g n i<=i+n/\(∀j:Nat,i<=j->j<iD f g n i->f j=g j)/\(iD f g n i<i+n->f (iD f g n i)≠g (iD f g n i))
 | 0,i=>⟨Mj _,Mj _,fun j h1 h2=>absurd (Ua h1 h2) (Ut _),fun h=>absurd h (Ut _)⟩
 | n+1,i=>by
  unfold iD
  by_cases z:f i=g i
  ·rw[if_pos z]
   obtain ⟨h1,h2,h3,h4⟩:=dW f g n (i+1)
   refine ⟨by omega,by omega,fun j g1 g2=>?_,fun g1=>h4 (by omega)⟩
   by_cases e:j=i
   ·rw[e];exact z
   ·exact h3 j (by omega) g2
  ·rw[if_neg z]
   exact ⟨Mj _,by omega,fun j g1 g2=>absurd (Ua g1 g2) (Ut _),fun _=>z⟩
theorem GB {f g:Int->Nat} {n m:Nat} (h1: ∀j:Nat,j<m->f j=g j) (h2:f m≠g m) (hm:m<n):iD f g n 0=m:=by
 obtain ⟨_,b,c,d⟩:=dW f g n 0
 by_cases z:iD f g n 0<m
 ·exact absurd (h1 _ z) (d (by omega))
 ·by_cases y:m<iD f g n 0
  ·exact absurd (c m (Ti _) y) h2
  ·omega
noncomputable def al (y:List Nat) (f g:Int->Nat) (n:Nat):Nat:=
 if f 0≠g 0\/f (-1)=g (-1) then 0 else
 if gr y (ao (f (-1))) (ao (g (-1))) (f 0)=gr y (f (iD f g n 0)) (g (iD f g n 0)) (ao (f ((iD f g n 0:Nat) - 1))) then iD f g n 0 else 0
noncomputable def ac (y:List Nat) (a b p q:Nat):Bool:=if p=a\/p=b\/q=a\/q=b then false else (gr y a p b != gr y a q b)
noncomputable def sq (w:List Nat) (i:Int):Int->Nat:=fun n=>rd w (i+n)
noncomputable def bq (v:List Nat) (j:Int):Int->Nat:=fun n=>ao (rd v (j - n))
theorem bX (w:List Nat) (i k:Int):sq w i (k+w.length)=sq w i k:=by unfold sq;rw[<-Wt,eF]
theorem vh (w:List Nat) (k:Int):rd w (k - w.length)=rd w k:=by rw[<-eF w (k - w.length)];congr 1;omega
theorem kg (w:List Nat) (i k:Int):bq w i (k+w.length)=bq w i k:=by unfold bq;rw[show i - (k+(w.length:Int))=i - k - w.length by omega,vh]
theorem kh {v:List Nat} (h:v≠[]) (k:Int):rd (gm v) k=ao (rd v (-1 - k)):=by
 have Aj:0<v.length:=Pe.mpr h
 have h1:=US k (b:=(v.length:Int)) (by omega)
 have h2:=UM k (b:=(v.length:Int)) (by omega)
 have e:(-1 - k)%(v.length:Int)=v.length - 1 - k%v.length:=by
  have e1:=Wi k v.length
  have: -1 - k=(v.length - 1 - k%v.length)+v.length*(-(k / v.length) - 1):=by rw[Int.mul_sub,Int.mul_neg];omega
  rw[this,Int.add_mul_emod_self_left,Ue (by omega) (by omega)]
 generalize hr:k%(v.length:Int)=r at h1 h2 e
 obtain ⟨n,rfl⟩: ∃n:Nat,r=n:=⟨r.toNat,by omega⟩
 have hn:n<v.length:=by omega
 have e2:rd v (-1 - k)=v[v.length - 1 - n]'(by omega):=w5 (n:=v.length - 1 - n) (by omega) (by rw[e];omega) (FW (by omega))
 rw[e2]
 refine w5 (n:=n) (by rw[b7];exact hn) (by rw[b7];exact hr) ?_
 unfold gm
 rw[VB (by rw[HX];exact hn),HX,TQ,FW (by omega)]
 rfl
theorem GC {v:List Nat} (h:v≠[]) (j:Nat):sq (gm v) ((v.length:Int) - 1 - j)=bq v j:=by
 funext n
 unfold sq bq
 rw[kh h,show -1 - ((v.length:Int) - 1 - j+n)=j - n - v.length by omega,vh]
structure SW (y w:List Nat):Prop where
 ne:w≠[]
 bH: ∀c∈w,c∈y
 red: ∀k:Int,rd w k≠ao (rd w (k - 1))
theorem SW.rd {y w:List Nat} (h:SW y w) (k:Int):rd w k∈y:=h.bH _ (qD h.ne k)
theorem fX {w v:List Nat} {f g:Int->Nat} (hw:w≠[]) (hv:v≠[]) (pf: ∀k,f (k+w.length)=f k) (pg: ∀k,g (k+v.length)=g k) (h:f (-1)≠g (-1)):iD f g (w.length+v.length) 0<w.length+v.length/\f (iD f g (w.length+v.length) 0)≠g (iD f g (w.length+v.length) 0):=by
 obtain ⟨_,b,c,d⟩:=dW f g (w.length+v.length) 0
 by_cases z:iD f g (w.length+v.length) 0<w.length+v.length
 ·exact ⟨z,d (by omega)⟩
 ·exact absurd (fw (Pe.mpr hw) (Pe.mpr hv) pf pg (fun n hn=>c n (Ti _) (by omega)) (-1)) h
noncomputable def s_ (ws:List (List Nat)):Nat->List (Nat×Nat)
 | 0=>[]
 | n+1=>s_ ws n++(List.range (ws.getD n []).length).map fun i=>(n,i)
noncomputable def places (ws:List (List Nat)):List (Nat×Nat):=s_ ws ws.length
theorem lT {ws:List (List Nat)}: ∀{n:Nat} {o:Nat×Nat},o∈s_ ws n↔o.1<n/\o.2<(ws.getD o.1 []).length
 | 0,o=>by simp[s_]
 | n+1,o=>by
  unfold s_
  rw[T9,lT (n:=n),T3]
  constructor
  ·rintro (⟨h1,h2⟩ | ⟨i,hi,rfl⟩)
   ·exact ⟨by omega,h2⟩
   ·exact ⟨by simp,Ux.mp hi⟩
  ·rintro ⟨h1,h2⟩
   by_cases z:o.1<n
   ·exact .inl ⟨z,h2⟩
   ·have e:o.1=n:=by omega
    exact .inr ⟨o.2,Ux.mpr (by rw[<-e];exact h2),by rw[<-e]⟩
theorem w6 {ws:List (List Nat)}: ∀n:Nat,(s_ ws n).Pairwise fun a b=>Cq a.1 a.2 b.1 b.2=true
 | 0=>List.Pairwise.nil
 | n+1=>by
  unfold s_
  rw[U4]
  refine ⟨w6 n,?_,fun a ha b hb=>?_⟩
  ·rw[UC]
   refine List.pairwise_lt_range.imp fun {a b} h=>?_
   unfold Cq
   rw[if_pos rfl]
   exact decide_eq_true (by show (a:Int)<b;omega)
  ·obtain ⟨i,hi,rfl⟩:=T3.mp hb
   have:=(lT.mp ha).1
   unfold Cq
   rw[if_neg (by show ¬((a.1:Nat):Int)=(n:Nat);omega)]
   exact decide_eq_true (by show ((a.1:Nat):Int)<(n:Nat);omega)
theorem ki: ∀{a b:List Int},bu a b=true->bu b a=false/\a≠b
 | [],[],h=>by simp[bu]at h
 | [],_::_,h=>⟨rfl,by simp⟩
 | _::_,[],h=>by simp[bu]at h
 | x::r,z::t,h=>by
  simp only[bu]at h ⊢
  split at h
  ·rename_i e
   obtain ⟨h1,h2⟩:=ki h
   rw[if_pos e.symm]
   exact ⟨h1,fun q=>h2 (List.cons.inj q).2⟩
  ·rename_i e
   have h':=of_decide_eq_true h
   rw[if_neg (fun q=>e q.symm)]
   exact ⟨decide_eq_false (by omega),fun q=>e (List.cons.inj q).1⟩
def Rm (w:List Nat):Prop:= ∀(k a b:Nat),w[k]? =some a->w[k+1]? =some b->b≠ao a
theorem SW.Rn {y w:List Nat} (h:SW y w):Rm w:=fun k a b h1 h2=>by
 have hk:=(FX.mp h2).1
 have e1:=kf (w:=w) (k:=k) (by omega)
 have e2:=kf (w:=w) (k:=k+1) hk
 rw[h1]at e1
 rw[h2]at e2
 rw[TZ e1,TZ e2]
 have:=h.red ((k+1:Nat):Int)
 rwa [show (((k+1:Nat):Int) - 1)=(k:Int) by omega]at this
theorem qE {w:List Nat} {n:Nat} (h:w≠[]) (hn:n<=w.length) (k:Int):rd (w.drop n++w.take n) k=rd w (k+n):=by
 have Aj:0<w.length:=Pe.mpr h
 have hl:(w.drop n++w.take n).length=w.length:=by rw[Tn,T6,T4];omega
 have h1:=US k (b:=(w.length:Int)) (by omega)
 have h2:=UM k (b:=(w.length:Int)) (by omega)
 have e:(k+n)%(w.length:Int)=(k%w.length+n)%w.length:=by rw[WH]
 generalize hr:k%(w.length:Int)=r at h1 h2 e
 obtain ⟨m,rfl⟩: ∃m:Nat,r=m:=⟨r.toNat,by omega⟩
 have hm:m<w.length:=by omega
 by_cases z:m+n<w.length
 ·have hg:w[m+n]? =some (rd w (k+n)):=by
   have:=fJ h (k+n)
   rwa [e,Ue (by omega) (by omega),show ((m:Int)+n).toNat=m+n by omega]at this
  refine w5 (n:=m) (by rw[hl];exact hm) (by rw[hl];exact hr) ?_
  rw[U1 (by rw[T6];omega),UY,Nat.add_comm]
  exact hg
 ·have hg:w[m+n - w.length]? =some (rd w (k+n)):=by
   have:=fJ h (k+n)
   have e2:((m:Int)+n)%w.length=((m+n - w.length:Nat):Int):=by
    have:(m:Int)+n=((m+n - w.length:Nat):Int)+w.length:=by omega
    rw[this,Vd,Ue (by omega) (by omega)]
   rwa [e,e2,Pj]at this
  refine w5 (n:=m) (by rw[hl];exact hm) (by rw[hl];exact hr) ?_
  rw[UZ (by rw[T6];omega),T6,VT,if_pos (by omega),show m - (w.length - n)=m+n - w.length by omega]
  exact hg
theorem SW.da {y w:List Nat} {n:Nat} (h:SW y w) (hn:n<=w.length):SW y (w.drop n++w.take n):=by
 refine ⟨fun z=>h.ne ?_,fun c hc=>?_,fun k=>?_⟩
 ·have l0:(w.drop n++w.take n).length=0:=by rw[z];rfl
  rw[Tn,T6,T4]at l0
  exact UD.mp (by omega)
 ·exact h.bH c ((T9.mp hc).elim Wl Wj)
 ·rw[qE h.ne hn,qE h.ne hn,show k - 1+n=k+n - 1 by omega]
  exact h.red _
theorem SW.gm {y w:List Nat} (hy:Yd y) (h:SW y w):SW y (gm w):=by
 refine ⟨fun z=>h.ne ?_,fun c hc=>?_,fun k=>?_⟩
 ·have:=b7 w
  rw[z]at this
  exact UD.mp this.symm
 ·obtain ⟨d,hd,rfl⟩:=T3.mp (WJ.mp hc)
  exact hy.cl d (h.bH d hd)
 ·rw[kh h.ne,kh h.ne,show -1 - (k - 1)= -1 - k+1 by omega]
  intro q
  have l1:=hy.lt _ (h.rd (-1 - k))
  have l2:=hy.lt _ (h.rd (-1 - k+1))
  rw[aG l2]at q
  have:=h.red (-1 - k+1)
  rw[show -1 - k+1 - 1= -1 - k by omega]at this
  exact this q.symm
theorem Dw {w:List Nat} (h:w≠[]):w.getLast? =some (rd w (-1)):=by
 have Aj:0<w.length:=Pe.mpr h
 have:=fJ h (-1)
 have e:(-1:Int)%(w.length:Int)=w.length - 1:=by
  have e2:(-1:Int)=((w.length:Int) - 1)+w.length*(-1):=by omega
  rw[e2,Int.add_mul_emod_self_left,Ue (by omega) (by omega)]
 rw[e]at this
 rw[List.getLast?_eq_getElem?, show w.length - 1=((w.length:Int) - 1).toNat by omega]
 exact this
theorem Dx {w:List Nat} (h:w≠[]):w.head? =some (rd w 0):=by
 have:=fJ h 0
 rw[List.head?_eq_getElem?]
 simpa using this
theorem yL (w:List Nat): ∃k,i8 w k:=by
 by_cases h:w=[]
 ·exact ⟨0, .inl ⟨h,rfl⟩⟩
 ·obtain ⟨k,_,_,t⟩:=mT h
  exact ⟨k,t⟩
theorem bA.turn {w:List Nat} {s:Nat} (h:bA w s):i8 w s:=by
 obtain ⟨k,t⟩:=yL w
 rw[iA h t];exact t
theorem bA.least {w:List Nat} {s j:Nat} (h:bA w s) (j1:1<=j) (j2:j<s) (hp:ui w j):False:=by
 rcases h.turn with ⟨_,e⟩ | ⟨h1,h2,h3,h4⟩
 ·omega
 ·have hn:w≠[]:=fun z=>by rw[z]at h2;simp at h2;omega
  exact h4 j j1 j2 ((fB hn (by omega)).mpr hp)
theorem SW.Ro {y w:List Nat} (hy:Yd y) (h:SW y w):vf w:=As fun k a b ha hb e=>by
 have ET:b∈y:=h.bH b (TU hb)
 have:=h.Rn k a b ha hb
 rw[e,aG (hy.lt b ET)]at this
 exact this rfl
theorem SW.core {y w:List Nat} (hy:Yd y) (h:SW y w):My.core (My.red w)=w:=by
 rw[Aq (h.Ro hy)]
 by_cases z:w.length<2
 ·exact gn z
 ·obtain ⟨a,m,e,hw⟩:=Au (l:=w) (by omega)
  have h0:=Dx h.ne
  have h1:=Dw h.ne
  have hr:=h.red 0
  rw[show (0:Int) - 1= -1 by omega]at hr
  rw[hw]at h0 h1 hr ⊢
  have e0:a=My.rd (a::(m++[e])) 0:=TZ h0
  have e1:e=My.rd (a::(m++[e])) (-1):=by
   have:(a::(m++[e])).getLast? =some e:=by rw[<-List.cons_append,List.getLast?_append];rfl
   exact TZ (this.symm.trans h1)
  exact ke (by rw[<-e0, <-e1]at hr;exact hr)
theorem qF {w:List Nat} {k:Nat} (hk:k<=w.length) (i:Nat):Fw (da w k) i=Fw w (i+k):=by
 by_cases z:w=[]
 ·subst z
  unfold Fw da
  simp
 ·have hp:0<w.length:=Pe.mpr z
  have e:Fw (da w k) i=(da w k)[i%w.length]?:= by unfold Fw;rw[b8]
  rw[e,lS hk (U_ _ hp),Aw]
theorem w9 {w:List Nat} {k s:Nat} (hk:k<=w.length) (hn:w≠[]):ui (da w k) s↔ui w s:=by
 constructor
 ·intro h i
  have h1:=h (i+(w.length - k))
  rw[qF hk,qF hk]at h1
  have e1:i+(w.length - k)+s+k=i+s+w.length:=by omega
  have e2:i+(w.length - k)+k=i+w.length:=by omega
  rw[e1,e2,ui.whole w,ui.whole w]at h1
  exact h1
 ·intro h i
  rw[qF hk,qF hk,show i+s+k=i+k+s by omega]
  exact h _
theorem pj {w:List Nat} (hn:w≠[]) {s:Nat} (h:bA w s):i8 w s:=by
 obtain ⟨k,r,_,g⟩:=mT hn
 rw[iA h g]
 exact g
theorem AB {w:List Nat} {k s:Nat} (hk:k<=w.length) (hn:w≠[]) (h:i8 (da w k) s):i8 w s:=by
 have wD:da w k≠[]:=fun z=>hn (UD.mp (by have:=b8 w k;rw[z]at this;exact this.symm))
 rcases h with ⟨z,_⟩ | ⟨h1,h2,h3,h4⟩
 ·exact absurd z wD
 ·rw[b8]at h2
  refine .inr ⟨h1,h2,(fB hn h2).mpr ((w9 hk hn).mp ((fB wD (by rw[b8];exact h2)).mp h3)),fun j j1 j2 j3=>h4 j j1 j2 ?_⟩
  exact (fB wD (by rw[b8];omega)).mpr ((w9 hk hn).mpr ((fB hn (by omega)).mp j3))
theorem yM {y w:List Nat} {s t:Nat} (hy:Yd y) (h:SW y w) (hr:bA (cZ w) s) (hw:bA w t):s=t/\(cZ w).length=w.length:=by
 have e:cZ w=eK w:=by unfold cZ;rw[h.core hy]
 obtain ⟨k,ek⟩:=pb w
 have zm: ∃k,k<=w.length/\eK w=da w k:=by
  by_cases z:k<=w.length
  ·exact ⟨k,z,ek⟩
  ·refine ⟨w.length,Mj _,?_⟩
   rw[ek]
   unfold da
   rw[UQ (by omega),Uc (by omega),List.drop_length,UT]
 obtain ⟨k,hk,ek⟩:=zm
 rw[e,ek]at hr ⊢
 have wD:da w k≠[]:=fun z=>h.ne (UD.mp (by have:=b8 w k;rw[z]at this;exact this.symm))
 refine ⟨?_,b8 w k⟩
 exact (iA hw (AB hk h.ne (pj wD hr))).symm
theorem w_ {w:List Nat} (hn:w≠[]): ∃s,bA w s:=by
 obtain ⟨k,r,_,g⟩:=mT hn
 rcases g with ⟨z,_⟩ | ⟨h1,h2,h3,h4⟩
 ·exact absurd z hn
 ·exact ⟨k, .inr ⟨h1,h2,pe hn h1 h2 h3 h4,fun j j1 j2 j3=>h4 j j1 j2 (lR j1 (by omega) j3)⟩⟩
theorem AD {w:List Nat} {s t:Nat} (hn:w≠[]) (h:bA w s) (g:bA w t):s=t:=iA h (pj hn g)
theorem qG {a b:List Nat} {e:Nat} (hn:(a++b).Nodup) (he:e∈a++b):(b++a).idxOf e=if (a++b).idxOf e<a.length then (a++b).idxOf e+b.length else (a++b).idxOf e - a.length:=by
 rw[UP]at hn
 obtain ⟨na,nb,Rp⟩:=hn
 by_cases z:e∈a
 ·have zb:e∉b:=fun q=>Rp e z e q rfl
  rw[VV,VV,if_pos z,if_neg zb,if_pos (Ph z)]
 ·have zb:e∈b:=(T9.mp he).resolve_left z
  rw[VV,VV,if_pos zb,if_neg z,if_neg (by omega)]
  omega
structure Ib (y:List Nat) (ws:List (List Nat)):Prop where
 sw: ∀w∈ws,SW y w/\w.length<=12
 Lg:ws.length<=4
 all:(places ws).length<=24
theorem getD_in {ws:List (List Nat)} {c:Nat} (h:c<ws.length):ws.getD c []∈ws:=by
 rw[QQ,FW h];exact Uy h
def gY (_:PySem.W.Frag):Sp:=fun vs H Q _=> ∃(w:List Nat) (i:Nat),vs=[.str (S w), .int i]/\(∀c∈w,Lt c)/\w.length<=1000/\i<w.length/\ ∀q H',H q=none->H' q=some (.tup [.str (S [ao (rd w ((i:Int) - 1))]), .str (S [rd w i])])->au H H'->Q (.ref q) H'
theorem lB {K:PySem.W.Frag} {vs:List V} {H:Hp} {Q:VK} {E:XK} (h:gY K vs H Q E):vs.length=2:=by obtain ⟨_,_,rfl,_⟩:=h;rfl
theorem qH {ws:List (List Nat)} {m:Nat} (h: ∀w∈ws,w.length<=m): ∀n:Nat,n<=ws.length->(s_ ws n).length<=n*m
 | 0,_=>Ti _
 | n+1,hn=>by
  unfold s_
  have:=qH h n (by omega)
  have h2:=h _ (getD_in (ws:=ws) (c:=n) (by omega))
  rw[Tn,HX,Vh,V8]
  omega
theorem Dy {y w u:List Nat} (hw:SW y w) (hu:SW y u) (lw:w.length<=12) (lu:u.length<=12):Ib y [w,u]:=by
 refine ⟨fun x hx=>?_,by show 2<=4;decide,?_⟩
 ·rcases QS.mp hx with g | g
  ·rw[g];exact ⟨hw,lw⟩
  ·rw[QU.mp g];exact ⟨hu,lu⟩
 ·have:=qH (ws:=[w,u]) (m:=12) (fun x hx=>by
   rcases QS.mp hx with g | g
   ·rw[g];exact lw
   ·rw[QU.mp g];exact lu) 2 (Mj _)
  exact this
noncomputable def tf (y:List Nat) (a b:Nat):Int:=((y.idxOf b:Int) - (y.idxOf a:Int))%(y.length:Int)
noncomputable def dF (y:List Nat) (f:Int->Nat) (k:Int):Int:=tf y (ao (f (k - 1))) (f k)
structure fS (y:List Nat) (f:Int->Nat):Prop where
 bH: ∀k,f k∈y
 red: ∀k,f k≠ao (f (k - 1))
structure Run (f g:Int->Nat) (a b:Nat):Prop where
 kj: ∀k:Int, -(b:Int)<=k->k<=a->f k=g k
 hi:f (a+1)≠g (a+1)
 lo:f (-(b:Int) - 1)≠g (-(b:Int) - 1)
noncomputable def iN (f:Int->Nat):Int->Nat:=fun k=>ao (f (-k))
noncomputable def cK (f:Int->Nat):Int->Nat:=fun k=>f (k - 1)
noncomputable def fE (y:List Nat) (f g:Int->Nat) (a:Nat):Bool:=decide (dF y f (a+1)<dF y g (a+1))
noncomputable def fK (y:List Nat) (f g:Int->Nat) (b:Nat):Bool:=decide (dF y f (-(b:Int))<dF y g (-(b:Int)))
noncomputable def rN (x a b:Nat):Bool:=decide (b<a\/(a=b/\aA x=false))
noncomputable def vm (y:List Nat) (f g:Int->Nat) (a b:Nat):Bool:=if rN (f 0) a b=true then fK y f g b else fE y f g a
theorem Run.one {f g:Int->Nat} {a b a' b':Nat} (h:Run f g a b) (h':Run f g a' b'):a=a'/\b=b':=by
 constructor
 ·by_cases z:a<a'
  ·exact absurd (h'.kj (a+1) (by omega) (by omega)) h.hi
  ·by_cases z2:a'<a
   ·exact absurd (h.kj (a'+1) (by omega) (by omega)) h'.hi
   ·omega
 ·by_cases z:b<b'
  ·exact absurd (h'.kj (-(b:Int) - 1) (by omega) (by omega)) h.lo
  ·by_cases z2:b'<b
   ·exact absurd (h.kj (-(b':Int) - 1) (by omega) (by omega)) h'.lo
   ·omega
theorem Run.bk {f g:Int->Nat} {a b:Nat} (h:Run f g a (b+1)):Run (cK f) (cK g) (a+1) b:=
 ⟨fun k h1 h2=>h.kj (k - 1) (by omega) (by omega),fun z=>h.hi (by
  unfold cK at z
  rwa [show ((a+1:Nat):Int)+1 - 1=a+1 by omega]at z),fun z=>h.lo (by
  unfold cK at z
  rwa [show -(b:Int) - 1 - 1= -((b+1:Nat):Int) - 1 by omega]at z)⟩
theorem Run.fd {f g:Int->Nat} {a b:Nat} (h:Run (cK f) (cK g) (a+1) b):Run f g a (b+1):=
 ⟨fun k h1 h2=>by
  have:=h.kj (k+1) (by omega) (by omega)
  unfold cK at this
  rwa [show k+1 - 1=k by omega]at this,fun z=>h.hi (by
  unfold cK
  rwa [show ((a+1:Nat):Int)+1 - 1=a+1 by omega]),fun z=>h.lo (by
  unfold cK
  rwa [show -(b:Int) - 1 - 1= -((b+1:Nat):Int) - 1 by omega])⟩
theorem lU (y:List Nat) (f:Int->Nat) (k:Int):dF y (cK f) k=dF y f (k - 1):=rfl
theorem jF (y:List Nat) (f g:Int->Nat) (a:Nat):fE y (cK f) (cK g) (a+1)=fE y f g a:=by
 unfold fE
 rw[lU,lU,show ((a+1:Nat):Int)+1 - 1=a+1 by omega]
theorem jG (y:List Nat) (f g:Int->Nat) (b:Nat):fK y (cK f) (cK g) b=fK y f g (b+1):=by
 unfold fK
 rw[lU,lU,show -(b:Int) - 1= -((b+1:Nat):Int) by omega]
theorem AE {x z a b:Nat} (h:rN x a (b+1)=true):rN z (a+1) b=true:=by
 unfold rN at h ⊢
 have:=of_decide_eq_true h
 exact decide_eq_true (by omega)
theorem dG {y:List Nat} {a b:Nat} (ha:a∈y) (hb:b∈y) (h:a≠b):0<tf y a b/\tf y a b<y.length/\tf y b a=y.length - tf y a b:=by
 have ia:=Ph ha
 have ib:=Ph hb
 have n:=bL ha hb h
 unfold tf
 rw[gW ia ib,gW ib ia]
 generalize y.idxOf a=i at*
 generalize y.idxOf b=j at*
 split<;>split<;>omega
theorem jH {y:List Nat} {a b c:Nat} (ha:a∈y) (hb:b∈y) (hc:c∈y) (h:tf y a b=tf y a c):b=c:=by
 have ia:=Ph ha
 have ib:=Ph hb
 have ic:=Ph hc
 refine Classical.byContradiction fun z=>bL hb hc z ?_
 unfold tf at h
 rw[gW ia ib,gW ia ic]at h
 split at h<;>split at h<;>omega
theorem fS.rv {y:List Nat} {f:Int->Nat} (hy:Yd y) (h:fS y f):fS y (iN f):=⟨fun k=>hy.cl _ (h.bH _),fun k z=>by
 unfold iN at z
 have e:=aG (hy.lt _ (h.bH (-(k - 1))))
 rw[e]at z
 have:=h.red (-(k - 1))
 rw[show -(k - 1) - 1= -k by omega]at this
 exact this z.symm⟩
theorem kU {y:List Nat} {f:Int->Nat} (hy:Yd y) (h:fS y f):iN (iN f)=f:=by
 funext k
 unfold iN
 rw[aG (hy.lt _ (h.bH _)),Int.neg_neg]
theorem gZ {y:List Nat} {f:Int->Nat} (hy:Yd y) (h:fS y f) (k:Int):dF y (iN f) (k+1)=y.length - dF y f (-k):=by
 unfold dF iN
 rw[show k+1 - 1=k by omega,aG (hy.lt _ (h.bH _)),show -(k+1)= -k - 1 by omega]
 exact (dG (hy.cl _ (h.bH _)) (h.bH _) (Ne.symm (h.red _))).2.2
theorem Run.rv {y:List Nat} {f g:Int->Nat} {a b:Nat} (hy:Yd y) (hf:fS y f) (hg:fS y g) (h:Run f g a b):Run (iN f) (iN g) b a:=
 ⟨fun k h1 h2=>by unfold iN;rw[h.kj _ (by omega) (by omega)],fun z=>h.lo (by
  unfold iN at z
  have:=cT (hy.lt _ (hf.bH _)) (hy.lt _ (hg.bH _)) z
  rwa [show -((b:Int)+1)= -(b:Int) - 1 by omega]at this),fun z=>h.hi (by
  unfold iN at z
  have:=cT (hy.lt _ (hf.bH _)) (hy.lt _ (hg.bH _)) z
  rwa [show -(-(a:Int) - 1)=a+1 by omega]at this)⟩
theorem eO: ∀c∈aM++i4,aA (ao c)=!aA c:=by decide+kernel
theorem GD {y:List Nat} {f g:Int->Nat} {a b:Nat} (hy:Yd y) (hf:fS y f) (hg:fS y g) (h0:f 0=g 0):vm y (iN g) (iN f) b a=vm y f g a b:=by
 have e1:fK y (iN g) (iN f) a=fE y f g a:=by
  unfold fK fE
  have h1:=gZ hy hf (-(a:Int) - 1)
  have h2:=gZ hy hg (-(a:Int) - 1)
  rw[show -(a:Int) - 1+1= -a by omega,show -(-(a:Int) - 1)=a+1 by omega]at h1 h2
  rw[h1,h2]
  exact decide_eq_decide.mpr (by omega)
 have e2:fE y (iN g) (iN f) b=fK y f g b:=by
  unfold fK fE
  rw[gZ hy hf,gZ hy hg]
  exact decide_eq_decide.mpr (by omega)
 unfold vm
 rw[e1,e2]
 have e3:rN (iN g 0) b a=!rN (f 0) a b:=by
  unfold rN iN
  rw[show (-0:Int)=0 from rfl, <-h0,eO _ (hy.lt _ (hf.bH 0)).mem]
  rw[<-decide_not]
  refine decide_eq_decide.mpr ?_
  cases aA (f 0)
  ·simp;omega
  ·simp;omega
 rw[e3]
 cases rN (f 0) a b<;>rfl
def uB (y:List Nat) (f g:Int->Nat):Prop:= ∃a b,Run f g a b/\rN (f 0) a b=true/\fE y f g a≠fK y f g b
def i9 (y:List Nat) (f g:Int->Nat):Prop:= ∃a,Run f g a 0/\fE y f g a≠fK y f g 0
open Classical in
noncomputable def one (p:Prop):Int:=if p then 1 else 0
theorem dX {p:Prop} (h:p):one p=1:=by unfold one;rw[if_pos h]
theorem aR {p:Prop} (h: ¬p):one p=0:=by unfold one;rw[if_neg h]
theorem aY {p q:Prop} (h:p↔q):one p=one q:=by rw[propext h]
theorem Run.zero {f g:Int->Nat} {a b:Nat} (h:Run f g a b):f 0=g 0:=h.kj 0 (by omega) (by omega)
theorem AF {y:List Nat} {f g:Int->Nat} {e0 e1:Bool} {m:Prop}
  (r0:f 0=g 0-> ∃a b,Run f g a b) (r1:f (-1)=g (-1)-> ∃a b,Run (cK f) (cK g) a b)
  (h0: ∀a b,Run f g a b->e0=vm y f g a b) (h1: ∀a b,Run (cK f) (cK g) a b->e1=vm y (cK f) (cK g) a b)
  (ma:f 0=g 0->f (-1)≠g (-1)->(m↔e0≠fK y f g 0)) (mb:f (-1)=g (-1)->f 0≠g 0->(m↔e1≠fE y (cK f) (cK g) 0)) (mc:f (-1)=g (-1)->f 0=g 0->(m↔e1≠e0))
  (t:f 0=g 0\/f (-1)=g (-1)):one m=one (i9 y f g)+one (uB y (cK f) (cK g)) - one (uB y f g):=by
 have hb: ∀{a b},Run (cK f) (cK g) a b->f (-1)=g (-1):=fun h=>h.zero
 by_cases z0:f 0=g 0
 ·obtain ⟨a,b,r⟩:=r0 z0
  have e:=h0 a b r
  unfold vm at e
  have hu:uB y f g↔(rN (f 0) a b=true/\fE y f g a≠fK y f g b):=⟨fun ⟨a',b',r',x⟩=>by obtain ⟨rfl,rfl⟩:=r.one r';exact x,fun x=>⟨a,b,r,x⟩⟩
  by_cases z1:f (-1)=g (-1)
  ·cases b with
   | zero=>exact absurd z1 r.lo
   | succ b=>
    have r2:=r.bk
    have e2:=h1 _ _ r2
    unfold vm at e2
    have Lh:uB y (cK f) (cK g)↔(rN (cK f 0) (a+1) b=true/\fE y f g a≠fK y f g (b+1)):=⟨fun ⟨a',b',r',x⟩=>by
     obtain ⟨rfl,rfl⟩:=r2.one r'
     rw[jF,jG]at x;exact x,fun x=>⟨_,_,r2,by rw[jF,jG];exact x⟩⟩
    rw[jF,jG]at e2
    have Li: ¬i9 y f g:=fun ⟨a',r',_⟩=>absurd (r.one r').2 (VC b)
    rw[aR Li,aY hu,aY Lh,aY (mc z1 z0),e,e2]
    have mono:= @AE (f 0) (cK f 0) a b
    generalize rN (f 0) a (b+1)=B0 at*
    generalize rN (cK f 0) (a+1) b=B1 at*
    generalize fE y f g a=A at*
    generalize fK y f g (b+1)=C at*
    revert mono
    cases B0<;>cases B1<;>cases A<;>cases C<;>simp[one]
  ·have b0:b=0:=by
    cases b with
    | zero=>rfl
    | succ b=>exact absurd (r.kj (-1) (by omega) (by omega)) z1
   subst b0
   have Lh: ¬uB y (cK f) (cK g):=fun ⟨_,_,r',_⟩=>z1 (hb r')
   have Li:i9 y f g↔fE y f g a≠fK y f g 0:=⟨fun ⟨a',r',x⟩=>by obtain ⟨rfl,_⟩:=r.one r';exact x,fun x=>⟨a,r,x⟩⟩
   rw[aR Lh,aY Li,aY hu,aY (ma z0 z1),e]
   generalize rN (f 0) a 0=B0 at*
   generalize fE y f g a=A at*
   generalize fK y f g 0=C at*
   cases B0<;>cases A<;>cases C<;>simp[one]
 ·have z1:=t.resolve_left z0
  obtain ⟨a,b,r⟩:=r1 z1
  have a0:a=0:=by
   cases a with
   | zero=>rfl
   | succ a=>exact absurd (r.fd.zero) z0
  subst a0
  have e:=h1 _ _ r
  unfold vm at e
  have Rq: ¬uB y f g:=fun ⟨_,_,r',_⟩=>z0 r'.zero
  have Li: ¬i9 y f g:=fun ⟨_,r',_⟩=>z0 r'.zero
  have Lh:uB y (cK f) (cK g)↔(rN (cK f 0) 0 b=true/\fE y (cK f) (cK g) 0≠fK y (cK f) (cK g) b):=⟨fun ⟨a',b',r',x⟩=>by
   obtain ⟨rfl,rfl⟩:=r.one r';exact x,fun x=>⟨_,_,r,x⟩⟩
  rw[aR Rq,aR Li,aY Lh,aY (mb z1 z0),e]
  generalize rN (cK f 0) 0 b=B0 at*
  generalize fE y (cK f) (cK g) 0=A at*
  generalize fK y (cK f) (cK g) b=C at*
  cases B0<;>cases A<;>cases C<;>simp[one]
theorem cP {f g:Int->Nat} {p q:Nat} (hp:0<p) (hq:0<q) (Pf: ∀k,f (k+p)=f k) (Pg: ∀k,g (k+q)=g k) (h0:f 0=g 0) (hn: ∃k,f k≠g k): ∃a b,Run f g a b/\a<p+q/\b<p+q:=by
 obtain ⟨k0,PC⟩:=hn
 have up: ∃a:Nat,a<p+q/\(∀j:Nat,j<a->f (j+1)=g (j+1))/\f (a+1)≠g (a+1):=by
  obtain ⟨_,b,c,d⟩:=dW (fun k=>f (k+1)) (fun k=>g (k+1)) (p+q) 0
  by_cases z:iD (fun k=>f (k+1)) (fun k=>g (k+1)) (p+q) 0<p+q
  ·exact ⟨_,z,fun j hj=>c j (Ti _) hj,d (by omega)⟩
  ·refine absurd ?_ PC
   have:=fw (f:=fun k=>f (k+1)) (g:=fun k=>g (k+1)) hp hq (fun k=>by rw[show k+(p:Int)+1=k+1+p by omega];exact Pf _) (fun k=>by rw[show k+(q:Int)+1=k+1+q by omega];exact Pg _) (fun n hn=>c n (Ti _) (by omega)) (k0 - 1)
   rwa [show k0 - 1+1=k0 by omega]at this
 have Rr: ∀k,f (-(k+p))=f (-k):=fun k=>by have:=Pf (-(k+p));rw[<-this];congr 1;omega
 have Rt: ∀k,g (-(k+q))=g (-k):=fun k=>by have:=Pg (-(k+q));rw[<-this];congr 1;omega
 have dn: ∃a:Nat,a<p+q/\(∀j:Nat,j<a->f (-(j:Int) - 1)=g (-(j:Int) - 1))/\f (-(a:Int) - 1)≠g (-(a:Int) - 1):=by
  obtain ⟨_,b,c,d⟩:=dW (fun k=>f (-k - 1)) (fun k=>g (-k - 1)) (p+q) 0
  by_cases z:iD (fun k=>f (-k - 1)) (fun k=>g (-k - 1)) (p+q) 0<p+q
  ·exact ⟨_,z,fun j hj=>c j (Ti _) hj,d (by omega)⟩
  ·refine absurd ?_ PC
   have:=fw (f:=fun k=>f (-k - 1)) (g:=fun k=>g (-k - 1)) hp hq (fun k=>by have:=Rr (k+1);rw[show -(k+(p:Int)) - 1= -(k+1+p) by omega,this];congr 1;omega) (fun k=>by have:=Rt (k+1);rw[show -(k+(q:Int)) - 1= -(k+1+q) by omega,this];congr 1;omega) (fun n hn=>c n (Ti _) (by omega)) (-k0 - 1)
   rwa [show -(-k0 - 1) - 1=k0 by omega]at this
 obtain ⟨a,ha,a1,a2⟩:=up
 obtain ⟨b,hb,b1,b2⟩:=dn
 refine ⟨a,b,⟨fun k h1 h2=>?_,a2,b2⟩,ha,hb⟩
 by_cases z:k=0
 ·rw[z];exact h0
 ·by_cases z2:0<k
  ·obtain ⟨j,rfl⟩: ∃j:Nat,k=j+1:=⟨(k - 1).toNat,by omega⟩
   exact a1 j (by omega)
  ·obtain ⟨j,rfl⟩: ∃j:Nat,k= -(j:Int) - 1:=⟨(-k - 1).toNat,by omega⟩
   exact b1 j (by omega)
theorem AG {y:List Nat} {p p' x:Nat} (hy:Yd y) (hp:p∈y) (vn:p'∈y) (hx:x∈y) (h1:p≠p') (h2:p≠x) (h3:p'≠x):decide (tf y p x<tf y p' x)=!gr y p p' x:=by
 have ip:=Ph hp
 have Ru:=Ph vn
 have ix:=Ph hx
 have n1:=bL hp vn h1
 have n2:=bL hp hx h2
 have n3:=bL vn hx h3
 rw[eE hy.nd hp vn hx h1 h2 h3]
 unfold tf
 rw[gW ip ix,gW Ru ix, <-decide_not]
 refine decide_eq_decide.mpr ?_
 unfold iC
 split<;>split<;>omega
theorem qI {y:List Nat} {f g:Int->Nat} (hy:Yd y) (hf:fS y f) (hg:fS y g) (h0:f 0=g 0) (h1:f (-1)≠g (-1)):fK y f g 0=!gr y (ao (f (-1))) (ao (g (-1))) (f 0):=by
 have e:fK y f g 0=decide (tf y (ao (f (-1))) (f 0)<tf y (ao (g (-1))) (g 0)):=rfl
 rw[e, <-h0]
 have r1:=hf.red 0
 have r2:=hg.red 0
 rw[show (0:Int) - 1= -1 by omega]at r1 r2
 exact AG hy (hy.cl _ (hf.bH _)) (hy.cl _ (hg.bH _)) (hf.bH 0) (fun z=>h1 (cT (hy.lt _ (hf.bH _)) (hy.lt _ (hg.bH _)) z)) (Ne.symm r1) (by rw[h0];exact Ne.symm r2)
theorem qJ {y:List Nat} {f g:Int->Nat} {a:Nat} (h:f a=g a):fE y f g a=gr y (ao (f a)) (f (a+1)) (g (a+1)):=by
 unfold fE dF
 rw[show (a:Int)+1 - 1=a by omega, <-h]
 rfl
theorem pq {y:List Nat} {f g:Int->Nat} {n:Nat} (hy:Yd y) (hf:fS y f) (hg:fS y g) (hd:f (-1)≠g (-1)->iD f g n 0<n/\f (iD f g n 0)≠g (iD f g n 0)):i9 y f g↔0<al y f g n:=by
 unfold al
 by_cases z:f 0≠g 0\/f (-1)=g (-1)
 ·rw[if_pos z]
  refine ⟨fun ⟨a,r,_⟩=>?_,fun h=>absurd h (Ut _)⟩
  rcases z with z | z
  ·exact absurd r.zero z
  ·exact absurd z r.lo
 ·rw[if_neg z]
  have z0:f 0=g 0:=Classical.byContradiction fun q=>z (.inl q)
  have z1:f (-1)≠g (-1):=fun q=>z (.inr q)
  obtain ⟨d1,d2⟩:=hd z1
  obtain ⟨_,_,d3,_⟩:=dW f g n 0
  generalize iD f g n 0=D at*
  cases D with
  | zero=>exact absurd z0 d2
  | succ a=>
   have r:Run f g a 0:=⟨fun k h1 h2=>by
    obtain ⟨j,rfl⟩: ∃j:Nat,k=j:=⟨k.toNat,by omega⟩
    exact d3 j (Ti _) (by omega),d2,z1⟩
   have e1:((a+1:Nat):Int)=(a:Int)+1:=by omega
   rw[e1,show (a:Int)+1 - 1=a by omega]
   have Mt:=d3 a (Ti _) (UW a)
   have rf:=hf.red (a+1)
   have rg:=hg.red (a+1)
   rw[show (a:Int)+1 - 1=a by omega]at rf rg
   have Rv:f (a+1)≠g (a+1):=d2
   have eg:=Dv hy.nd (hy.cl _ (hf.bH a)) (hf.bH (a+1)) (hg.bH (a+1)) (Ne.symm rf) (by rw[Mt];exact Ne.symm rg) Rv
   rw[eg, <-qJ Mt]
   have eb:=qI hy hf hg z0 z1
   have key:i9 y f g↔fE y f g a≠fK y f g 0:=⟨fun ⟨a',r',x⟩=>by obtain ⟨rfl,_⟩:=r.one r';exact x,fun x=>⟨a,r,x⟩⟩
   rw[key,eb]
   generalize gr y (ao (f (-1))) (ao (g (-1))) (f 0)=G
   generalize fE y f g a=A
   cases G<;>cases A<;>simp
noncomputable def lC (a b a' b':Nat):Bool:=decide (iC a a' b) != decide (iC a b' b)
theorem g5 (a b a' b':Nat):lC a b a' b'=lC a b b' a':=by unfold lC;generalize decide (iC a a' b)=p;generalize decide (iC a b' b)=q;cases p<;>cases q<;>rfl
theorem tm (a b:Nat):lC a b a b=false:=by
 unfold lC
 have h1: ¬iC a a b:=by unfold iC;omega
 have h2: ¬iC a b b:=by unfold iC;omega
 rw[decide_eq_false h1,decide_eq_false h2]
 rfl
theorem iE {a b:Nat} (h:a≠b):decide (b<a)=!decide (a<b):=by
 rcases Va h with q | q
 ·rw[decide_eq_true q,decide_eq_false (VQ q)];rfl
 ·rw[decide_eq_true q,decide_eq_false (VQ q)];rfl
theorem EU {a b c:Nat} (h1:a≠b) (h2:b≠c) (h3:a≠c):decide (iC a b c)=!(decide (a<b) ^^ (decide (b<c) ^^ decide (c<a))):=by
 have e:decide (iC a b c)=((decide (a<b)&&decide (b<c))||((decide (b<c)&&decide (c<a))||(decide (c<a)&&decide (a<b)))):=by
  rw[<-WO, <-WO, <-WO, <-VU, <-VU]
  exact decide_eq_decide.mpr Iff.rfl
 rw[e]
 have k1:decide (a<b)=true->decide (b<c)=true->decide (c<a)=true->False:=fun p q r=>VQ (Vl (of_decide_eq_true p) (of_decide_eq_true q)) (of_decide_eq_true r)
 have k2:decide (b<a)=true->decide (c<b)=true->decide (a<c)=true->False:=fun p q r=>VQ (Vl (of_decide_eq_true q) (of_decide_eq_true p)) (of_decide_eq_true r)
 rw[iE h1,iE h2,iE (Ne.symm h3)]at k2
 revert k1 k2
 generalize decide (a<b)=p
 generalize decide (b<c)=q
 generalize decide (c<a)=r
 revert p q r
 decide
theorem AH {a b a' b':Nat} (h1:a≠b) (h3:a≠a') (h4:a≠b') (h5:b≠a') (h6:b≠b'):lC a b a' b'=((decide (a<a') ^^ decide (a'<b)) ^^ (decide (a<b') ^^ decide (b'<b))):=by
 unfold lC
 rw[EU h3 (Ne.symm h5) h1,EU h4 (Ne.symm h6) h1]
 generalize decide (a<a')=p
 generalize decide (a'<b)=q
 generalize decide (a<b')=r
 generalize decide (b'<b)=s
 generalize decide (b<a)=t
 revert p q r s t
 decide
theorem jI {a b a' b':Nat} (h1:a≠b) (h2:a'≠b') (h3:a≠a') (h4:a≠b') (h5:b≠a') (h6:b≠b'):lC a b a' b'=lC a' b' a b:=by
 rw[AH h1 h3 h4 h5 h6,AH h2 (Ne.symm h3) (Ne.symm h5) (Ne.symm h4) (Ne.symm h6),iE h3,iE (Ne.symm h6)]
 generalize decide (a<a')=p
 generalize decide (a'<b)=q
 generalize decide (a<b')=r
 generalize decide (b'<b)=s
 revert p q r s
 decide
theorem tu {a b a' b':Nat} (h1:a≠b) (h2:a'≠b') (h3:a≠a') (h4:a≠b') (h5:b≠a') (h6:b≠b'):lC b a a' b'=lC a b a' b':=by
 rw[jI (Ne.symm h1) h2 h5 h6 h3 h4,g5,jI h2 h1 (Ne.symm h3) (Ne.symm h5) (Ne.symm h4) (Ne.symm h6)]
theorem Dz {a b c i j k:Nat} (n1:i≠j) (n2:i≠k) (n3:j≠k) (h1:i<j->a<b) (h2:j<i->b<a) (h3:i<k->a<c) (h4:k<i->c<a) (h5:j<k->b<c) (h6:k<j->c<b):iC a b c↔iC i j k:=by
 have e: ∀{i j a b:Nat},i≠j->(i<j->a<b)->(j<i->b<a)->(i<j↔a<b):=fun {i j a b} n f g=>⟨f,fun q=>(Va n).elim id fun r=>absurd (g r) (VQ q)⟩
 unfold iC
 rw[e n1 h1 h2,e n3 h5 h6,e (Ne.symm n2) h4 h3]
def Sep (y:List Nat) (ps:List (Nat×Nat)):Prop:= ∀p∈ps, ∀q∈ps,y.idxOf p.1<y.idxOf q.1->p.2<q.2
theorem Sep.iC {y:List Nat} {ps:List (Nat×Nat)} (h:Sep y ps) {a b c:Nat×Nat} (ha:a∈ps) (hb:b∈ps) (hc:c∈ps) (n1:y.idxOf a.1≠y.idxOf b.1) (n2:y.idxOf a.1≠y.idxOf c.1) (n3:y.idxOf b.1≠y.idxOf c.1):My.iC a.2 b.2 c.2↔My.iC (y.idxOf a.1) (y.idxOf b.1) (y.idxOf c.1):=Dz n1 n2 n3 (h a ha b hb) (h b hb a ha) (h a ha c hc) (h c hc a ha) (h b hb c hc) (h c hc b hb)
theorem Sep.gr {y:List Nat} {ps:List (Nat×Nat)} (h:Sep y ps) (hn:y.Nodup) {a b c:Nat×Nat} (ha:a∈ps) (hb:b∈ps) (hc:c∈ps) (ya:a.1∈y) (yb:b.1∈y) (yc:c.1∈y) (n1:a.1≠b.1) (n2:a.1≠c.1) (n3:b.1≠c.1):decide (My.iC a.2 b.2 c.2)=My.gr y a.1 b.1 c.1:=by
 rw[eE hn ya yb yc n1 n2 n3]
 exact decide_eq_decide.mpr (h.iC ha hb hc (bL ya yb n1) (bL ya yc n2) (bL yb yc n3))
theorem Sep.same {y:List Nat} {ps:List (Nat×Nat)} (h:Sep y ps) {a b c:Nat×Nat} (ha:a∈ps) (hb:b∈ps) (hc:c∈ps) (e:b.1=c.1) (n:y.idxOf a.1≠y.idxOf c.1):My.iC a.2 b.2 c.2↔b.2<c.2:=by
 have h1:=h a ha b hb
 have h2:=h b hb a ha
 have h3:=h a ha c hc
 have h4:=h c hc a ha
 rw[e]at h1 h2
 unfold My.iC
 omega
theorem Sep.EV {y:List Nat} {ps:List (Nat×Nat)} (h:Sep y ps) {a b c:Nat×Nat} (ha:a∈ps) (hb:b∈ps) (hc:c∈ps) (e:a.1=b.1) (n:y.idxOf a.1≠y.idxOf c.1):My.iC a.2 b.2 c.2↔a.2<b.2:=by
 have h1:=h b hb c hc
 have h2:=h c hc b hb
 have h3:=h a ha c hc
 have h4:=h c hc a ha
 rw[<-e]at h1 h2
 unfold My.iC
 omega
section
variable {y:List Nat} {f g:Int->Nat} {a b a' b':Nat}
theorem GF (hy:Yd y) (hf:fS y f) (hg:fS y g) (h:Sep y [(ao (f (-1)),a),(f 0,b),(ao (g (-1)),a'),(g 0,b')]) (hb:b≠b') (z0:f 0=g 0) (z1:f (-1)≠g (-1)):lC a b a' b'=true↔decide (b<b')≠fK y f g 0:=by
 have r1:=hf.red 0
 have r2:=hg.red 0
 rw[show (0:Int) - 1= -1 by omega]at r1 r2
 have ya:=hy.cl _ (hf.bH (-1))
 have Mu:=hy.cl _ (hg.bH (-1))
 have n1:ao (f (-1))≠ao (g (-1)):=fun z=>z1 (cT (hy.lt _ (hf.bH _)) (hy.lt _ (hg.bH _)) z)
 have e1:=h.gr hy.nd (a:=(ao (f (-1)),a)) (b:=(ao (g (-1)),a')) (c:=(f 0,b)) (by simp) (by simp) (by simp) ya Mu (hf.bH 0) n1 (Ne.symm r1) (by rw[z0];exact Ne.symm r2)
 have e2:=h.same (a:=(ao (f (-1)),a)) (b:=(g 0,b')) (c:=(f 0,b)) (by simp) (by simp) (by simp) z0.symm (bL ya (hf.bH 0) (Ne.symm r1))
 unfold lC
 rw[qI hy hf hg z0 z1]
 simp only at e1 e2
 rw[e1]
 generalize gr y (ao (f (-1))) (ao (g (-1))) (f 0)=G
 by_cases q:b<b'
 ·rw[decide_eq_true q,decide_eq_false (by rw[e2];omega)]
  cases G<;>simp
 ·rw[decide_eq_false q,decide_eq_true (by rw[e2];omega)]
  cases G<;>simp
theorem GG (hy:Yd y) (hf:fS y f) (hg:fS y g) (h:Sep y [(ao (f (-1)),a),(f 0,b),(ao (g (-1)),a'),(g 0,b')]) (ha:a≠a') (z1:f (-1)=g (-1)) (z0:f 0≠g 0):lC a b a' b'=true↔decide (a'<a)≠fE y (cK f) (cK g) 0:=by
 have r1:=hf.red 0
 have r2:=hg.red 0
 rw[show (0:Int) - 1= -1 by omega]at r1 r2
 have ya:=hy.cl _ (hf.bH (-1))
 have Mu:=hy.cl _ (hg.bH (-1))
 have e1:=h.EV (a:=(ao (f (-1)),a)) (b:=(ao (g (-1)),a')) (c:=(f 0,b)) (by simp) (by simp) (by simp) (by show ao _=ao _;rw[z1]) (bL ya (hf.bH 0) (Ne.symm r1))
 have e2:=h.gr hy.nd (a:=(ao (f (-1)),a)) (b:=(g 0,b')) (c:=(f 0,b)) (by simp) (by simp) (by simp) ya (hg.bH 0) (hf.bH 0) (by show ao _≠_;rw[z1];exact Ne.symm r2) (Ne.symm r1) (Ne.symm z0)
 have e3:fE y (cK f) (cK g) 0=gr y (ao (f (-1))) (f 0) (g 0):=qJ (f:=cK f) (g:=cK g) (a:=0) z1
 have e4:=Gz hy.nd ya (hf.bH 0) (hg.bH 0) (Ne.symm r1) (by rw[z1];exact Ne.symm r2) z0
 unfold lC
 simp only at e1 e2
 rw[e3,e2,e4]
 generalize gr y (ao (f (-1))) (f 0) (g 0)=G
 by_cases q:a'<a
 ·rw[decide_eq_true q,decide_eq_false (by rw[e1];omega)]
  cases G<;>simp
 ·rw[decide_eq_false q,decide_eq_true (by rw[e1];omega)]
  cases G<;>simp
theorem qK (hy:Yd y) (hf:fS y f) (hg:fS y g) (h:Sep y [(ao (f (-1)),a),(f 0,b),(ao (g (-1)),a'),(g 0,b')]) (ha:a≠a') (hb:b≠b') (z1:f (-1)=g (-1)) (z0:f 0=g 0):lC a b a' b'=true↔decide (a'<a)≠decide (b<b'):=by
 have r1:=hf.red 0
 rw[show (0:Int) - 1= -1 by omega]at r1
 have ya:=hy.cl _ (hf.bH (-1))
 have e1:=h.EV (a:=(ao (f (-1)),a)) (b:=(ao (g (-1)),a')) (c:=(f 0,b)) (by simp) (by simp) (by simp) (by show ao _=ao _;rw[z1]) (bL ya (hf.bH 0) (Ne.symm r1))
 have e2:=h.same (a:=(ao (f (-1)),a)) (b:=(g 0,b')) (c:=(f 0,b)) (by simp) (by simp) (by simp) z0.symm (bL ya (hf.bH 0) (Ne.symm r1))
 unfold lC
 simp only at e1 e2
 rw[decide_eq_decide.mpr e1,decide_eq_decide.mpr e2]
 by_cases q:a'<a<;>by_cases q2:b<b'
 ·rw[decide_eq_true q,decide_eq_true q2,decide_eq_false (show ¬a<a' by omega),decide_eq_false (show ¬b'<b by omega)];simp
 ·rw[decide_eq_true q,decide_eq_false q2,decide_eq_false (show ¬a<a' by omega),decide_eq_true (show b'<b by omega)];simp
 ·rw[decide_eq_false q,decide_eq_true q2,decide_eq_true (show a<a' by omega),decide_eq_false (show ¬b'<b by omega)];simp
 ·rw[decide_eq_false q,decide_eq_false q2,decide_eq_true (show a<a' by omega),decide_eq_true (show b'<b by omega)];simp
theorem GH (hy:Yd y) (hf:fS y f) (hg:fS y g) (h:Sep y [(ao (f (-1)),a),(f 0,b),(ao (g (-1)),a'),(g 0,b')]) (z0:f 0≠g 0) (z1:f (-1)≠g (-1)) (z2:ao (f (-1))≠g 0) (z3:ao (g (-1))≠f 0):lC a b a' b'=ac y (ao (f (-1))) (f 0) (ao (g (-1))) (g 0):=by
 have r1:=hf.red 0
 have r2:=hg.red 0
 rw[show (0:Int) - 1= -1 by omega]at r1 r2
 have ya:=hy.cl _ (hf.bH (-1))
 have Mu:=hy.cl _ (hg.bH (-1))
 have n1:ao (f (-1))≠ao (g (-1)):=fun z=>z1 (cT (hy.lt _ (hf.bH _)) (hy.lt _ (hg.bH _)) z)
 have e1:=h.gr hy.nd (a:=(ao (f (-1)),a)) (b:=(ao (g (-1)),a')) (c:=(f 0,b)) (by simp) (by simp) (by simp) ya Mu (hf.bH 0) n1 (Ne.symm r1) z3
 have e2:=h.gr hy.nd (a:=(ao (f (-1)),a)) (b:=(g 0,b')) (c:=(f 0,b)) (by simp) (by simp) (by simp) ya (hg.bH 0) (hf.bH 0) z2 (Ne.symm r1) (Ne.symm z0)
 unfold lC ac
 simp only at e1 e2
 rw[e1,e2,if_neg (fun q=>q.elim (fun q=>n1 q.symm) fun q=>q.elim z3 fun q=>q.elim (fun q=>z2 q.symm) fun q=>z0 q.symm)]
end
noncomputable def sm:Nat->(Int->Int)->Int
 | 0,_=>0
 | n+1,h=>sm n h+h n
theorem aF {h g:Int->Int}: ∀{n:Nat},(∀i:Nat,i<n->h i=g i)->sm n h=sm n g
 | 0,_=>rfl
 | n+1,e=>by
  show sm n h+h n=sm n g+g n
  rw[aF fun i hi=>e i (by omega),e n (by omega)]
theorem mU (h g:Int->Int): ∀n:Nat,sm n (fun i=>h i+g i)=sm n h+sm n g
 | 0=>rfl
 | n+1=>by
  show sm n _+(h n+g n)=(sm n h+h n)+(sm n g+g n)
  rw[mU h g n];omega
theorem vp (h g:Int->Int): ∀n:Nat,sm n (fun i=>h i - g i)=sm n h - sm n g
 | 0=>rfl
 | n+1=>by
  show sm n _+(h n - g n)=(sm n h+h n) - (sm n g+g n)
  rw[vp h g n];omega
theorem eQ: ∀n:Nat,sm n (fun _=>0)=0
 | 0=>rfl
 | n+1=>by show sm n _+0=0;rw[eQ n];rfl
theorem xa (h:Int->Int): ∀n:Nat,sm n (fun i=>h (i - 1))+h ((n:Int) - 1)=sm n h+h (-1)
 | 0=>rfl
 | n+1=>by
  have:=xa h n
  show sm n _+h ((n:Int) - 1)+h (((n+1:Nat):Int) - 1)=(sm n h+h n)+h (-1)
  rw[show ((n+1:Nat):Int) - 1=n by omega]
  omega
theorem mV {h:Int->Int} {n:Nat} (P: ∀k,h (k+n)=h k):sm n (fun i=>h (i - 1))=sm n h:=by
 have h1:=xa h n
 have h2:=P (-1)
 rw[show (-1:Int)+n=(n:Int) - 1 by omega]at h2
 omega
theorem xb (h:Int->Int): ∀n:Nat,sm n (fun i=>h ((n:Int) - 1 - i))=sm n h
 | 0=>rfl
 | n+1=>by
  have e: ∀(m:Nat) (g:Int->Int),sm (m+1) g=g 0+sm m (fun i=>g (i+1)):=fun m=>by
   induction m with
   | zero=>intro g;show (0:Int)+g 0=g 0+0;omega
   | succ m ih=>intro g;show sm (m+1) g+g ((m+1:Nat):Int)=g 0+(sm m (fun i=>g (i+1))+g ((m:Int)+1));rw[ih];rw[show ((m+1:Nat):Int)=(m:Int)+1 by omega];omega
  rw[e]
  have:=xb h n
  show h (((n+1:Nat):Int) - 1 - 0)+sm n (fun i=>h (((n+1:Nat):Int) - 1 - (i+1)))=sm n h+h n
  rw[show ((n+1:Nat):Int) - 1 - 0=n by omega, <-this,Int.add_comm]
  congr 1
  exact aF fun i _=>by congr 1;omega
theorem qL {h:Int->Int} {n:Nat} (P: ∀k,h (k+n)=h k):sm n (fun i=>h (i+1))=sm n h:=by
 have:=mV (h:=fun i=>h (i+1)) (n:=n) (fun k=>by show h (k+n+1)=h (k+1);rw[<-P (k+1)];congr 1;omega)
 rw[<-this]
 exact aF fun i _=>by show h ((i:Int) - 1+1)=h i;congr 1;omega
theorem vq {h:Int->Int} {n:Nat} (P: ∀k,h (k+n)=h k):sm n (fun i=>h (-i))=sm n h:=by
 rw[<-xb (fun i=>h (-i)) n, <-qL P]
 exact aF fun i _=>by
  show h (-((n:Int) - 1 - i))=h (i+1)
  rw[<-P (-((n:Int) - 1 - i))];congr 1;omega
theorem GI {h:Int->Int} {n:Nat} (P: ∀k,h (k+n)=h k):sm n (fun i=>h (1 - i))=sm n h:=by
 rw[<-qL P, <-vq (h:=fun i=>h (i+1)) (fun k=>by show h (k+n+1)=h (k+1);rw[<-P (k+1)];congr 1;omega)]
 exact aF fun i _=>by show h (1 - (i:Int))=h (-(i:Int)+1);congr 1;omega
noncomputable def b4 (n m:Nat) (h:Int->Int->Int):Int:=sm n fun i=>sm m fun j=>h i j
theorem br {n m:Nat} {h g:Int->Int->Int} (e: ∀i j:Nat,i<n->j<m->h i j=g i j):b4 n m h=b4 n m g:=aF fun i hi=>aF fun j hj=>e i j hi hj
theorem cx (n m:Nat) (h g:Int->Int->Int):b4 n m (fun i j=>h i j+g i j)=b4 n m h+b4 n m g:=by
 unfold b4
 rw[<-mU]
 exact aF fun i _=>mU _ _ _
theorem DA (n m:Nat) (h g:Int->Int->Int):b4 n m (fun i j=>h i j - g i j)=b4 n m h - b4 n m g:=by
 unfold b4
 rw[<-vp]
 exact aF fun i _=>vp _ _ _
theorem pA {n m:Nat} {h:Int->Int->Int} (P: ∀i j,h (i+n) j=h i j) (Q: ∀i j,h i (j+m)=h i j):b4 n m (fun i j=>h (i - 1) (j - 1))=b4 n m h:=by
 unfold b4
 have e: ∀i:Int,sm m (fun j=>h i (j - 1))=sm m (h i):=fun i=>mV (Q i)
 rw[<-mV (h:=fun i=>sm m fun j=>h i j) (n:=n) (fun k=>aF fun j _=>P k j)]
 exact aF fun i _=>e _
structure Ic (y:List Nat) (n:Nat) (F:Int->Int->Nat) (o i:Int->Nat):Prop where
 pos:0<n
 vv: ∀k,fS y (F k)
 bk: ∀k,cK (F k)=F (k - 1)
 Lj: ∀k,F (k+n)=F k
 own: ∀k x,F k (x+n)=F k x
 op: ∀k,o (k+n)=o k
 ip: ∀k,i (k+n)=i k
structure EW (y:List Nat) (F:Int->Int->Nat) (o i:Int->Nat) (G:Int->Int->Nat) (o' i':Int->Nat):Prop where
 sep: ∀s t,Sep y [(ao (F s (-1)),i (s - 1)),(F s 0,o s),(ao (G t (-1)),i' (t - 1)),(G t 0,o' t)]
 on: ∀s t a b,Run (F s) (G t) a b->o s≠o' t/\i s≠i' t/\decide (o s<o' t)=vm y (F s) (G t) a b/\decide (i' t<i s)=vm y (F s) (G t) a b
def AI (F G:Int->Int->Nat) (s t:Int):Prop:=F s 0=G t 0\/F s (-1)=G t (-1)
def par (F G:Int->Int->Nat) (s t:Int):Prop:= ∀k,F s k=G t k
noncomputable def DB (o i o' i':Int->Nat) (s t:Int):Bool:=lC (i (s - 1)) (o s) (i' (t - 1)) (o' t)
theorem AJ {y:List Nat} {n m:Nat} {F G:Int->Int->Nat} {o i o' i':Int->Nat} (hF:Ic y n F o i) (hG:Ic y m G o' i') {s t:Int}:par F G (s - 1) (t - 1)↔par F G s t:=by
 unfold par
 rw[<-hF.bk, <-hG.bk]
 unfold cK
 exact ⟨fun h k=>by have:=h (k+1);rwa [show k+1 - 1=k by omega]at this,fun h k=>h _⟩
theorem xc {y:List Nat} {n m:Nat} {F G:Int->Int->Nat} {o i o' i':Int->Nat} (hy:Yd y) (hF:Ic y n F o i) (hG:Ic y m G o' i') (h:EW y F o i G o' i'):
  b4 n m (fun s t=>one (AI F G s t/\DB o i o' i' s t=true/\ ¬par F G s t))=b4 n m fun s t=>one (i9 y (F s) (G t)):=by
 have pt: ∀s t:Int,one (AI F G s t/\DB o i o' i' s t=true/\ ¬par F G s t)=one (i9 y (F s) (G t))+one (uB y (F (s - 1)) (G (t - 1))) - one (uB y (F s) (G t)):=fun s t=>by
  by_cases hp:par F G s t
  ·have nr: ∀{a b}, ¬Run (F s) (G t) a b:=fun r=>r.hi (hp _)
   have vn:=(AJ hF hG).mpr hp
   have Rw: ∀{a b}, ¬Run (F (s - 1)) (G (t - 1)) a b:=fun r=>r.hi (vn _)
   rw[aR (fun z=>z.2.2 hp),aR (fun ⟨_,r,_⟩=>nr r),aR (fun ⟨_,_,r,_⟩=>Rw r),aR (fun ⟨_,_,r,_⟩=>nr r)]
   rfl
  ·by_cases ht:AI F G s t
   ·have fD: ∃k,F s k≠G t k:=Classical.byContradiction fun z=>hp fun k=>Classical.byContradiction fun q=>z ⟨k,q⟩
    have GJ: ∃k,F (s - 1) k≠G (t - 1) k:=Classical.byContradiction fun z=>hp ((AJ hF hG).mp fun k=>Classical.byContradiction fun q=>z ⟨k,q⟩)
    have e1: ∀s,F (s - 1) 0=F s (-1):=fun s=>by rw[<-hF.bk];rfl
    have e2: ∀t,G (t - 1) 0=G t (-1):=fun s=>by rw[<-hG.bk];rfl
    have ei:one (AI F G s t/\DB o i o' i' s t=true/\ ¬par F G s t)=one (DB o i o' i' s t=true):=aY ⟨fun z=>z.2.1,fun z=>⟨ht,z,hp⟩⟩
    rw[ei, <-hF.bk, <-hG.bk]
    refine AF (e0:=decide (o s<o' t)) (e1:=decide (i' (t - 1)<i (s - 1))) (fun z=>?_) (fun z=>?_) (fun a b r=>(h.on s t a b r).2.2.1) (fun a b r=>?_) (fun z0 z1=>?_) (fun z1 z0=>?_) (fun z1 z0=>?_) ht
    ·obtain ⟨a,b,r,_⟩:=cP hF.pos hG.pos (hF.own s) (hG.own t) z fD
     exact ⟨a,b,r⟩
    ·obtain ⟨a,b,r,_⟩:=cP hF.pos hG.pos (hF.own (s - 1)) (hG.own (t - 1)) (by rw[e1,e2];exact z) GJ
     rw[hF.bk,hG.bk]
     exact ⟨a,b,r⟩
    ·rw[hF.bk,hG.bk]at r ⊢
     exact (h.on _ _ a b r).2.2.2
    ·obtain ⟨a,b,r,_⟩:=cP hF.pos hG.pos (hF.own s) (hG.own t) z0 fD
     exact GF hy (hF.vv s) (hG.vv t) (h.sep s t) (h.on s t a b r).1 z0 z1
    ·obtain ⟨a,b,r,_⟩:=cP hF.pos hG.pos (hF.own (s - 1)) (hG.own (t - 1)) (by rw[e1,e2];exact z1) GJ
     exact GG hy (hF.vv s) (hG.vv t) (h.sep s t) (h.on _ _ a b r).2.1 z1 z0
    ·obtain ⟨a,b,r,_⟩:=cP hF.pos hG.pos (hF.own s) (hG.own t) z0 fD
     obtain ⟨a2,b2,r2,_⟩:=cP hF.pos hG.pos (hF.own (s - 1)) (hG.own (t - 1)) (by rw[e1,e2];exact z1) GJ
     exact qK hy (hF.vv s) (hG.vv t) (h.sep s t) (h.on _ _ a2 b2 r2).2.1 (h.on s t a b r).1 z1 z0
   ·have t0:F s 0≠G t 0:=fun z=>ht (.inl z)
    have t1:F (s - 1) 0≠G (t - 1) 0:=by
     rw[<-hF.bk, <-hG.bk]
     exact fun z=>ht (.inr z)
    rw[aR (fun z=>ht z.1),aR (fun ⟨_,r,_⟩=>t0 r.zero),aR (fun ⟨_,_,r,_⟩=>t1 r.zero),aR (fun ⟨_,_,r,_⟩=>t0 r.zero)]
    rfl
 have e:b4 n m (fun s t=>one (AI F G s t/\DB o i o' i' s t=true/\ ¬par F G s t))=b4 n m (fun s t=>(one (i9 y (F s) (G t))+one (uB y (F (s - 1)) (G (t - 1)))) - one (uB y (F s) (G t))):=br fun s t _ _=>pt s t
 rw[e,DA,cx,pA (h:=fun s t=>one (uB y (F s) (G t))) (fun s t=>by rw[hF.Lj]) (fun s t=>by rw[hG.Lj])]
 omega
theorem aQ {y w:List Nat} (h:SW y w) (i:Int):fS y (sq w i):=⟨fun k=>h.rd _,fun k=>by
 unfold sq
 have:=h.red (i+k)
 rwa [show i+k - 1=i+(k - 1) by omega]at this⟩
theorem dY (w:List Nat) (i:Int):iN (sq w i)=bq w i:=by
 funext k
 unfold iN sq bq
 rw[show i+ -k=i - k by omega]
theorem ff {y w:List Nat} (hy:Yd y) (h:SW y w) (i:Int):fS y (bq w i):=by rw[<-dY];exact (aQ h i).rv hy
theorem mW (w:List Nat) (i:Int):sq w (i+w.length)=sq w i:=by
 funext k
 unfold sq
 rw[show i+(w.length:Int)+k=i+k+w.length by omega,eF]
theorem km (w:List Nat) (i:Int):bq w (i+w.length)=bq w i:=by rw[<-dY, <-dY,mW]
theorem GK (w:List Nat) (i:Int):bq w (i - w.length)=bq w i:=by rw[<-km w (i - w.length)];congr 1;omega
theorem AK {y w:List Nat} {po pi:Int->Nat} (h:SW y w) (P: ∀k,po (k+w.length)=po k) (Q: ∀k,pi (k+w.length)=pi k):Ic y w.length (sq w) po pi:=
 ⟨Pe.mpr h.ne,aQ h,fun k=>by funext x;unfold cK sq;congr 1;omega,mW w,fun k x=>bX w k x,P,Q⟩
theorem xf {n:Nat} {h:Int->Nat} (P: ∀k,h (k+n)=h k) (k:Int):h (-(k+n))=h (-k):=by rw[<-P (-(k+n))];congr 1;omega
theorem GL {y w:List Nat} {po pi:Int->Nat} (hy:Yd y) (h:SW y w) (P: ∀k,po (k+w.length)=po k) (Q: ∀k,pi (k+w.length)=pi k):Ic y w.length (fun k=>bq w (-k)) (fun k=>pi (-k)) (fun k=>po (-k)):=
 ⟨Pe.mpr h.ne,fun k=>ff hy h _,fun k=>by funext x;unfold cK bq;congr 2;omega,fun k=>by
  show bq w (-(k+w.length))=bq w (-k)
  rw[<-km w (-(k+w.length))];congr 1;omega,fun k x=>kg w _ x,xf Q,xf P⟩
section
variable {y w v:List Nat} {po pi qo qi:Int->Nat}
noncomputable def gL (po pi qo qi:Int->Nat) (i j:Int):Bool:=lC (pi (i - 1)) (po i) (qi (j - 1)) (qo j)
def bE (w v:List Nat) (i j:Int):Prop:= ∀k,sq w i k=sq v j k
def i_ (w v:List Nat) (i j:Int):Prop:= ∀k,sq w i k=bq v (j - 1) k
def Ie (w v:List Nat) (i j:Int):Prop:=rd w i=rd v j\/rd w (i - 1)=rd v (j - 1)
def xg (w v:List Nat) (i j:Int):Prop:=rd w i=ao (rd v (j - 1))\/rd w (i - 1)=ao (rd v j)
theorem DC (w v:List Nat) (i j:Int):AI (sq w) (sq v) i j↔Ie w v i j:=by
 unfold AI Ie sq
 rw[show i+0=i by omega,show j+0=j by omega]
 rfl
theorem DD (w v:List Nat) (i k:Int):AI (sq w) (fun k=>bq v (-k)) i k↔xg w v i (1 - k):=by
 unfold AI xg sq bq
 show rd w (i+0)=ao (rd v (-k - 0))\/rd w (i+ -1)=ao (rd v (-k - -1))↔_
 rw[show i+0=i by omega,show -k - 0=1 - k - 1 by omega,show -k - -1=1 - k by omega]
 rfl
theorem Oe (hy:Yd y) (hw:SW y w) (hv:SW y v) {i j:Int} (h:Ie w v i j) (g:xg w v i j):False:=by
 have p_:=hw.red i
 have PD:=hv.red j
 have l1:=hy.lt _ (hw.rd (i - 1))
 have l2:=hy.lt _ (hv.rd (j - 1))
 have l3:=hy.lt _ (hv.rd j)
 rcases h with h | h<;>rcases g with g | g
 ·exact PD (h.symm.trans g)
 ·rw[<-h]at g;exact p_ (by rw[g,aG (hy.lt _ (hw.rd i))])
 ·rw[<-h]at g;exact p_ g
 ·rw[h]at g;exact PD (by rw[g,aG l3])
theorem tw (hy:Yd y) (hw:SW y w) (hv:SW y v) (P1: ∀k,po (k+w.length)=po k) (P2: ∀k,pi (k+w.length)=pi k) (Q1: ∀k,qo (k+v.length)=qo k) (Q2: ∀k,qi (k+v.length)=qi k)
  (hS:EW y (sq w) po pi (sq v) qo qi) (hO:EW y (sq w) po pi (fun k=>bq v (-k)) (fun k=>qi (-k)) (fun k=>qo (-k))):
  b4 w.length v.length (fun i j=>one (gL po pi qo qi i j=true))=
   b4 w.length v.length (fun i j=>one (ac y (ao (rd w (i - 1))) (rd w i) (ao (rd v (j - 1))) (rd v j)=true))+b4 w.length v.length (fun i j=>one (0<al y (sq w i) (sq v j) (w.length+v.length)))+b4 w.length v.length (fun i j=>one (0<al y (sq w i) (bq v j) (w.length+v.length)))
   +b4 w.length v.length (fun i j=>one (bE w v i j/\gL po pi qo qi i j=true))+b4 w.length v.length (fun i j=>one (i_ w v i j/\gL po pi qo qi i j=true)):=by
 have fw:=AK hw P1 P2
 have fv:=AK hv Q1 Q2
 have fo:=GL hy hv Q1 Q2
 have s1:=xc hy fw fv hS
 have s2:=xc hy fw fo hO
 have e1:b4 w.length v.length (fun s t=>one (i9 y (sq w s) (sq v t)))=b4 w.length v.length (fun i j=>one (0<al y (sq w i) (sq v j) (w.length+v.length))):=br fun i j _ _=>aY (pq hy (aQ hw _) (aQ hv _) fun z=>fX hw.ne hv.ne (fun k=>bX w i k) (fun k=>bX v j k) z)
 have e2:b4 w.length v.length (fun s t=>one (i9 y (sq w s) (bq v (-t))))=b4 w.length v.length (fun i j=>one (0<al y (sq w i) (bq v j) (w.length+v.length))):=by
  have:b4 w.length v.length (fun s t=>one (i9 y (sq w s) (bq v (-t))))=b4 w.length v.length (fun s t=>one (i9 y (sq w s) (bq v t))):=aF fun i _=>vq (h:=fun t=>one (i9 y (sq w i) (bq v t))) fun k=>by rw[km]
  rw[this]
  exact br fun i j _ _=>aY (pq hy (aQ hw _) (ff hy hv _) fun z=>fX hw.ne hv.ne (fun k=>bX w i k) (fun k=>kg v j k) z)
 have e3:b4 w.length v.length (fun s t=>one (AI (sq w) (fun k=>bq v (-k)) s t/\DB po pi (fun k=>qi (-k)) (fun k=>qo (-k)) s t=true/\ ¬par (sq w) (fun k=>bq v (-k)) s t))=b4 w.length v.length (fun i j=>one (xg w v i j/\gL po pi qo qi i j=true/\ ¬i_ w v i j)):=by
  have P: ∀i:Int, ∀k:Int,(fun j=>one (xg w v i j/\gL po pi qo qi i j=true/\ ¬i_ w v i j)) (k+v.length)=(fun j=>one (xg w v i j/\gL po pi qo qi i j=true/\ ¬i_ w v i j)) k:=fun i k=>by
   show one (xg w v i (k+v.length)/\gL po pi qo qi i (k+v.length)=true/\ ¬i_ w v i (k+v.length))=_
   unfold xg gL i_
   rw[show k+(v.length:Int) - 1=k - 1+v.length by omega,eF,eF,Q1,Q2,km]
  refine aF fun i _=>(aF fun k _=>?_).trans (GI (P i))
  refine aY ?_
  rw[DD]
  have ec:DB po pi (fun k=>qi (-k)) (fun k=>qo (-k)) i k=gL po pi qo qi i (1 - k):=by
   unfold DB gL
   rw[g5]
   show lC (pi ((i:Int) - 1)) (po i) (qi (-(k:Int))) (qo (-((k:Int) - 1)))=_
   rw[show -((k:Int) - 1)=1 - k by omega,show (1:Int) - k - 1= -k by omega]
  have ep:par (sq w) (fun k=>bq v (-k)) i k↔i_ w v i (1 - k):=by
   unfold par i_
   rw[show (1:Int) - k - 1= -k by omega]
  rw[ec,ep]
 rw[e1]at s1
 rw[e2,e3]at s2
 rw[<-s1, <-s2, <-cx, <-cx, <-cx, <-cx]
 refine br fun i j _ _=>?_
 have hc:DB po pi qo qi i j=gL po pi qo qi i j:=rfl
 have et:=DC w v i j
 have pS:bE w v i j->Ie w v i j:=fun z=> .inl (by have:=z 0;unfold sq at this;rwa [show (i:Int)+0=i by omega,show (j:Int)+0=j by omega]at this)
 have pO:i_ w v i j->xg w v i j:=fun z=> .inl (by have:=z 0;unfold sq bq at this;rwa [show (i:Int)+0=i by omega,show (j:Int) - 1 - 0=j - 1 by omega]at this)
 have Rx:Ie w v i j-> ¬ac y (ao (rd w (i - 1))) (rd w i) (ao (rd v (j - 1))) (rd v j)=true:=fun z=>by
  unfold ac
  rw[if_pos (z.elim (fun z=> .inr (.inr (.inr z.symm))) fun z=> .inl (by rw[z]))]
  decide
 have Ry:xg w v i j-> ¬ac y (ao (rd w (i - 1))) (rd w i) (ao (rd v (j - 1))) (rd v j)=true:=fun z=>by
  unfold ac
  rw[if_pos (z.elim (fun z=> .inr (.inl z.symm)) fun z=> .inr (.inr (.inl (by rw[z,aG (hy.lt _ (hv.rd _))]))))]
  decide
 have ep:par (sq w) (sq v) i j↔bE w v i j:=Iff.rfl
 by_cases tS:Ie w v i j
 ·have nO: ¬xg w v i j:=fun z=>Oe hy hw hv tS z
  rw[aR (Rx tS),aR (p:=xg w v i j/\_) (fun z=>nO z.1),aR (p:=i_ w v i j/\_) (fun z=>nO (pO z.1))]
  by_cases c:gL po pi qo qi i j=true
  ·by_cases q:bE w v i j
   ·rw[dX c,aR (fun z=>z.2.2 q),dX ⟨q,c⟩];rfl
   ·rw[dX c,dX ⟨et.mpr tS,c,q⟩,aR (fun z=>q z.1)];rfl
  ·rw[aR c,aR (fun z=>c z.2.1),aR (fun z=>c z.2)];rfl
 ·rw[aR (p:=AI _ _ _ _/\_) (fun z=>tS (et.mp z.1)),aR (p:=bE w v i j/\_) (fun z=>tS (pS z.1))]
  by_cases tO:xg w v i j
  ·rw[aR (Ry tO)]
   by_cases c:gL po pi qo qi i j=true
   ·by_cases q:i_ w v i j
    ·rw[dX c,aR (fun z=>z.2.2 q),dX ⟨q,c⟩];rfl
    ·rw[dX c,dX ⟨tO,c,q⟩,aR (fun z=>q z.1)];rfl
   ·rw[aR c,aR (fun z=>c z.2.1),aR (fun z=>c z.2)];rfl
  ·rw[aR (p:=xg w v i j/\_) (fun z=>tO z.1),aR (p:=i_ w v i j/\_) (fun z=>tO (pO z.1))]
   have l2:=hy.lt _ (hv.rd (j - 1))
   have l3:=hy.lt _ (hv.rd j)
   have l1:=hy.lt _ (hw.rd (i - 1))
   have f0: ∀(u:List Nat) (i:Int),sq u i 0=rd u i:=fun u i=>by unfold sq;rw[show i+0=i by omega]
   have f1: ∀(u:List Nat) (i:Int),sq u i (-1)=rd u (i - 1):=fun u i=>rfl
   have e:=GH hy (aQ hw i) (aQ hv j) (hS.sep i j) (fun z=>tS (.inl (by rw[f0,f0]at z;exact z))) (fun z=>tS (.inr z)) (fun z=>tO (.inr (by rw[f0,f1]at z;rw[<-z,aG l1]))) (fun z=>tO (.inl (by rw[f0,f1]at z;exact z.symm)))
   rw[f0,f0,f1,f1]at e
   have e':gL po pi qo qi i j=ac y (ao (rd w (i - 1))) (rd w i) (ao (rd v (j - 1))) (rd v j):=e
   rw[e']
   omega
end
section
variable {y w v:List Nat} {po pi qo qi:Int->Nat}
theorem DE (hy:Yd y) (hw:SW y w) (hv:SW y v) (hS:EW y (sq w) po pi (sq v) qo qi) (D:Bool)
  (h: ∀i j,bE w v i j->po i≠qo j/\pi i≠qi j/\decide (po i<qo j)=D/\decide (qi j<pi i)=D):b4 w.length v.length (fun i j=>one (bE w v i j/\gL po pi qo qi i j=true))=0:=by
 have: ∀i j:Int, ¬(bE w v i j/\gL po pi qo qi i j=true):=fun i j ⟨p,c⟩=>by
  have p1:bE w v (i - 1) (j - 1):=fun k=>by
   have:=p (k - 1)
   unfold sq at this ⊢
   rw[show i - 1+k=i+(k - 1) by omega,show j - 1+k=j+(k - 1) by omega]
   exact this
  have h0:=h i j p
  have h1:=h _ _ p1
  have:=(qK hy (aQ hw i) (aQ hv j) (hS.sep i j) h1.2.1 h0.1 (p (-1)) (p 0)).mp c
  exact this (h1.2.2.2.trans h0.2.2.1.symm)
 rw[show (0:Int)=b4 w.length v.length (fun _ _=>0) by unfold b4;rw[show (fun _:Int=>sm v.length fun _=>0)=fun _=>0 from funext fun _=>eQ _,eQ]]
 exact br fun i j _ _=>aR (this i j)
theorem DF (hy:Yd y) (hw:SW y w) (hv:SW y v) (hO:EW y (sq w) po pi (fun k=>bq v (-k)) (fun k=>qi (-k)) (fun k=>qo (-k))) (D:Bool)
  (h: ∀i j,(∀k,sq w i k=bq v j k)->po i≠qi j/\pi i≠qo j/\decide (po i<qi j)=D/\decide (qo j<pi i)=D):b4 w.length v.length (fun i j=>one (i_ w v i j/\gL po pi qo qi i j=true))=0:=by
 have: ∀i j:Int, ¬(i_ w v i j/\gL po pi qo qi i j=true):=fun i j ⟨p,c⟩=>by
  have p1: ∀k,sq w (i - 1) k=bq v j k:=fun k=>by
   have:=p (k - 1)
   unfold sq bq at this ⊢
   rw[show i - 1+k=i+(k - 1) by omega,this]
   congr 2;omega
  have h0:=h i (j - 1) p
  have h1:=h _ _ p1
  have s:=hO.sep i (1 - j)
  simp only[show -(1 - j)=j - 1 by omega,show -(1 - j - 1)=j by omega]at s
  unfold gL at c
  rw[g5]at c
  have:=(qK hy (aQ hw i) (ff hy hv (j - 1)) s h1.2.1 h0.1 (p (-1)) (p 0)).mp c
  exact this (h1.2.2.2.trans h0.2.2.1.symm)
 rw[show (0:Int)=b4 w.length v.length (fun _ _=>0) by unfold b4;rw[show (fun _:Int=>sm v.length fun _=>0)=fun _=>0 from funext fun _=>eQ _,eQ]]
 exact br fun i j _ _=>aR (this i j)
theorem qM (hy:Yd y) (hw:SW y w) (i j:Int): ¬ ∀k,sq w i k=bq w j k:=fun h=>by
 unfold sq bq at h
 rcases (show (j - i)%2=0\/(j - i)%2=1 by omega) with z | z
 ·have:=h ((j - i) / 2)
  rw[show i+(j - i) / 2=j - (j - i) / 2 by omega]at this
  exact i5 (hy.lt _ (hw.rd _)) this.symm
 ·have:=h ((j - i) / 2+1)
  rw[show j - ((j - i) / 2+1)=i+((j - i) / 2+1) - 1 by omega]at this
  exact hw.red _ this
theorem tD (h:Int->Int) (n:Nat): ∀m:Nat,sm (n+m) h=sm n h+sm m (fun i=>h (n+i))
 | 0=>by show sm n h=sm n h+0;omega
 | m+1=>by
  show sm (n+m) h+h ((n+m:Nat):Int)=sm n h+(sm m (fun i=>h (n+i))+h (n+m))
  rw[tD h n m,show ((n+m:Nat):Int)=(n:Int)+m by omega]
  omega
theorem g6 {h:Int->Int}: ∀{s:Nat},0<s->(∀i:Nat,0<i->i<s->h i=0)->sm s h=h 0
 | 0,h0,_=>absurd h0 (Ut _)
 | 1,_,_=>by show (0:Int)+h 0=h 0;omega
 | s+2,_,g=>by
  show sm (s+1) h+h ((s+1:Nat):Int)=h 0
  rw[g6 (s:=s+1) (by omega) (fun i h1 h2=>g i h1 (by omega)),g (s+1) (by omega) (by omega)]
  omega
theorem xh {h:Int->Int} {s:Nat} (hs:0<s) (g: ∀i:Nat,h i=if i%s=0 then 1 else 0): ∀k:Nat,sm (k*s) h=k
 | 0=>by rw[Nat.zero_mul];rfl
 | k+1=>by
  rw[V8,tD,xh hs g k,g6 hs]
  ·have:=g (k*s)
   rw[if_pos (Nat.mul_mod_left k s)]at this
   show (k:Int)+h (((k*s:Nat):Int)+0)=((k+1:Nat):Int)
   rw[Vw,this]
   omega
  ·intro i h1 h2
   have:=g (k*s+i)
   rw[if_neg (by rw[U3,Nat.mul_add_mod,U8 h2];omega)]at this
   rw[<-this]
   congr 1
theorem AL (hy:Yd y) (hw:SW y w) (hS:EW y (sq w) po pi (sq w) po pi) {s k:Nat} (hs:0<s) (hn:w.length=k*s) (hk:0<k) (hr: ∀j:Nat,j<w.length->(bE w w 0 j↔j%s=0))
  (h: ∀i j:Int,bE w w i j->i%w.length≠j%w.length->po i≠po j/\pi i≠pi j/\decide (po i<po j)=decide (i%w.length<j%w.length)/\decide (pi j<pi i)=decide (i%w.length<j%w.length)):
  b4 w.length w.length (fun i j=>one (bE w w i j/\gL po pi po pi i j=true))=2*((k:Int) - 1):=by
 have pt: ∀i j:Nat,i<w.length->j<w.length->one (bE w w i j/\gL po pi po pi i j=true)=(if i=0 then one (j≠0/\bE w w 0 j) else 0)+(if j=0 then one (i≠0/\bE w w 0 i) else 0):=fun i j hi hj=>by
  have sym:bE w w 0 i↔bE w w i 0:=⟨fun q k=>(q k).symm,fun q k=>(q k).symm⟩
  by_cases e:i=j
  ·subst e
   rw[aR (fun q=>by have:=q.2;unfold gL at this;rw[tm]at this;cases this)]
   by_cases z:i=0
   ·rw[if_pos z,aR (fun q=>q.1 z)];rfl
   ·rw[if_neg z];rfl
  ·have key:bE w w i j->(gL po pi po pi i j=true↔(i=0\/j=0)):=fun p=>by
    have p1:bE w w ((i:Int) - 1) ((j:Int) - 1):=fun k=>by
     have:=p (k - 1)
     unfold sq at this ⊢
     rw[show (i:Int) - 1+k=i+(k - 1) by omega,show (j:Int) - 1+k=j+(k - 1) by omega]
     exact this
    have m0: ∀i:Nat,i<w.length->(i:Int)%w.length=i:=fun i hi=>Ue (by omega) (by omega)
    have m1: ∀i:Nat,i<w.length->((i:Int) - 1)%w.length=if i=0 then (w.length:Int) - 1 else i - 1:=fun i hi=>by
     split
     ·rename_i z
      rw[<-Vd,Ue (by omega) (by omega)];omega
     ·exact Ue (by omega) (by omega)
    have h0:=h i j p (by rw[m0 i hi,m0 j hj];omega)
    have h1:=h _ _ p1 (by rw[m1 i hi,m1 j hj];split<;>split<;>omega)
    have c:=qK hy (aQ hw i) (aQ hw j) (hS.sep i j) h1.2.1 h0.1 (p (-1)) (p 0)
    rw[h0.2.2.1,h1.2.2.2,m0 i hi,m0 j hj,m1 i hi,m1 j hj]at c
    have c':gL po pi po pi i j=true↔_:=c
    rw[c',Ne,decide_eq_decide]
    split<;>split<;>omega
   by_cases z:i=0
   ·have j0:j≠0:=fun q=>e (z.trans q.symm)
    rw[if_pos z,if_neg j0]
    rw[z]at key ⊢
    have:one (bE w w ((0:Nat):Int) j/\gL po pi po pi ((0:Nat):Int) j=true)=one (j≠0/\bE w w 0 j):=aY ⟨fun q=>⟨j0,q.1⟩,fun q=>⟨q.2,(key q.2).mpr (.inl rfl)⟩⟩
    rw[this];omega
   ·rw[if_neg z]
    by_cases j0:j=0
    ·rw[if_pos j0]
     rw[j0]at key ⊢
     have:one (bE w w i ((0:Nat):Int)/\gL po pi po pi i ((0:Nat):Int)=true)=one (i≠0/\bE w w 0 i):=aY ⟨fun q=>⟨z,sym.mpr q.1⟩,fun q=>⟨sym.mp q.2,(key (sym.mp q.2)).mpr (.inr rfl)⟩⟩
     rw[this];omega
    ·rw[if_neg j0,aR (fun q=>by rcases (key q.1).mp q.2 with q | q<;>contradiction)];rfl
 have cnt:sm w.length (fun j=>one (j≠0/\bE w w 0 j))=(k:Int) - 1:=by
  have e1:sm w.length (fun j=>one (bE w w 0 j))=k:=by
   have:sm w.length (fun j=>one (bE w w 0 j))=sm w.length (fun j=>if j.toNat%s=0 then 1 else 0):=aF fun j hj=>by
    rw[aY (hr j hj),Pj]
    by_cases z:j%s=0
    ·rw[dX z,if_pos z]
    ·rw[aR z,if_neg z]
   rw[this,hn]
   exact xh hs (fun i=>by rw[Pj]) k
  have e2:sm w.length (fun j=>one (bE w w 0 j))=sm w.length (fun j=>one (j≠0/\bE w w 0 j))+sm w.length (fun j=>if j=0 then 1 else 0):=by
   rw[<-mU]
   refine aF fun j hj=>?_
   by_cases z:j=0
   ·subst z
    rw[dX (show bE w w 0 ((0:Nat):Int) from fun k=>rfl),aR (fun q=>q.1 rfl)];rfl
   ·rw[if_neg (by omega),Vw]
    exact aY ⟨fun q=>⟨by omega,q⟩,fun q=>q.2⟩
  have e3:sm w.length (fun j=>if j=0 then (1:Int) else 0)=1:=by
   rw[g6 (Pe.mpr hw.ne) (fun i h1 _=>by rw[if_neg (by omega)]),if_pos rfl]
  omega
 have lp:0<w.length:=Pe.mpr hw.ne
 have e:b4 w.length w.length (fun i j=>one (bE w w i j/\gL po pi po pi i j=true))=b4 w.length w.length (fun i j=>(if i=0 then one (j≠0/\bE w w 0 j) else 0)+(if j=0 then one (i≠0/\bE w w 0 i) else 0)):=br fun i j hi hj=>by
  rw[pt i j hi hj]
  congr 1
  ·by_cases z:i=0
   ·rw[if_pos z,if_pos (by omega)]
    exact aY ⟨fun q=>⟨by omega,q.2⟩,fun q=>⟨by omega,q.2⟩⟩
   ·rw[if_neg z,if_neg (by omega)]
  ·by_cases z:j=0
   ·rw[if_pos z,if_pos (by omega)]
    exact aY ⟨fun q=>⟨by omega,q.2⟩,fun q=>⟨by omega,q.2⟩⟩
   ·rw[if_neg z,if_neg (by omega)]
 rw[e,cx]
 have a1:b4 w.length w.length (fun i j=>if i=0 then one (j≠0/\bE w w 0 j) else 0)=(k:Int) - 1:=by
  unfold b4
  rw[g6 lp]
  ·rw[<-cnt]
   exact aF fun j _=>if_pos rfl
  ·intro i h1 _
   refine Eq.trans (aF (g:=fun _=>0) fun j _=>?_) (eQ _)
   have: ¬((i:Int)=0):=by omega
   exact if_neg this
 have a2:b4 w.length w.length (fun i j=>if j=0 then one (i≠0/\bE w w 0 i) else 0)=(k:Int) - 1:=by
  unfold b4
  rw[<-cnt]
  refine aF fun i _=>?_
  have: ∀j:Nat,0<j-> ¬((j:Int)=0):=fun j h=>by omega
  rw[g6 lp (fun j h1 _=>if_neg (this j h1))]
  exact if_pos rfl
 omega
end
noncomputable def kk (y:List Nat) (f:Int->Nat):Nat->Nat->List Int
 | _,0=>[]
 | k,n+1=>dF y f (k+1)::dF y f (-(k:Int))::kk y f (k+1) n
theorem dZ: ∀(l r t:List Int),bu (l++r) (l++t)=bu r t
 | [],_,_=>rfl
 | a::l,r,t=>by
  show (if a=a then bu (l++r) (l++t) else _)=_
  rw[if_pos rfl,dZ l r t]
theorem ko {y:List Nat} {f g:Int->Nat} {a b:Nat} (hy:Yd y) (hf:fS y f) (hg:fS y g) (h:Run f g a b) (r t:List Int): ∀(n k:Nat),k<=a->k<=b->a<k+n->b<k+n->bu (kk y f k n++r) (kk y g k n++t)=if a<=b then fE y f g a else fK y f g b
 | 0,k,h1,_,h3,_=>by omega
 | n+1,k,h1,h2,h3,h4=>by
  show (if dF y f (k+1)=dF y g (k+1) then (if dF y f (-(k:Int))=dF y g (-(k:Int)) then bu (kk y f (k+1) n++r) (kk y g (k+1) n++t) else decide (dF y f (-(k:Int))<dF y g (-(k:Int)))) else decide (dF y f (k+1)<dF y g (k+1)))=_
  have e0:=h.kj k (by omega) (by omega)
  have e1:=h.kj (-(k:Int)) (by omega) (by omega)
  by_cases z:k=a
  ·subst z
   rw[if_neg (fun q=>h.hi (by
    unfold dF at q
    rw[show (k:Int)+1 - 1=k by omega, <-e0]at q
    exact jH (hy.cl _ (hf.bH _)) (hf.bH _) (hg.bH _) q)),if_pos h2]
   rfl
  ·have e2:=h.kj (k+1) (by omega) (by omega)
   rw[if_pos (by unfold dF;rw[show (k:Int)+1 - 1=k by omega,e0,e2])]
   by_cases z2:k=b
   ·subst z2
    rw[if_neg (fun q=>h.lo (by
     unfold dF at q
     rw[<-e1]at q
     have r1:=hf.red (-(k:Int))
     have r2:=hg.red (-(k:Int))
     have c1:=(dG (hy.cl _ (hf.bH (-(k:Int) - 1))) (hf.bH (-(k:Int))) (Ne.symm r1)).2.2
     have c2:=(dG (hy.cl _ (hg.bH (-(k:Int) - 1))) (hf.bH (-(k:Int))) (by rw[e1];exact Ne.symm r2)).2.2
     have:=jH (hf.bH (-(k:Int))) (hy.cl _ (hf.bH (-(k:Int) - 1))) (hy.cl _ (hg.bH (-(k:Int) - 1))) (by rw[c1,c2,q])
     exact cT (hy.lt _ (hf.bH _)) (hy.lt _ (hg.bH _)) this)),if_neg (by omega)]
    rfl
   ·have e3:=h.kj (-(k:Int) - 1) (by omega) (by omega)
    rw[if_pos (by unfold dF;rw[e1,e3])]
    exact ko hy hf hg h r t n (k+1) (by omega) (by omega) (by omega) (by omega)
noncomputable def jW (w:List Nat) (i:Int):Int->Nat:=if aA (rd w i)=true then sq w i else bq w i
noncomputable def Cs (n r:Nat) (l low:Bool) (c i:Nat):List Int:=if low=l then [(c:Int),(((if low=true then i else n - 1 - i) / r:Nat):Int)] else [-(c:Int), -(((if low=true then n - 1 - i else i) / r:Nat):Int)]
noncomputable def b9 (y:List Nat) (ws:List (List Nat)) (L:Nat->Bool) (r:Nat->Nat) (M c i:Nat):List Int:=kk y (jW (ws.getD c []) i) 0 M++Cs (ws.getD c []).length (r c) (L c) (aA (rd (ws.getD c []) i)) c i
def Dl (w:List Nat) (i:Int) (f:Int->Nat):Prop:=f=sq w i\/f=bq w i
theorem qN {y w:List Nat} {i:Int} {f:Int->Nat} (hy:Yd y) (hw:SW y w) (h:Dl w i f):jW w i=if aA (f 0)=true then f else iN f:=by
 have s0:sq w i 0=rd w i:=by unfold sq;rw[show i+0=i by omega]
 have b0:bq w i 0=ao (rd w i):=by unfold bq;rw[show i - 0=i by omega]
 have lc:=eO _ (hy.lt _ (hw.rd i)).mem
 unfold jW
 rcases h with rfl | rfl
 ·rw[s0,dY]
 ·rw[b0,lc, <-dY,kU hy (aQ hw i)]
  cases aA (rd w i)<;>rfl
theorem Dl.vv {y w:List Nat} {i:Int} {f:Int->Nat} (hy:Yd y) (hw:SW y w) (h:Dl w i f):fS y f:=by
 rcases h with rfl | rfl
 ·exact aQ hw i
 ·exact ff hy hw i
theorem Run.sy {f g:Int->Nat} {a b:Nat} (h:Run f g a b):Run g f a b:=⟨fun k h1 h2=>(h.kj k h1 h2).symm,Ne.symm h.hi,Ne.symm h.lo⟩
section
variable {y:List Nat} {ws:List (List Nat)} {L:Nat->Bool} {r:Nat->Nat} {M:Nat} {N:Nat->Nat->Nat->Nat}
structure Lies (y:List Nat) (ws:List (List Nat)) (L:Nat->Bool) (r:Nat->Nat) (M:Nat) (N:Nat->Nat->Nat->Nat):Prop where
 sep: ∀c i d j e e',c<ws.length->d<ws.length->i<(ws.getD c []).length->j<(ws.getD d []).length->(e=rd (ws.getD c []) i\/e=ao (rd (ws.getD c []) i))->(e'=rd (ws.getD d []) j\/e'=ao (rd (ws.getD d []) j))->y.idxOf e<y.idxOf e'->N c i e<N d j e'
 low: ∀c i d j x,c<ws.length->d<ws.length->i<(ws.getD c []).length->j<(ws.getD d []).length->(c,i)≠(d,j)->aA x=true->(rd (ws.getD c []) i=x\/rd (ws.getD c []) i=ao x)->(rd (ws.getD d []) j=x\/rd (ws.getD d []) j=ao x)->
  N c i x≠N d j x/\N c i (ao x)≠N d j (ao x)/\decide (N c i x<N d j x)=bu (b9 y ws L r M c i) (b9 y ws L r M d j)/\decide (N d j (ao x)<N c i (ao x))=bu (b9 y ws L r M c i) (b9 y ws L r M d j)
theorem Lies.at (hy:Yd y) (hN:Lies y ws L r M N) {c i d j:Nat} {f g:Int->Nat} (hc:c<ws.length) (hd:d<ws.length) (hi:i<(ws.getD c []).length) (hj:j<(ws.getD d []).length) (hw:SW y (ws.getD c [])) (hv:SW y (ws.getD d []))
  (hf:Dl (ws.getD c []) i f) (hg:Dl (ws.getD d []) j g) (h0:f 0=g 0) (fD:(c,i)≠(d,j)):
  N c i (f 0)≠N d j (f 0)/\N c i (ao (f 0))≠N d j (ao (f 0))/\decide (N c i (f 0)<N d j (f 0))=(if aA (f 0)=true then bu (b9 y ws L r M c i) (b9 y ws L r M d j) else bu (b9 y ws L r M d j) (b9 y ws L r M c i))/\decide (N d j (ao (f 0))<N c i (ao (f 0)))=(if aA (f 0)=true then bu (b9 y ws L r M c i) (b9 y ws L r M d j) else bu (b9 y ws L r M d j) (b9 y ws L r M c i)):=by
 have s0: ∀(w:List Nat) (i:Int),sq w i 0=rd w i:=fun w i=>by unfold sq;rw[show i+0=i by omega]
 have b0: ∀(w:List Nat) (i:Int),bq w i 0=ao (rd w i):=fun w i=>by unfold bq;rw[show i - 0=i by omega]
 have ly:Lt (f 0):=hy.lt _ ((hf.vv hy hw).bH 0)
 have HU:=aG ly
 have ef:rd (ws.getD c []) i=f 0\/rd (ws.getD c []) i=ao (f 0):=by
  rcases hf with rfl | rfl
  ·exact .inl (s0 _ _).symm
  ·exact .inr (by rw[b0,aG (hy.lt _ (hw.rd _))])
 have eg:rd (ws.getD d []) j=f 0\/rd (ws.getD d []) j=ao (f 0):=by
  rw[h0]
  rcases hg with rfl | rfl
  ·exact .inl (s0 _ _).symm
  ·exact .inr (by rw[b0,aG (hy.lt _ (hv.rd _))])
 by_cases z:aA (f 0)=true
 ·rw[if_pos z]
  exact hN.low c i d j (f 0) hc hd hi hj fD z ef eg
 ·rw[if_neg z]
  have z':aA (ao (f 0))=true:=by rw[eO _ ly.mem];simpa using z
  have:=hN.low d j c i (ao (f 0)) hd hc hj hi (Ne.symm fD) z' (by rw[HU];exact eg.symm) (by rw[HU];exact ef.symm)
  rw[HU]at this
  exact ⟨Ne.symm this.2.1,Ne.symm this.1,this.2.2.2,this.2.2.1⟩
theorem Lies.run (hy:Yd y) (hN:Lies y ws L r M N) {c i d j:Nat} {f g:Int->Nat} {a b:Nat} (hc:c<ws.length) (hd:d<ws.length) (hi:i<(ws.getD c []).length) (hj:j<(ws.getD d []).length) (hw:SW y (ws.getD c [])) (hv:SW y (ws.getD d []))
  (hf:Dl (ws.getD c []) i f) (hg:Dl (ws.getD d []) j g) (hr:Run f g a b) (ha:a<M) (hb:b<M) (fD:(c,i)≠(d,j)):
  N c i (f 0)≠N d j (g 0)/\N c i (ao (f 0))≠N d j (ao (g 0))/\decide (N c i (f 0)<N d j (g 0))=vm y f g a b/\decide (N d j (ao (g 0))<N c i (ao (f 0)))=vm y f g a b:=by
 have h0:=hr.zero
 have lf:=hf.vv hy hw
 have lg:=hg.vv hy hv
 have e:(if aA (f 0)=true then bu (b9 y ws L r M c i) (b9 y ws L r M d j) else bu (b9 y ws L r M d j) (b9 y ws L r M c i))=vm y f g a b:=by
  unfold b9
  rw[qN hy hw hf,qN hy hv hg, <-h0]
  by_cases z:aA (f 0)=true
  ·rw[if_pos z,if_pos z,if_pos z,ko hy lf lg hr _ _ M 0 (Ti _) (Ti _) (by omega) (by omega)]
   unfold vm rN
   by_cases q:a<=b
   ·rw[if_pos q,if_neg (by simp[z];omega)]
   ·rw[if_neg q,if_pos (by simp;omega)]
  ·rw[if_neg z,if_neg z,if_neg z,ko hy (lg.rv hy) (lf.rv hy) (hr.rv hy lf lg).sy _ _ M 0 (Ti _) (Ti _) (by omega) (by omega), <-GD hy lf lg h0]
   unfold vm rN
   have z':aA (iN g 0)=true:=by
    show aA (ao (g 0))=true
    rw[<-h0,eO _ (hy.lt _ (lf.bH 0)).mem];simpa using z
   by_cases q:b<=a
   ·rw[if_pos q,if_neg (by simp[z'];omega)]
   ·rw[if_neg q,if_pos (by simp;omega)]
 have:=hN.at hy hc hd hi hj hw hv hf hg h0 fD
 rw[e]at this
 rw[<-h0]
 exact this
end
noncomputable def g7 (n:Nat) (k:Int):Nat:=(k%(n:Int)).toNat
theorem bz {n:Nat} (h:0<n) (k:Int):g7 n k<n:=by
 unfold g7
 have h1:=US k (b:=(n:Int)) (by omega)
 have h2:=UM k (b:=(n:Int)) (by omega)
 omega
theorem du {n:Nat} (h:0<n) (k:Int):((g7 n k:Nat):Int)=k%n:=by
 unfold g7
 have h1:=US k (b:=(n:Int)) (by omega)
 omega
theorem xi {n:Nat} (k:Int):g7 n (k+n)=g7 n k:=by unfold g7;rw[Vd]
theorem bJ {w:List Nat} (h:w≠[]) (k:Int):rd w (g7 w.length k:Nat)=rd w k:=by rw[du (Pe.mpr h),gq]
theorem b_ {w:List Nat} (h:w≠[]) (k:Int):sq w (g7 w.length k:Nat)=sq w k:=by
 funext x
 unfold sq
 rw[du (Pe.mpr h), <-gq w (k%w.length+x),WH,gq]
theorem qO {w:List Nat} (h:w≠[]) (k:Int):bq w (g7 w.length k:Nat)=bq w k:=by rw[<-dY, <-dY,b_ h]
noncomputable def pO (ws:List (List Nat)) (N:Nat->Nat->Nat->Nat) (c:Nat) (k:Int):Nat:=N c (g7 (ws.getD c []).length k) (rd (ws.getD c []) k)
noncomputable def pI (ws:List (List Nat)) (N:Nat->Nat->Nat->Nat) (c:Nat) (k:Int):Nat:=N c (g7 (ws.getD c []).length k) (ao (rd (ws.getD c []) k))
theorem GN {x x' p p':Int} (h:x≠x'):bu [x,p] [x',p']=decide (x<x'):=by
 show (if x=x' then _ else decide (x<x'))=_
 rw[if_neg h]
theorem qP {x p p':Int} (h:p≠p'):bu [x,p] [x,p']=decide (p<p'):=by
 show (if x=x then (if p=p' then bu [] [] else decide (p<p')) else _)=_
 rw[if_pos rfl,if_neg h]
section
variable {y:List Nat} {ws:List (List Nat)} {L:Nat->Bool} {r:Nat->Nat} {M:Nat} {N:Nat->Nat->Nat->Nat}
structure dA (y:List Nat) (ws:List (List Nat)) (L:Nat->Bool) (r:Nat->Nat) (M:Nat):Prop where
 yd:Yd y
 sw: ∀c,c<ws.length->SW y (ws.getD c [])
 big: ∀c d,c<ws.length->d<ws.length->(ws.getD c []).length+(ws.getD d []).length<=M
 l1: ∀c d i j,c<ws.length->d<ws.length->bE (ws.getD c []) (ws.getD d []) i j->L c=L d
 l2: ∀c d i j,c<ws.length->d<ws.length->(∀k,sq (ws.getD c []) i k=bq (ws.getD d []) j k)->L d=!L c
 rp: ∀c,c<ws.length->0<r c
 rr: ∀c,c<ws.length-> ∀i j:Int,(bE (ws.getD c []) (ws.getD c []) i j↔(i - j)%(r c:Int)=0)
theorem Lies.two (h:dA y ws L r M) (hN:Lies y ws L r M N) {c d:Nat} (hc:c<ws.length) (hd:d<ws.length):EW y (sq (ws.getD c [])) (pO ws N c) (pI ws N c) (sq (ws.getD d [])) (pO ws N d) (pI ws N d):=by
 have hw:=h.sw c hc
 have hv:=h.sw d hd
 have lw:=Pe.mpr hw.ne
 have lv:=Pe.mpr hv.ne
 have s0: ∀(w:List Nat) (i:Int),sq w i 0=rd w i:=fun w i=>by unfold sq;rw[show i+0=i by omega]
 refine ⟨fun s t=>?_,fun s t a b rn=>?_⟩
 ·have key: ∀p∈[(ao (sq (ws.getD c []) s (-1)),pI ws N c (s - 1)),(sq (ws.getD c []) s 0,pO ws N c s),(ao (sq (ws.getD d []) t (-1)),pI ws N d (t - 1)),(sq (ws.getD d []) t 0,pO ws N d t)], ∃e i:Nat,e<ws.length/\i<(ws.getD e []).length/\(p.1=rd (ws.getD e []) i\/p.1=ao (rd (ws.getD e []) i))/\p.2=N e i p.1:=by
   intro p hp
   simp only[QS,Uh,or_false]at hp
   rcases hp with rfl | rfl | rfl | rfl
   ·exact ⟨c,_,hc,bz lw (s - 1), .inr (by rw[bJ hw.ne];rfl),rfl⟩
   ·exact ⟨c,_,hc,bz lw s, .inl (by rw[bJ hw.ne,s0]),by rw[s0];rfl⟩
   ·exact ⟨d,_,hd,bz lv (t - 1), .inr (by rw[bJ hv.ne];rfl),rfl⟩
   ·exact ⟨d,_,hd,bz lv t, .inl (by rw[bJ hv.ne,s0]),by rw[s0];rfl⟩
  intro p hp q hq dc
  obtain ⟨e,i,he,hi,h1,h2⟩:=key p hp
  obtain ⟨e',j,zq,hj,h3,h4⟩:=key q hq
  rw[h2,h4]
  exact hN.sep e i e' j _ _ he zq hi hj h1 h3 dc
 ·obtain ⟨a',b',Of,ha,hb⟩:=cP lw lv (fun k=>bX _ s k) (fun k=>bX _ t k) rn.zero ⟨_,rn.hi⟩
  obtain ⟨rfl,rfl⟩:=rn.one Of
  have:=h.big c d hc hd
  have key:=hN.run h.yd hc hd (bz lw s) (bz lv t) hw hv (.inl (b_ hw.ne s).symm) (.inl (b_ hv.ne t).symm) rn (by omega) (by omega) (fun z=>rn.hi (by
   obtain ⟨z1,z2⟩:=Prod.mk.inj z
   subst z1
   rw[<-b_ hw.ne s, <-b_ hw.ne t,z2]))
  rw[s0,s0]at key
  exact key
theorem Lies.PH (h:dA y ws L r M) (hN:Lies y ws L r M N) {c d:Nat} (hc:c<ws.length) (hd:d<ws.length):EW y (sq (ws.getD c [])) (pO ws N c) (pI ws N c) (fun k=>bq (ws.getD d []) (-k)) (fun k=>pI ws N d (-k)) (fun k=>pO ws N d (-k)):=by
 have hw:=h.sw c hc
 have hv:=h.sw d hd
 have lw:=Pe.mpr hw.ne
 have lv:=Pe.mpr hv.ne
 have s0: ∀(w:List Nat) (i:Int),sq w i 0=rd w i:=fun w i=>by unfold sq;rw[show i+0=i by omega]
 have b0: ∀(w:List Nat) (i:Int),bq w i 0=ao (rd w i):=fun w i=>by unfold bq;rw[show i - 0=i by omega]
 have bb: ∀t:Int,ao (bq (ws.getD d []) (-t) (-1))=rd (ws.getD d []) (-(t - 1)):=fun t=>by
  unfold bq
  rw[aG (h.yd.lt _ (hv.rd _))]
  congr 1;omega
 refine ⟨fun s t=>?_,fun s t a b rn=>?_⟩
 ·have key: ∀p∈[(ao (sq (ws.getD c []) s (-1)),pI ws N c (s - 1)),(sq (ws.getD c []) s 0,pO ws N c s),(ao (bq (ws.getD d []) (-t) (-1)),pO ws N d (-(t - 1))),(bq (ws.getD d []) (-t) 0,pI ws N d (-t))], ∃e i:Nat,e<ws.length/\i<(ws.getD e []).length/\(p.1=rd (ws.getD e []) i\/p.1=ao (rd (ws.getD e []) i))/\p.2=N e i p.1:=by
   intro p hp
   simp only[QS,Uh,or_false]at hp
   rcases hp with rfl | rfl | rfl | rfl
   ·exact ⟨c,_,hc,bz lw (s - 1), .inr (by rw[bJ hw.ne];rfl),rfl⟩
   ·exact ⟨c,_,hc,bz lw s, .inl (by rw[bJ hw.ne,s0]),by rw[s0];rfl⟩
   ·exact ⟨d,_,hd,bz lv (-(t - 1)), .inl (by rw[bJ hv.ne];exact bb t),by rw[bb t];rfl⟩
   ·exact ⟨d,_,hd,bz lv (-t), .inr (by rw[bJ hv.ne,b0]),by rw[b0];rfl⟩
  intro p hp q hq dc
  obtain ⟨e,i,he,hi,h1,h2⟩:=key p hp
  obtain ⟨e',j,zq,hj,h3,h4⟩:=key q hq
  rw[h2,h4]
  exact hN.sep e i e' j _ _ he zq hi hj h1 h3 dc
 ·obtain ⟨a',b',Of,ha,hb⟩:=cP lw lv (fun k=>bX _ s k) (fun k=>kg _ (-t) k) rn.zero ⟨_,rn.hi⟩
  obtain ⟨rfl,rfl⟩:=rn.one Of
  have:=h.big c d hc hd
  have key:=hN.run h.yd hc hd (bz lw s) (bz lv (-t)) hw hv (.inl (b_ hw.ne s).symm) (.inr (qO hv.ne (-t)).symm) rn (by omega) (by omega) (fun z=>by
   obtain ⟨z1,z2⟩:=Prod.mk.inj z
   subst z1
   have z0:=rn.zero
   rw[s0,b0, <-bJ hw.ne s, <-bJ hw.ne (-t),z2]at z0
   exact i5 (h.yd.lt _ (hw.rd _)) z0.symm)
  rw[s0,b0,aG (h.yd.lt _ (hv.rd _))]at key
  exact key
theorem qQ {n n' r r' c d i j:Nat} {l low GO:Bool} (h:c≠d):bu (Cs n r l low c i) (Cs n' r' (if GO=low then l else !l) GO d j)=if low=l then decide (c<d) else decide (d<c):=by
 unfold Cs
 cases low<;>cases GO<;>cases l<;>simp only[Wu,WQ,if_true,if_false,Bool.true_eq_false,Ve]<;>rw[GN (by omega)]<;>exact decide_eq_decide.mpr (by omega)
theorem Lies.AM (h:dA y ws L r M) (hN:Lies y ws L r M N) {c d:Nat} (hc:c<ws.length) (hd:d<ws.length) (kY:c≠d) {i j:Nat} {f g:Int->Nat} (hi:i<(ws.getD c []).length) (hj:j<(ws.getD d []).length) (hf:Dl (ws.getD c []) i f) (hg:Dl (ws.getD d []) j g) (hp: ∀k,f k=g k)
  (hl:L d=if aA (rd (ws.getD d []) j)=aA (rd (ws.getD c []) i) then L c else !L c) (hs:f=sq (ws.getD c []) i):
  N c i (f 0)≠N d j (g 0)/\N c i (ao (f 0))≠N d j (ao (g 0))/\decide (N c i (f 0)<N d j (g 0))=(if L c=true then decide (c<d) else decide (d<c))/\decide (N d j (ao (g 0))<N c i (ao (f 0)))=(if L c=true then decide (c<d) else decide (d<c)):=by
 have hw:=h.sw c hc
 have hv:=h.sw d hd
 have e:(if aA (f 0)=true then bu (b9 y ws L r M c i) (b9 y ws L r M d j) else bu (b9 y ws L r M d j) (b9 y ws L r M c i))=if L c=true then decide (c<d) else decide (d<c):=by
  have es:jW (ws.getD c []) i=jW (ws.getD d []) j:=by
   rw[qN h.yd hw hf,qN h.yd hv hg,show f=g from funext hp]
  have f0:f 0=rd (ws.getD c []) i:=by rw[hs];unfold sq;rw[show (i:Int)+0=i by omega]
  unfold b9
  rw[es,dZ,dZ,f0]
  have wo:L c=if aA (rd (ws.getD c []) i)=aA (rd (ws.getD d []) j) then L d else !L d:=by
   rw[hl]
   cases aA (rd (ws.getD d []) j)<;>cases aA (rd (ws.getD c []) i)<;>cases L c<;>rfl
  have e1:= @qQ (ws.getD c []).length (ws.getD d []).length (r c) (r d) c d i j (L c) (aA (rd (ws.getD c []) i)) (aA (rd (ws.getD d []) j)) kY
  have e2:= @qQ (ws.getD d []).length (ws.getD c []).length (r d) (r c) d c j i (L d) (aA (rd (ws.getD d []) j)) (aA (rd (ws.getD c []) i)) (Ne.symm kY)
  rw[<-hl]at e1
  rw[<-wo]at e2
  rw[e1,e2,hl]
  cases aA (rd (ws.getD d []) j)<;>cases aA (rd (ws.getD c []) i)<;>cases L c<;>rfl
 have:=hN.at h.yd hc hd hi hj hw hv hf hg (hp 0) (fun z=>kY (Prod.mk.inj z).1)
 rw[e]at this
 rw[<-hp 0]
 exact this
end
theorem tE {n k r i:Nat} (hr:0<r) (hn:n=k*r) (hi:i<n):(n - 1 - i) / r=k - 1 - i / r:=by
 have h1:=VJ i r
 have h2:=U_ i hr
 have h3:i / r<k:=by
  rw[We hr];omega
 rw[Nat.div_eq_iff hr]
 obtain ⟨t,rfl⟩: ∃t,k=i / r+1+t:=⟨k - 1 - i / r,by omega⟩
 generalize hq:i / r=q at*
 rw[Nat.add_mul,Nat.add_mul,Nat.one_mul,U3 q r]at hn
 have e:q+1+t - 1 - q=t:=by omega
 rw[e]
 generalize r*q=A at*
 generalize t*r=B at*
 omega
theorem yN {r i j:Nat} (hr:0<r) (h:i%r=j%r) (fD:i≠j):(i / r<j / r↔i<j)/\i / r≠j / r:=by
 have h1:=VJ i r
 have h2:=VJ j r
 have qR:i / r≠j / r:=fun z=>fD (by rw[<-h1, <-h2,z,h])
 refine ⟨⟨fun q=>?_,fun q=>?_⟩,qR⟩
 ·have:r*(i / r+1)<=r*(j / r):=Nat.mul_le_mul_left r q
  rw[Nat.mul_add,Nat.mul_one]at this
  omega
 ·refine Classical.byContradiction fun z=>?_
  have h3:j / r+1<=i / r:=by omega
  have:r*(j / r+1)<=r*(i / r):=Nat.mul_le_mul_left r h3
  rw[Nat.mul_add,Nat.mul_one]at this
  omega
theorem vw {n k r c i j:Nat} {l low:Bool} (hr:0<r) (hn:n=k*r) (hi:i<n) (hj:j<n) (h:i%r=j%r) (fD:i≠j):(if low=true then bu (Cs n r l low c i) (Cs n r l low c j) else bu (Cs n r l low c j) (Cs n r l low c i))=decide (i<j):=by
 obtain ⟨d1,d2⟩:=yN hr h fD
 have e1:=tE hr hn hi
 have e2:=tE hr hn hj
 have b1:i / r<k:=by rw[We hr];omega
 have b2:j / r<k:=by rw[We hr];omega
 unfold Cs
 cases low<;>cases l<;>simp only[if_true,if_false,Bool.true_eq_false,Ve]
 ·rw[e1,e2,qP (by omega)];exact decide_eq_decide.mpr (by omega)
 ·rw[qP (by omega)];exact decide_eq_decide.mpr (by omega)
 ·rw[e1,e2,qP (by omega)];exact decide_eq_decide.mpr (by omega)
 ·rw[qP (by omega)];exact decide_eq_decide.mpr (by omega)
noncomputable def fc (y w v:List Nat) (i j:Int):Int:=one (ac y (ao (rd w (i - 1))) (rd w i) (ao (rd v (j - 1))) (rd v j)=true)+one (0<al y (sq w i) (sq v j) (w.length+v.length))+one (0<al y (sq w i) (bq v j) (w.length+v.length))
section
variable {y:List Nat} {ws:List (List Nat)} {L:Nat->Bool} {r:Nat->Nat} {M:Nat} {N:Nat->Nat->Nat->Nat}
theorem qS (ws:List (List Nat)) (N:Nat->Nat->Nat->Nat) (c:Nat) (k:Int):pO ws N c (k+(ws.getD c []).length)=pO ws N c k:=by unfold pO;rw[xi,eF]
theorem qT (ws:List (List Nat)) (N:Nat->Nat->Nat->Nat) (c:Nat) (k:Int):pI ws N c (k+(ws.getD c []).length)=pI ws N c k:=by unfold pI;rw[xi,eF]
theorem dA.root (h:dA y ws L r M) {c:Nat} (hc:c<ws.length):(ws.getD c []).length=(ws.getD c []).length / r c*r c/\0<(ws.getD c []).length / r c:=by
 have hp:=h.rp c hc
 have hl:=Pe.mpr (h.sw c hc).ne
 have h1:=(h.rr c hc (ws.getD c []).length 0).mp (fun k=>by
  have:=congrFun (mW (ws.getD c []) 0) k
  rwa [Vc]at this)
 rw[VR]at h1
 have h2:(ws.getD c []).length%r c=0:=by
  have:((((ws.getD c []).length%r c:Nat)):Int)=0:=by rw[<-h1];rfl
  omega
 have h3:=VJ (ws.getD c []).length (r c)
 rw[h2,Wy,U3]at h3
 refine ⟨h3.symm,Nat.pos_of_ne_zero fun z=>?_⟩
 rw[z,Nat.zero_mul]at h3
 omega
theorem pB (h:dA y ws L r M) (hN:Lies y ws L r M N) {c d:Nat} (hc:c<ws.length) (hd:d<ws.length) (kY:c≠d):
  b4 (ws.getD c []).length (ws.getD d []).length (fun i j=>one (gL (pO ws N c) (pI ws N c) (pO ws N d) (pI ws N d) i j=true))=b4 (ws.getD c []).length (ws.getD d []).length (fc y (ws.getD c []) (ws.getD d [])):=by
 have hw:=h.sw c hc
 have hv:=h.sw d hd
 have lw:=Pe.mpr hw.ne
 have lv:=Pe.mpr hv.ne
 have s0: ∀(w:List Nat) (i:Int),sq w i 0=rd w i:=fun w i=>by unfold sq;rw[show i+0=i by omega]
 have b0: ∀(w:List Nat) (i:Int),bq w i 0=ao (rd w i):=fun w i=>by unfold bq;rw[show i - 0=i by omega]
 have hS:=hN.two h hc hd
 have hO:=hN.PH h hc hd
 rw[tw h.yd hw hv (qS ws N c) (qT ws N c) (qS ws N d) (qT ws N d) hS hO,DE h.yd hw hv hS (if L c=true then decide (c<d) else decide (d<c)),DF h.yd hw hv hO (if L c=true then decide (c<d) else decide (d<c)), <-cx, <-cx]
 ·unfold fc
  omega
 ·intro i j p
  have p0:=p 0
  rw[s0,b0]at p0
  have lo:=eO _ (h.yd.lt _ (hv.rd j)).mem
  have:=hN.AM h hc hd kY (bz lw i) (bz lv j) (f:=sq (ws.getD c []) i) (g:=bq (ws.getD d []) j) (.inl (b_ hw.ne i).symm) (.inr (qO hv.ne j).symm) p (by
   rw[bJ hw.ne,bJ hv.ne,p0,lo,h.l2 c d i j hc hd p]
   cases aA (rd (ws.getD d []) j)<;>rfl) (b_ hw.ne i).symm
  rw[s0,b0,aG (h.yd.lt _ (hv.rd _))]at this
  exact this
 ·intro i j p
  have p0:=p 0
  rw[s0,s0]at p0
  have:=hN.AM h hc hd kY (bz lw i) (bz lv j) (f:=sq (ws.getD c []) i) (g:=sq (ws.getD d []) j) (.inl (b_ hw.ne i).symm) (.inl (b_ hv.ne j).symm) p (by
   rw[bJ hw.ne,bJ hv.ne,p0,if_pos rfl]
   exact (h.l1 c d i j hc hd p).symm) (b_ hw.ne i).symm
  rw[s0,s0]at this
  exact this
theorem vx (h:dA y ws L r M) (hN:Lies y ws L r M N) {c:Nat} (hc:c<ws.length):
  b4 (ws.getD c []).length (ws.getD c []).length (fun i j=>one (gL (pO ws N c) (pI ws N c) (pO ws N c) (pI ws N c) i j=true))=b4 (ws.getD c []).length (ws.getD c []).length (fc y (ws.getD c []) (ws.getD c []))+2*(((ws.getD c []).length / r c:Nat) - 1):=by
 have hw:=h.sw c hc
 have lw:=Pe.mpr hw.ne
 have s0: ∀(w:List Nat) (i:Int),sq w i 0=rd w i:=fun w i=>by unfold sq;rw[show i+0=i by omega]
 have hS:=hN.two h hc hc
 have hO:=hN.PH h hc hc
 obtain ⟨EL,HZ⟩:=h.root hc
 have PJ:=h.rp c hc
 have e0:b4 (ws.getD c []).length (ws.getD c []).length (fun i j=>one (i_ (ws.getD c []) (ws.getD c []) i j/\gL (pO ws N c) (pI ws N c) (pO ws N c) (pI ws N c) i j=true))=0:=by
  rw[show (0:Int)=b4 (ws.getD c []).length (ws.getD c []).length (fun _ _=>0) by unfold b4;rw[show (fun _:Int=>sm (ws.getD c []).length fun _=>0)=fun _=>0 from funext fun _=>eQ _,eQ]]
  exact br fun i j _ _=>aR fun z=>qM h.yd hw _ _ z.1
 rw[tw h.yd hw hw (qS ws N c) (qT ws N c) (qS ws N c) (qT ws N c) hS hO,e0,AL h.yd hw hS PJ EL HZ, <-cx, <-cx]
 ·unfold fc
  omega
 ·intro j hj
  rw[h.rr c hc]
  constructor
  ·intro q
   have:(j:Int)%(r c:Int)=0:=by
    rw[Int.zero_sub]at q
    exact Int.emod_eq_zero_of_dvd (Int.dvd_neg.mp (Int.dvd_of_emod_eq_zero q))
   have h2:((j%r c:Nat):Int)=0:=by rw[<-this];rfl
   omega
  ·intro q
   have:(j:Int)%(r c:Int)=0:=by
    have h2:((j%r c:Nat):Int)=(j:Int)%(r c:Int):=rfl
    rw[<-h2,q];rfl
   rw[Int.zero_sub]
   exact Int.emod_eq_zero_of_dvd (Int.dvd_neg.mpr (Int.dvd_of_emod_eq_zero this))
 ·intro i j p fD
  have p0:=p 0
  rw[s0,s0]at p0
  have qR:g7 (ws.getD c []).length i≠g7 (ws.getD c []).length j:=fun z=>fD (by rw[<-du lw, <-du lw,z])
  have:=hN.at h.yd hc hc (bz lw i) (bz lw j) hw hw (f:=sq (ws.getD c []) i) (g:=sq (ws.getD c []) j) (.inl (b_ hw.ne i).symm) (.inl (b_ hw.ne j).symm) (p 0) (fun z=>qR (Prod.mk.inj z).2)
  have DG:g7 (ws.getD c []).length i%r c=g7 (ws.getD c []).length j%r c:=by
   have p':bE (ws.getD c []) (ws.getD c []) (g7 (ws.getD c []).length i:Nat) (g7 (ws.getD c []).length j:Nat):=fun k=>by rw[b_ hw.ne,b_ hw.ne];exact p k
   have q:=(h.rr c hc _ _).mp p'
   have q2:=Int.emod_eq_emod_iff_emod_sub_eq_zero.mpr q
   have q3:((g7 (ws.getD c []).length i%r c:Nat):Int)=((g7 (ws.getD c []).length j%r c:Nat):Int):=q2
   omega
  have es:jW (ws.getD c []) (g7 (ws.getD c []).length i:Nat)=jW (ws.getD c []) (g7 (ws.getD c []).length j:Nat):=by
   unfold jW
   rw[bJ hw.ne,bJ hw.ne,p0,b_ hw.ne,b_ hw.ne,qO hw.ne,qO hw.ne,show sq (ws.getD c []) i=sq (ws.getD c []) j from funext p, <-dY, <-dY,show sq (ws.getD c []) i=sq (ws.getD c []) j from funext p]
  have e:= @vw (ws.getD c []).length _ (r c) c _ _ (L c) (aA (rd (ws.getD c []) j)) PJ EL (bz lw i) (bz lw j) DG qR
  unfold b9 at this
  rw[es,dZ,dZ,s0,bJ hw.ne,bJ hw.ne,p0,e,decide_eq_decide.mpr (show g7 (ws.getD c []).length i<g7 (ws.getD c []).length j↔i%((ws.getD c []).length:Int)<j%((ws.getD c []).length:Int) by rw[<-du lw, <-du lw];omega)]at this
  unfold pO pI
  rw[p0]
  exact this
end
noncomputable def rO:Nat->(Int->Int->Int)->Int
 | 0,_=>0
 | n+1,h=>rO n h+sm n (fun j=>h j n)
theorem qU (n m:Nat) (h:Int->Int->Int):b4 (n+1) m h=b4 n m h+sm m (fun j=>h n j):=rfl
theorem qV (m:Nat) (h:Int->Int->Int): ∀n:Nat,b4 n (m+1) h=b4 n m h+sm n (fun i=>h i m)
 | 0=>rfl
 | n+1=>by
  rw[qU,qU,qV m h n]
  show b4 n m h+sm n (fun i=>h i m)+(sm m (fun j=>h n j)+h n m)=b4 n m h+sm m (fun j=>h n j)+(sm n (fun i=>h i m)+h n m)
  omega
theorem xj {h:Int->Int->Int}: ∀{n:Nat},(∀i j:Nat,i<n->j<n->h i j=h j i)->(∀i:Nat,i<n->h i i=0)->b4 n n h=2*rO n h
 | 0,_,_=>rfl
 | n+1,sy,dg=>by
  rw[qV,qU,xj (n:=n) (fun i j hi hj=>sy i j (by omega) (by omega)) (fun i hi=>dg i (by omega))]
  show 2*rO n h+sm n (fun j=>h n j)+(sm n (fun i=>h i n)+h n n)=2*(rO n h+sm n (fun j=>h j n))
  rw[dg n (by omega),aF (h:=fun j=>h n j) (g:=fun j=>h j n) (fun j hj=>sy n j (by omega) (by omega))]
  omega
theorem ku {h g:Int->Int->Int}: ∀{n:Nat},(∀i j:Nat,i<j->j<n->h i j=g i j)->rO n h=rO n g
 | 0,_=>rfl
 | n+1,e=>by
  show rO n h+_=rO n g+_
  rw[ku (n:=n) fun i j h1 h2=>e i j h1 (by omega),aF (g:=fun j=>g j n) fun j hj=>e j n hj (by omega)]
section
variable {y:List Nat} {ws:List (List Nat)} {L:Nat->Bool} {r:Nat->Nat} {M:Nat} {N:Nat->Nat->Nat->Nat}
theorem Lies.inj (h:dA y ws L r M) (hN:Lies y ws L r M N) {c i d j e e':Nat} (hc:c<ws.length) (hd:d<ws.length) (hi:i<(ws.getD c []).length) (hj:j<(ws.getD d []).length) (he:e=rd (ws.getD c []) i\/e=ao (rd (ws.getD c []) i)) (zq:e'=rd (ws.getD d []) j\/e'=ao (rd (ws.getD d []) j))
  (fD:(c,i,e)≠(d,j,e')):N c i e≠N d j e':=by
 have ly: ∀{c i e:Nat},c<ws.length->(e=rd (ws.getD c []) i\/e=ao (rd (ws.getD c []) i))->e∈y:=fun hc he=>he.elim (fun z=>z▸(h.sw _ hc).rd _) fun z=>z▸h.yd.cl _ ((h.sw _ hc).rd _)
 have ye:=ly hc he
 have Rz:=ly hd zq
 by_cases z:e=e'
 ·subst z
  have qR:(c,i)≠(d,j):=fun q=>fD (by rw[(Prod.mk.inj q).1,(Prod.mk.inj q).2])
  have le:=h.yd.lt _ ye
  have lc:=h.yd.lt _ ((h.sw c hc).rd i)
  have ld:=h.yd.lt _ ((h.sw d hd).rd j)
  by_cases l:aA e=true
  ·exact (hN.low c i d j e hc hd hi hj qR l (he.elim (fun z=> .inl z.symm) fun z=> .inr (by rw[z,aG lc])) (zq.elim (fun z=> .inl z.symm) fun z=> .inr (by rw[z,aG ld]))).1
  ·have:=(hN.low c i d j (ao e) hc hd hi hj qR (by rw[eO _ le.mem];simpa using l) (by rw[aG le];exact he.elim (fun z=> .inr z.symm) fun z=> .inl (by rw[z,aG lc])) (by rw[aG le];exact zq.elim (fun z=> .inr z.symm) fun z=> .inl (by rw[z,aG ld]))).2.1
   rwa [aG le]at this
 ·have n:=bL ye Rz z
  rcases Va n with q | q
  ·exact TY (hN.sep c i d j e e' hc hd hi hj he zq q)
  ·exact V9 (hN.sep d j c i e' e hd hc hj hi zq he q)
theorem xk {n i j:Nat} {k:Int} (hi:i<n) (hj:j<n) (q:g7 n ((i:Int) - k)=g7 n ((j:Int) - k)):i=j:=by
 have lw:0<n:=Ua (Ti _) hi
 have q2:((i:Int) - k)%n=((j:Int) - k)%n:=by rw[<-du lw, <-du lw,q]
 have q3:=(Int.emod_sub_cancel_right k).mp q2
 rw[Ue (Ww _) (Int.ofNat_lt.mpr hi),Ue (Ww _) (Int.ofNat_lt.mpr hj)]at q3
 exact WS q3
theorem dv (h:dA y ws L r M) (hN:Lies y ws L r M N) {c d i j:Nat} (hc:c<ws.length) (hd:d<ws.length) (hi:i<(ws.getD c []).length) (hj:j<(ws.getD d []).length):
  pI ws N c ((i:Int) - 1)≠pO ws N d j/\((c,i)≠(d,j)->pI ws N c ((i:Int) - 1)≠pI ws N d ((j:Int) - 1)/\pO ws N c i≠pO ws N d j):=by
 have hw:=h.sw c hc
 have hv:=h.sw d hd
 have lw:=Pe.mpr hw.ne
 have lv:=Pe.mpr hv.ne
 have vo: ∀{c:Nat} (hw:SW y (ws.getD c [])) (k:Int),rd (ws.getD c []) k=rd (ws.getD c []) (g7 (ws.getD c []).length k:Nat)\/rd (ws.getD c []) k=ao (rd (ws.getD c []) (g7 (ws.getD c []).length k:Nat)):=fun hw k=> .inl (bJ hw.ne k).symm
 have vi: ∀{c:Nat} (hw:SW y (ws.getD c [])) (k:Int),ao (rd (ws.getD c []) k)=rd (ws.getD c []) (g7 (ws.getD c []).length k:Nat)\/ao (rd (ws.getD c []) k)=ao (rd (ws.getD c []) (g7 (ws.getD c []).length k:Nat)):=fun hw k=> .inr (by rw[bJ hw.ne k])
 refine ⟨hN.inj h hc hd (bz lw _) (bz lv _) (vi hw _) (vo hv _) fun q=>?_,fun fD=>⟨hN.inj h hc hd (bz lw _) (bz lv _) (vi hw _) (vi hv _) fun q=>?_,hN.inj h hc hd (bz lw _) (bz lv _) (vo hw _) (vo hv _) fun q=>?_⟩⟩
 ·obtain ⟨q1,q⟩:=Prod.mk.inj q
  obtain ⟨q2,q3⟩:=Prod.mk.inj q
  subst q1
  rw[<-bJ hw.ne ((i:Int) - 1), <-bJ hw.ne (j:Int),q2]at q3
  exact i5 (h.yd.lt _ (hw.rd _)) q3
 ·obtain ⟨q1,q⟩:=Prod.mk.inj q
  subst q1
  exact fD (by rw[xk hi hj (Prod.mk.inj q).1])
 ·obtain ⟨q1,q⟩:=Prod.mk.inj q
  subst q1
  exact fD (by rw[xk (k:=0) hi hj (by rw[VR,VR];exact (Prod.mk.inj q).1)])
theorem DH (h:dA y ws L r M) (hN:Lies y ws L r M N) {c d:Nat} (hc:c<ws.length) (hd:d<ws.length) {i j:Nat} (hi:i<(ws.getD c []).length) (hj:j<(ws.getD d []).length):gL (pO ws N c) (pI ws N c) (pO ws N d) (pI ws N d) i j=gL (pO ws N d) (pI ws N d) (pO ws N c) (pI ws N c) j i:=by
 by_cases z:(c,i)=(d,j)
 ·obtain ⟨rfl,rfl⟩:=Prod.mk.inj z
  rfl
 have n:=dv h hN hc hd hi hj
 exact jI (dv h hN hc hc hi hi).1 (dv h hN hd hd hj hj).1 (n.2 z).1 n.1 (Ne.symm (dv h hN hd hc hj hi).1) (n.2 z).2
theorem AN (h:dA y ws L r M) (hN:Lies y ws L r M N) {c:Nat} (hc:c<ws.length):
  2*rO (ws.getD c []).length (fun i j=>one (gL (pO ws N c) (pI ws N c) (pO ws N c) (pI ws N c) i j=true))=b4 (ws.getD c []).length (ws.getD c []).length (fc y (ws.getD c []) (ws.getD c []))+2*(((ws.getD c []).length / r c:Nat) - 1):=by
 rw[<-vx h hN hc]
 exact (xj (fun i j hi hj=>by rw[DH h hN hc hc hi hj]) (fun i hi=>aR (by unfold gL;rw[tm];decide))).symm
end
theorem AO {y:List Nat} {f g:Int->Nat} {a:Nat} (hy:Yd y) (hf:fS y f) (hg:fS y g) (h:f a=g a) (hn:f (a+1)≠g (a+1)):fE y g f a=!fE y f g a:=by
 have:dF y f (a+1)≠dF y g (a+1):=fun q=>hn (by
  unfold dF at q
  rw[show (a:Int)+1 - 1=a by omega, <-h]at q
  exact jH (hy.cl _ (hf.bH _)) (hf.bH _) (hg.bH _) q)
 unfold fE
 rw[<-decide_not]
 exact decide_eq_decide.mpr (by omega)
theorem vy {y:List Nat} {f g:Int->Nat} {b:Nat} (hy:Yd y) (hf:fS y f) (hg:fS y g) (h:f (-(b:Int))=g (-(b:Int))) (hn:f (-(b:Int) - 1)≠g (-(b:Int) - 1)):fK y g f b=!fK y f g b:=by
 have:dF y f (-(b:Int))≠dF y g (-(b:Int)):=fun q=>hn (by
  unfold dF at q
  rw[<-h]at q
  have r1:=hf.red (-(b:Int))
  have r2:=hg.red (-(b:Int))
  have c1:=(dG (hy.cl _ (hf.bH (-(b:Int) - 1))) (hf.bH (-(b:Int))) (Ne.symm r1)).2.2
  have c2:=(dG (hy.cl _ (hg.bH (-(b:Int) - 1))) (hf.bH (-(b:Int))) (by rw[h];exact Ne.symm r2)).2.2
  have:=jH (hf.bH (-(b:Int))) (hy.cl _ (hf.bH (-(b:Int) - 1))) (hy.cl _ (hg.bH (-(b:Int) - 1))) (by rw[c1,c2,q])
  exact cT (hy.lt _ (hf.bH _)) (hy.lt _ (hg.bH _)) this)
 unfold fK
 rw[<-decide_not]
 exact decide_eq_decide.mpr (by omega)
theorem EX {y:List Nat} {f g:Int->Nat} (hy:Yd y) (hf:fS y f) (hg:fS y g):i9 y f g->i9 y g f:=fun ⟨a,r,x⟩=>⟨a,r.sy,by
 rw[AO hy hf hg (r.kj a (by omega) (by omega)) r.hi,vy hy hf hg (r.kj _ (by omega) (by omega)) r.lo]
 exact fun q=>x (by simpa using q)⟩
theorem GP {y:List Nat} {a b p q:Nat} (hy:Yd y) (ha:a∈y) (hb:b∈y) (hp:p∈y) (hq:q∈y) (uj:a≠b) (Ld:p≠q):ac y a b p q=ac y p q a b:=by
 unfold ac
 by_cases z:p=a\/p=b\/q=a\/q=b
 ·rw[if_pos z,if_pos (z.elim (fun z=> .inl z.symm) fun z=>z.elim (fun z=> .inr (.inr (.inl z.symm))) fun z=>z.elim (fun z=> .inr (.inl z.symm)) fun z=> .inr (.inr (.inr z.symm)))]
 ·have n1:a≠p:=fun q=>z (.inl q.symm)
  have n2:b≠p:=fun q=>z (.inr (.inl q.symm))
  have n3:a≠q:=fun q=>z (.inr (.inr (.inl q.symm)))
  have n4:b≠q:=fun q=>z (.inr (.inr (.inr q.symm)))
  rw[if_neg z,if_neg (fun z=>z.elim n1 fun z=>z.elim n3 fun z=>z.elim n2 n4)]
  rw[eE hy.nd ha hp hb n1 uj (Ne.symm n2),eE hy.nd ha hq hb n3 uj (Ne.symm n4),eE hy.nd hp ha hq (Ne.symm n1) Ld n3,eE hy.nd hp hb hq (Ne.symm n2) Ld n4]
  exact jI (bL ha hb uj) (bL hp hq Ld) (bL ha hp n1) (bL ha hq n3) (bL hb hp n2) (bL hb hq n4)
theorem AQ {Q:Int->Prop} {P:Nat->Bool}: ∀{m:Nat},(∀j:Nat,j<m->(Q j↔P j=true))->sm m (fun j=>one (Q j))=((List.range m).filter P).length
 | 0,_=>rfl
 | m+1,h=>by
  show sm m _+one (Q m)=_
  rw[AQ (m:=m) fun j hj=>h j (by omega),UG,Vb,Tn,aY (h m (by omega))]
  cases e:P m
  ·rw[T_ (by rw[e];decide),aR (by decide)];simp
  ·rw[Uk e,dX rfl];simp
section
variable {y w:List Nat}
end
section
variable {y w:List Nat}
end
section
variable {y:List Nat} {ws:List (List Nat)}
end
theorem xl (n:Nat) (h:Int->Int->Int): ∀m:Nat,sm n (fun i=>sm m fun j=>h i j)=sm m fun j=>sm n fun i=>h i j
 | 0=>eQ n
 | m+1=>by
  show b4 n (m+1) h=sm m (fun j=>sm n fun i=>h i j)+sm n (fun i=>h i m)
  rw[qV, <-xl n h m]
  rfl
theorem iF (h:Nat->Int): ∀n:Nat,((List.range n).map h).sum=sm n (fun i=>h i.toNat)
 | 0=>rfl
 | n+1=>by
  rw[UG,QT,List.sum_append,iF h n]
  show _=sm n _+h (((n:Nat):Int).toNat)
  rw[Pj]
  simp
theorem xm (ws:List (List Nat)) (h:Nat×Nat->Int): ∀n:Nat,((s_ ws n).map h).sum=sm n fun c=>sm (ws.getD c.toNat []).length fun i=>h (c.toNat,i.toNat)
 | 0=>rfl
 | n+1=>by
  unfold s_
  rw[QT,List.sum_append,xm ws h n,Us]
  show _+((List.range _).map fun i=>h (n,i)).sum=_
  rw[iF]
  rfl
noncomputable def cl {α:Type} (p:α->α->Bool):List α->Nat
 | []=>0
 | x::r=>(r.filter (p x)).length+cl p r
theorem qW {α:Type} (p:α->α->Bool) (m:List α): ∀l:List α,(cl p (l++m):Int)=cl p l+cl p m+(l.map fun x=>((m.filter (p x)).length:Int)).sum
 | []=>by show (cl p m:Int)=((0:Nat):Int)+cl p m+0;omega
 | a::l=>by
  show ((((l++m).filter (p a)).length+cl p (l++m):Nat):Int)=(((l.filter (p a)).length+cl p l:Nat):Int)+cl p m+(((a::l).map fun x=>((m.filter (p x)).length:Int)).sum)
  rw[Vb,Tn,TV,U7,Ud,Ud,qW p m l,Ud]
  omega
theorem AR (p:Nat×Nat->Nat×Nat->Bool) (c:Nat): ∀n:Nat,(cl p ((List.range n).map fun i=>(c,i)):Int)=rO n (fun i j=>one (p (c,i.toNat) (c,j.toNat)=true))
 | 0=>rfl
 | n+1=>by
  rw[UG,QT,qW,AR p c n,Us]
  show _+((0:Nat):Int)+((List.range n).map fun i=>((([(c,n)]:List (Nat×Nat)).filter (p (c,i))).length:Int)).sum=rO n _+sm n _
  rw[iF,Wt]
  congr 1
  rw[show ((0:Nat):Int)=0 from rfl,Vc]
  refine aF fun i _=>?_
  show (((([(c,n)]:List (Nat×Nat)).filter (p (c,i))).length:Int))=one (p (c,((i:Nat):Int).toNat) (c,((n:Nat):Int).toNat)=true)
  rw[Pj,Pj]
  cases e:p (c,i) (c,n)
  ·rw[T_ (by rw[e];decide),aR (by decide)];rfl
  ·rw[Uk e,dX rfl];rfl
theorem xn (P:Nat×Nat->Bool) (c n:Nat):((((List.range n).map fun i=>(c,i)).filter P).length:Int)=sm n (fun j=>one (P (c,j.toNat)=true)):=by
 rw[List.filter_map,HX,AQ (P:=fun j=>P (c,j)) fun j _=>by rw[Pj]]
 rfl
theorem AS (ws:List (List Nat)) (p:Nat×Nat->Nat×Nat->Bool): ∀n:Nat,(cl p (s_ ws n):Int)=sm n (fun c=>rO (ws.getD c.toNat []).length (fun i j=>one (p (c.toNat,i.toNat) (c.toNat,j.toNat)=true)))+rO n (fun c d=>b4 (ws.getD c.toNat []).length (ws.getD d.toNat []).length fun i j=>one (p (c.toNat,i.toNat) (d.toNat,j.toNat)=true))
 | 0=>rfl
 | n+1=>by
  unfold s_
  rw[qW,AS ws p n,AR,xm]
  have u:((n:Nat):Int).toNat=n:=Pj n
  show _+_+sm n _=(sm n _+rO (ws.getD ((n:Nat):Int).toNat []).length (fun i j=>one (p (((n:Nat):Int).toNat,i.toNat) (((n:Nat):Int).toNat,j.toNat)=true)))+(rO n _+sm n (fun c=>b4 (ws.getD c.toNat []).length (ws.getD ((n:Nat):Int).toNat []).length fun i j=>one (p (c.toNat,i.toNat) (((n:Nat):Int).toNat,j.toNat)=true)))
  rw[u]
  have:sm n (fun c=>sm (ws.getD c.toNat []).length fun i=>(((((List.range (ws.getD n []).length).map fun i=>(n,i)).filter (p (c.toNat,i.toNat))).length:Nat):Int))=sm n (fun c=>b4 (ws.getD c.toNat []).length (ws.getD n []).length fun i j=>one (p (c.toNat,i.toNat) (n,j.toNat)=true)):=aF fun c _=>aF fun i _=>xn _ _ _
  rw[this]
  omega
section
variable {y:List Nat} {ws:List (List Nat)} {L:Nat->Bool} {r:Nat->Nat} {M:Nat} {N:Nat->Nat->Nat->Nat}
noncomputable def EY (ws:List (List Nat)) (N:Nat->Nat->Nat->Nat) (o p:Nat×Nat):Bool:=gL (pO ws N o.1) (pI ws N o.1) (pO ws N p.1) (pI ws N p.1) o.2 p.2
end
def Lx (f g:Int->Nat):Prop:= ∃m:Nat,f m<g m/\ ∀l:Nat,l<m->f l=g l
theorem qX {w:List Nat} (hw:w≠[]) {i k:Nat} (hi:i<=w.length) (hk:k<w.length):(da w i)[k]? =some (rd w ((i:Int)+k)):=by
 rw[lS hi hk]
 unfold Fw
 have:=fJ hw ((i:Int)+k)
 rw[<-this]
 congr 1
 have e:(((k+i)%w.length:Nat):Int)=((i:Int)+k)%w.length:=by rw[Vm,Ud,Int.add_comm]
 omega
theorem AU {w u:List Nat} (hw:w≠[]) (hl:u.length=w.length) {i j:Nat} (hi:i<=w.length) (hj:j<=w.length):da w i<da u j↔Lx (sq w i) (sq u j):=by
 have hu:u≠[]:=fun z=>hw (by rw[z]at hl;exact UD.mp hl.symm)
 have g1: ∀{k:Nat} (hk:k<(da w i).length),(da w i)[k]=sq w i k:=fun {k} hk=>by
  have:=qX hw hi (k:=k) (by rw[b8]at hk;exact hk)
  rw[FW hk]at this
  exact TZ this
 have g2: ∀{k:Nat} (hk:k<(da u j).length),(da u j)[k]=sq u j k:=fun {k} hk=>by
  have:=qX hu (i:=j) (k:=k) (by omega) (by rw[b8]at hk;exact hk)
  rw[FW hk]at this
  exact TZ this
 rw[List.lt_iff_exists]
 constructor
 ·rintro (⟨_,h⟩ | ⟨m,h1,h2,h3,h4⟩)
  ·rw[b8,b8,hl]at h;omega
  ·refine ⟨m,by rw[<-g1 h1, <-g2 h2];exact h4,fun l wo=>?_⟩
   rw[<-g1 (by omega), <-g2 (by omega)]
   exact h3 l wo
 ·rintro ⟨m,h1,h2⟩
  have hp:=Pe.mpr hw
  have hm:m<w.length:=by
   refine Classical.byContradiction fun z=>?_
   have d:=Wa m w.length
   have c1:=gs (f:=sq w i) (p:=w.length) (fun k=>bX w i k) (m%w.length:Nat) (m / w.length)
   have c2:=gs (f:=sq u j) (p:=w.length) (fun k=>by rw[<-hl];exact bX u j k) (m%w.length:Nat) (m / w.length)
   have e:((m%w.length:Nat):Int)+((m / w.length:Nat):Int)*(w.length:Nat)=m:=by
    rw[WG];exact_mod_cast d
   rw[e]at c1 c2
   rw[c1,c2,h2 (m%w.length) (by have:=U_ m hp;omega)]at h1
   omega
  refine .inr ⟨m,by rw[b8];exact hm,by rw[b8,hl];exact hm,fun l wo=>?_,?_⟩
  ·rw[g1,g2];exact h2 l wo
  ·rw[g1,g2];exact h1
theorem jJ {w:List Nat} (hw:w≠[]): ∃i:Nat,i<w.length/\eK w=da w i:=by
 have hp:=Pe.mpr hw
 rcases i6 (jD w (w.length - 1)) w with h | h
 ·exact ⟨0,hp,by unfold eK;rw[h,sX]⟩
 ·unfold jD at h
  obtain ⟨k,hk,e⟩:=T3.mp h
  have:=Ux.mp hk
  exact ⟨k+1,by omega,by unfold eK;exact e.symm⟩
theorem kW {w:List Nat} {i:Nat} (hi:i<w.length): ¬da w i<eK w:=by
 unfold eK
 refine i7 _ _ _ ?_
 cases i with
 | zero=>rw[sX];exact TR
 | succ i=>exact Tj _ (T3.mpr ⟨i,Ux.mpr (by omega),rfl⟩)
noncomputable def leads (w:List Nat):Bool:=decide (eK w<eK (gm w))
theorem iG {v:List Nat} (h:v≠[]) (k:Int):sq (gm v) k=bq v (-1 - k):=by
 funext x
 unfold sq bq
 rw[kh h]
 congr 2;omega
theorem mX {v:List Nat} (h:v≠[]):gm v≠[]:=fun z=>h (UD.mp (by rw[<-b7 v,z];rfl))
theorem pC {w:List Nat} (hw:w≠[]):leads w=true↔ ∃i:Int, ∀j:Int,Lx (sq w i) (bq w j):=by
 have hp:=Pe.mpr hw
 have hl:=b7 w
 have ht:=mX hw
 unfold leads
 rw[decide_eq_true_iff]
 constructor
 ·intro h
  obtain ⟨i,hi,ei⟩:=jJ hw
  refine ⟨i,fun j=>?_⟩
  have hj:=bz (n:=(gm w).length) (by rw[hl];exact hp) (-1 - j)
  have h2:eK w<da (gm w) (g7 (gm w).length (-1 - j)):=List.not_le.mp fun z=>by
   have:=List.lt_of_le_of_lt z h
   exact kW hj this
  rw[ei]at h2
  have h3:=(AU hw hl (by omega) (by omega)).mp h2
  rw[b_ ht,iG hw,show -1 - (-1 - j)=j by omega]at h3
  exact h3
 ·rintro ⟨i,h⟩
  obtain ⟨j,hj,ej⟩:=jJ ht
  have h2:=h (-1 - j)
  rw[show (-1:Int) - (j:Int)= -1 - j by omega, <-iG hw, <-b_ hw]at h2
  have hi:=bz hp i
  have h3:=(AU hw hl (by omega) (by omega)).mpr h2
  rw[<-ej]at h3
  exact List.lt_of_le_of_lt (List.not_lt.mp (kW hi)) h3
theorem pE {w v:List Nat} (hw:w≠[]) (hv:v≠[]) {i j:Int} (h:bE w v i j):leads w=leads v:=by
 have e1: ∀k,sq w k=sq v (k - i+j):=fun k=>by
  funext x
  have:=h (k - i+x)
  unfold sq at this ⊢
  rw[show k+x=i+(k - i+x) by omega,this]
  congr 1;omega
 have e2: ∀k,bq w k=bq v (k - i+j):=fun k=>by rw[<-dY, <-dY,e1]
 rw[VN,pC hw,pC hv]
 constructor
 ·rintro ⟨a,h⟩
  refine ⟨a - i+j,fun b=>?_⟩
  have:=h (b - j+i)
  rwa [e1,e2,show b - j+i - i+j=b by omega]at this
 ·rintro ⟨a,h⟩
  refine ⟨a - j+i,fun b=>?_⟩
  rw[e1,e2,show a - j+i - i+j=a by omega]
  exact h _
theorem pH {y w:List Nat} (hy:Yd y) (hw:SW y w):leads (gm w)=!leads w:=by
 have hl:AllLt w:=fun c hc=>hy.lt c (hw.bH c hc)
 have ne:eK w≠eK (gm w):=fun z=>by
  obtain ⟨i,hi,ei⟩:=jJ hw.ne
  obtain ⟨j,hj,ej⟩:=jJ (mX hw.ne)
  rw[b7]at hj
  have: ∀k:Nat,k<w.length->sq w i k=sq (gm w) j k:=fun k hk=>by
   have h1:=qX hw.ne (i:=i) (k:=k) (by omega) hk
   have h2:=qX (mX hw.ne) (i:=j) (k:=k) (by rw[b7];omega) (by rw[b7];exact hk)
   rw[<-ei,z,ej,h2]at h1
   exact (TZ h1).symm
  refine qM hy hw i (-1 - j) ?_
  rw[<-iG hw.ne]
  have hp:=Pe.mpr hw.ne
  refine fw (p:=w.length) (q:=w.length) hp hp (fun k=>bX w i k) (fun k=>by rw[<-b7 w];exact bX (gm w) j k) fun n hn=>?_
  by_cases q:n<w.length
  ·exact this n q
  ·have c1:=bX w i ((n - w.length:Nat):Int)
   have c2:=bX (gm w) j ((n - w.length:Nat):Int)
   rw[show ((n - w.length:Nat):Int)+w.length=n by omega]at c1
   rw[b7,show ((n - w.length:Nat):Int)+w.length=n by omega]at c2
   rw[c1,c2]
   exact this _ (by omega)
 unfold leads
 rw[Dq hl, <-decide_not]
 refine decide_eq_decide.mpr ⟨fun h z=>?_,fun h=>?_⟩
 ·exact Vs _ (List.lt_trans h z)
 ·exact List.not_le.mp fun z=>ne (List.le_antisymm z (List.not_lt.mp h))
theorem yO {y w v:List Nat} (hy:Yd y) (hw:SW y w) (hv:SW y v) {i j:Int} (h: ∀k,sq w i k=bq v j k):leads v=!leads w:=by
 have:bE w (gm v) i (-1 - j):=fun k=>by rw[iG hv.ne,show -1 - (-1 - j)=j by omega];exact h k
 rw[pE hw.ne (mX hv.ne) this,pH hy hv,Bool.not_not]
theorem AV {w:List Nat} (hw:w≠[]) {d:Nat}:ui w d↔ ∀k:Int,rd w (k+d)=rd w k:=by
 have hp:=Pe.mpr hw
 have fr: ∀i:Nat,Fw w i=some (rd w i):=fun i=>by
  unfold Fw
  rw[<-fJ hw (i:Int)]
  congr 1
 constructor
 ·intro h k
  have:=h (g7 w.length k)
  rw[fr,fr]at this
  have:=TZ this
  rw[bJ hw]at this
  rw[<-this, <-gq w (k+d), <-gq w (((g7 w.length k+d:Nat)):Int),Ud,du hp,WH]
 ·intro h i
  rw[fr,fr,Ud,h]
theorem fg {w:List Nat} (hw:w≠[]) {s:Nat} (h:bA w s):0<s/\ ∀i j:Int,bE w w i j↔(i - j)%(s:Int)=0:=by
 rcases h with ⟨z,_⟩ | h'
 ·exact absurd z hw
 have h:bA w s:= .inr h'
 obtain ⟨h1,h2,h3,_⟩:=h'
 have ps: ∀k:Int,rd w (k+s)=rd w k:=(AV hw).mp ((fB hw h2).mp (lR h1 h2 h3))
 have pm: ∀(k t:Int),rd w (k+t*s)=rd w k:=fun k t=>by
  rcases Int.le_total 0 t with q | q
  ·obtain ⟨n,rfl⟩: ∃n:Nat,t=n:=⟨t.toNat,by omega⟩
   exact gs ps k n
  ·obtain ⟨n,rfl⟩: ∃n:Nat,t= -(n:Int):=⟨(-t).toNat,by omega⟩
   have:=gs ps (k+ -(n:Int)*s) n
   rw[<-this]
   congr 1
   rw[Int.neg_mul];omega
 refine ⟨h1,fun i j=>⟨fun p=>?_,fun p k=>?_⟩⟩
 ·have pd: ∀k:Int,rd w (k+(i - j))=rd w k:=fun k=>by
   have:=p (k - j)
   unfold sq at this
   rw[show i+(k - j)=k+(i - j) by omega,show j+(k - j)=k by omega]at this
   exact this
  have e:=Wi (i - j) s
  have hn:=US (i - j) (b:=(s:Int)) (by omega)
  have dc:=UM (i - j) (b:=(s:Int)) (by omega)
  refine Classical.byContradiction fun z=>?_
  obtain ⟨d,hd⟩: ∃d:Nat,(i - j)%(s:Int)=d:=⟨((i - j)%(s:Int)).toNat,by omega⟩
  refine bA.least h (j:=d) (by omega) (by omega) ((AV hw).mpr fun k=>?_)
  have q:=pd k
  rw[<-e,hd,WG, <-Wt,pm]at q
  exact q
 ·unfold sq
  have e:=Wi (i - j) s
  rw[p,Vc,WG]at e
  rw[show i+k=j+k+(i - j) by omega, <-e,pm]
theorem AW {y:List Nat} {ws:List (List Nat)} {r:Nat->Nat} {M:Nat} (hy:Yd y) (hw: ∀c,c<ws.length->SW y (ws.getD c [])) (hr: ∀c,c<ws.length->bA (ws.getD c []) (r c)) (hM: ∀c d,c<ws.length->d<ws.length->(ws.getD c []).length+(ws.getD d []).length<=M):dA y ws (fun c=>leads (ws.getD c [])) r M:=
 ⟨hy,hw,hM,fun c d i j hc hd h=>pE (hw c hc).ne (hw d hd).ne h,fun c d i j hc hd h=>yO hy (hw c hc) (hw d hd) h,fun c hc=>(fg (hw c hc).ne (hr c hc)).1,fun c hc=>(fg (hw c hc).ne (hr c hc)).2⟩
noncomputable def bs (y w v:List Nat) (i j:Int):Int:=one (ac y (ao (rd w (i - 1))) (rd w i) (ao (rd v (j - 1))) (rd v j)=true)+one (i9 y (sq w i) (sq v j))+one (i9 y (sq w i) (bq v j))
noncomputable def SS (y w v:List Nat):Int:=b4 w.length v.length (bs y w v)
theorem AX {y w v:List Nat} (hy:Yd y) (hw:SW y w) (hv:SW y v):b4 w.length v.length (fc y w v)=SS y w v:=br fun i j _ _=>by
 unfold fc bs
 rw[aY (pq (n:=w.length+v.length) hy (aQ hw i) (aQ hv j) fun z=>fX hw.ne hv.ne (fun k=>bX w i k) (fun k=>bX v j k) z),aY (pq (n:=w.length+v.length) hy (aQ hw i) (ff hy hv j) fun z=>fX hw.ne hv.ne (fun k=>bX w i k) (fun k=>kg v j k) z)]
theorem Lk (w:List Nat) (i:Int):rd w (i+w.length - 1)=rd w (i - 1):=by rw[show i+(w.length:Int) - 1=i - 1+w.length by omega,eF]
theorem Ll (y w v:List Nat) (i j:Int):bs y w v (i+w.length) j=bs y w v i j:=by unfold bs;rw[mW,eF,Lk]
def Ig (y:List Nat) (f g:Int->Nat):Prop:= ∃b,Run f g 0 b/\fE y f g 0≠fK y f g b
theorem GQ {y:List Nat} {n m:Nat} {F G:Int->Int->Nat} (bF: ∀k,cK (F k)=F (k - 1)) (bG: ∀k,cK (G k)=G (k - 1)) (pF: ∀k,F (k+n)=F k) (pG: ∀k,G (k+m)=G k):b4 n m (fun s t=>one (i9 y (F s) (G t)))=b4 n m fun s t=>one (Ig y (F s) (G t)):=by
 have key: ∀s t:Int,one (i9 y (F s) (G t))+one (∃a b,Run (F (s - 1)) (G (t - 1)) (a+1) b/\fE y (F (s - 1)) (G (t - 1)) (a+1)≠fK y (F (s - 1)) (G (t - 1)) b)=one (Ig y (F s) (G t))+one (∃a b,Run (F s) (G t) (a+1) b/\fE y (F s) (G t) (a+1)≠fK y (F s) (G t) b):=fun s t=>by
  rw[<-bF, <-bG]
  generalize F s=f
  generalize G t=g
  by_cases X: ∃a b,Run f g a b/\fE y f g a≠fK y f g b
  ·obtain ⟨a,b,r,x⟩:=X
   have u: ∀{a' b'},Run f g a' b'->a'=a/\b'=b:=fun r'=>r'.one r
   have e1:one (i9 y f g)+one (∃a b,Run (cK f) (cK g) (a+1) b/\fE y (cK f) (cK g) (a+1)≠fK y (cK f) (cK g) b)=1:=by
    cases b with
    | zero=>
     rw[dX ⟨a,r,x⟩,aR (fun ⟨a',b',r',_⟩=>absurd (u r'.fd).2 (VC _))]
     rfl
    | succ b=>
     rw[aR (fun ⟨a',r',_⟩=>absurd (u r').2.symm (VC _)),dX ⟨a,b,r.bk,by rw[jF,jG];exact x⟩]
     rfl
   have e2:one (Ig y f g)+one (∃a b,Run f g (a+1) b/\fE y f g (a+1)≠fK y f g b)=1:=by
    cases a with
    | zero=>
     rw[dX ⟨b,r,x⟩,aR (fun ⟨a',b',r',_⟩=>absurd (u r').1 (VC _))]
     rfl
    | succ a=>
     rw[aR (fun ⟨b',r',_⟩=>absurd (u r').1.symm (VC _)),dX ⟨a,b,r,x⟩]
     rfl
   rw[e1,e2]
  ·rw[aR (fun ⟨a,r,x⟩=>X ⟨a,0,r,x⟩),aR (fun ⟨a,b,r,x⟩=>X ⟨a,b+1,r.fd,by rw[jF,jG]at x;exact x⟩),aR (fun ⟨b,r,x⟩=>X ⟨0,b,r,x⟩),aR (fun ⟨a,b,r,x⟩=>X ⟨a+1,b,r,x⟩)]
 have sh:=pA (n:=n) (m:=m) (h:=fun s t=>one (∃a b,Run (F s) (G t) (a+1) b/\fE y (F s) (G t) (a+1)≠fK y (F s) (G t) b)) (fun i j=>by rw[pF]) (fun i j=>by rw[pG])
 refine (Int.add_left_inj (b4 n m (fun s t=>one (∃a b,Run (F s) (G t) (a+1) b/\fE y (F s) (G t) (a+1)≠fK y (F s) (G t) b)))).mp ?_
 rw[<-cx n m (fun s t=>one (Ig y (F s) (G t))), <-sh, <-cx]
 exact br fun i j _ _=>key i j
theorem Lm {y:List Nat} {f g:Int->Nat} (hy:Yd y) (hf:fS y f) (hg:fS y g):Ig y f g↔i9 y (iN g) (iN f):=by
 have a1: ∀b:Nat,fE y (iN g) (iN f) b=fK y f g b:=fun b=>by
  unfold fE fK
  rw[gZ hy hf,gZ hy hg]
  exact decide_eq_decide.mpr ⟨fun q=>by omega,fun q=>by omega⟩
 have a2:fK y (iN g) (iN f) 0=fE y f g 0:=by
  unfold fE fK
  have e1:=gZ hy hf (-1)
  have e2:=gZ hy hg (-1)
  rw[show (-1:Int)+1= -((0:Nat):Int) from rfl]at e1 e2
  rw[e1,e2]
  exact decide_eq_decide.mpr ⟨fun q=>by have:(y.length:Int) - dF y g 1<y.length - dF y f 1:=q;show dF y f 1<dF y g 1;omega,fun q=>by have:dF y f 1<dF y g 1:=q;show (y.length:Int) - dF y g 1<y.length - dF y f 1;omega⟩
 constructor
 ·rintro ⟨b,r,x⟩
  exact ⟨b,(r.rv hy hf hg).sy,by rw[a1,a2];exact Ne.symm x⟩
 ·rintro ⟨b,r,x⟩
  have r2:=r.rv hy (hg.rv hy) (hf.rv hy)
  rw[kU hy hf,kU hy hg]at r2
  rw[a1,a2]at x
  exact ⟨b,r2.sy,Ne.symm x⟩
theorem vz {y:List Nat} {f g:Int->Nat} (hy:Yd y) (hf:fS y f) (hg:fS y g):i9 y f g↔i9 y g f:=⟨EX hy hf hg,EX hy hg hf⟩
theorem Ln (w:List Nat) (k:Int):cK (sq w k)=sq w (k - 1):=by
 funext x
 unfold cK sq
 congr 1
 omega
theorem Lo {y w:List Nat} (hy:Yd y) (h:SW y w) (i:Int):iN (bq w i)=sq w i:=by rw[<-dY,kU hy (aQ h i)]
theorem GR {y w v:List Nat} (hy:Yd y) (hw:SW y w) (hv:SW y v):b4 w.length v.length (fun i j=>one (i9 y (bq w i) (sq v j)))=b4 w.length v.length fun i j=>one (i9 y (sq w i) (bq v j)):=by
 have fb: ∀k,cK (bq v (-k))=bq v (-(k - 1)):=fun k=>by
  funext x
  unfold cK bq
  congr 2
  omega
 have fp: ∀k:Int,bq v (-(k+v.length))=bq v (-k):=fun k=>by rw[show -(k+(v.length:Int))= -k - v.length by omega,GK]
 have e:=GQ (y:=y) (n:=w.length) (m:=v.length) (F:=sq w) (G:=fun k=>bq v (-k)) (Ln w) fb (mW w) fp
 have n1: ∀H:Int->Int->Int,(∀i j,H i (j+v.length)=H i j)->b4 w.length v.length (fun i j=>H i (-j))=b4 w.length v.length H:=fun H P=>aF fun i _=>vq (h:=H i) fun k=>P i k
 rw[n1 (fun i j=>one (i9 y (sq w i) (bq v j))) (fun i j=>by rw[km]),n1 (fun i j=>one (Ig y (sq w i) (bq v j))) (fun i j=>by rw[km])]at e
 rw[e]
 exact br fun i j _ _=>aY (by rw[Lm hy (aQ hw i) (ff hy hv j),dY,Lo hy hv];exact vz hy (ff hy hw i) (aQ hv j))
theorem DI {y w:List Nat} (hy:Yd y) (h:SW y w) (i:Int):ao (rd w (i - 1))∈y/\rd w i∈y/\ao (rd w (i - 1))≠rd w i:=⟨hy.cl _ (h.rd _),h.rd _,Ne.symm (h.red i)⟩
theorem vA {y w v:List Nat} (hy:Yd y) (hw:SW y w) (hv:SW y v):SS y w v=SS y v w:=by
 have sw: ∀H:Int->Int->Int,b4 v.length w.length (fun j i=>H i j)=b4 w.length v.length H:=fun H=>xl _ _ _
 have e: ∀u z:List Nat,SS y u z=b4 u.length z.length (fun i j=>one (ac y (ao (rd u (i - 1))) (rd u i) (ao (rd z (j - 1))) (rd z j)=true))+b4 u.length z.length (fun i j=>one (i9 y (sq u i) (sq z j)))+b4 u.length z.length (fun i j=>one (i9 y (sq u i) (bq z j))):=fun u z=>by
  unfold SS bs
  rw[cx,cx]
 rw[e w v,e v w, <-GR hy hw hv, <-sw, <-sw, <-sw]
 congr 1
 ·congr 1
  ·exact br fun j i _ _=>by
    obtain ⟨a1,a2,a3⟩:=DI hy hw i
    obtain ⟨b1,b2,b3⟩:=DI hy hv j
    rw[GP hy a1 a2 b1 b2 a3 b3]
  ·exact br fun j i _ _=>aY (vz hy (aQ hw i) (aQ hv j))
 ·exact br fun j i _ _=>aY (vz hy (ff hy hw i) (aQ hv j))
theorem EZ {h:Int->Int} {n:Nat} (P: ∀k,h (k+n)=h k): ∀k:Nat,sm n (fun i=>h (i+k))=sm n h
 | 0=>aF fun i _=>by rw[show (i:Int)+((0:Nat):Int)=i by omega]
 | k+1=>by
  rw[<-EZ P k, <-qL (h:=fun i=>h (i+k)) (n:=n) (fun j=>by rw[show j+(n:Int)+k=j+k+n by omega,P])]
  exact aF fun i _=>by rw[show (i:Int)+((k+1:Nat):Int)=i+1+k by omega]
theorem vB {y w v:List Nat} (hw:w≠[]) {k:Nat} (hk:k<=w.length):SS y (da w k) v=SS y w v:=by
 have r: ∀i,rd (da w k) i=rd w (i+k):=qE hw hk
 have ls:(da w k).length=w.length:=by unfold da;rw[Tn,T6,T4];omega
 have q: ∀i,sq (da w k) i=sq w (i+k):=fun i=>by
  funext x
  unfold sq
  rw[r,show i+x+(k:Int)=i+k+x by omega]
 unfold SS
 rw[ls]
 show sm _ (fun i=>sm _ fun j=>bs y (da w k) v i j)=sm _ fun i=>sm _ fun j=>bs y w v i j
 rw[<-EZ (h:=fun i=>sm v.length fun j=>bs y w v i j) (n:=w.length) (fun i=>aF fun j _=>Ll y w v i j) k]
 exact aF fun i _=>aF fun j _=>by
  unfold bs
  rw[q,r,r,show (i:Int) - 1+k=i+k - 1 by omega]
theorem ja {w:List Nat} (σ:Nat->Nat) (h:w≠[]) (k:Int):rd (w.map σ) k=σ (rd w k):=by
 have hl:=Pe.mpr h
 have h1:=US k (b:=(w.length:Int)) (by omega)
 have h2:=UM k (b:=(w.length:Int)) (by omega)
 have hi:(k%(w.length:Int)).toNat<w.length:=by omega
 unfold rd
 rw[HX,QQ,QQ,TQ,FW hi]
 rfl
structure qY (y z:List Nat) (σ:Nat->Nat) (neg:Bool):Prop where
 yd:Yd y
 zd:Yd z
 Ih: ∀a∈y,σ a∈z
 inj: ∀a∈y, ∀b∈y,σ a=σ b->a=b
 DJ: ∀a∈y,σ (ao a)=ao (σ a)
 gr: ∀a∈y, ∀b∈y, ∀c∈y,a≠b->a≠c->b≠c->gr z (σ a) (σ b) (σ c)=(neg ^^ gr y a b c)
section
variable {y z w v:List Nat} {σ:Nat->Nat} {neg:Bool}
theorem qY.sw (T:qY y z σ neg) (h:SW y w):SW z (w.map σ):=⟨fun q=>h.ne (List.map_eq_nil_iff.mp q),fun c hc=>by
 obtain ⟨a,ha,rfl⟩:=T3.mp hc
 exact T.Ih a (h.bH a ha),fun k=>by
 rw[ja σ h.ne,ja σ h.ne, <-T.DJ _ (h.rd _)]
 exact fun q=>h.red k (T.inj _ (h.rd _) _ (T.yd.cl _ (h.rd _)) q)⟩
theorem qY.bg (T:qY y z σ neg) {f g:Int->Nat} (hf:fS y f) (hg:fS y g) (RA:fS z fun k=>σ (f k)) (C1:fS z fun k=>σ (g k)):i9 z (fun k=>σ (f k)) (fun k=>σ (g k))↔i9 y f g:=by
 have ne: ∀k,f k≠g k->σ (f k)≠σ (g k):=fun k h q=>h (T.inj _ (hf.bH k) _ (hg.bH k) q)
 have run: ∀{a b},Run (fun k=>σ (f k)) (fun k=>σ (g k)) a b↔Run f g a b:=fun {a b}=>⟨fun r=>⟨fun k h1 h2=>T.inj _ (hf.bH k) _ (hg.bH k) (r.kj k h1 h2),fun q=>r.hi (by show σ _=σ _;rw[q]),fun q=>r.lo (by show σ _=σ _;rw[q])⟩,fun r=>⟨fun k h1 h2=>by show σ _=σ _;rw[r.kj k h1 h2],ne _ r.hi,ne _ r.lo⟩⟩
 have key: ∀a,Run f g a 0->fE z (fun k=>σ (f k)) (fun k=>σ (g k)) a=(neg ^^ fE y f g a)/\fK z (fun k=>σ (f k)) (fun k=>σ (g k)) 0=(neg ^^ fK y f g 0):=fun a r=>by
  have h0:=r.zero
  have ha:=r.kj a (by omega) (by omega)
  have r1:=hf.red (a+1)
  have r2:=hg.red (a+1)
  rw[show (a:Int)+1 - 1=a by omega]at r1 r2
  have lo:f (-1)≠g (-1):=r.lo
  have r3:=hf.red 0
  have r4:=hg.red 0
  rw[Int.zero_sub]at r3 r4
  constructor
  ·rw[qJ (by show σ _=σ _;rw[ha]),qJ ha]
   show My.gr z (ao (σ (f a))) _ _=_
   rw[<-T.DJ _ (hf.bH a)]
   exact T.gr _ (T.yd.cl _ (hf.bH a)) _ (hf.bH _) _ (hg.bH _) (Ne.symm r1) (by rw[ha];exact Ne.symm r2) r.hi
  ·rw[qI T.zd RA C1 (by show σ _=σ _;rw[h0]) (ne _ lo),qI T.yd hf hg h0 lo]
   show (!My.gr z (ao (σ (f (-1)))) (ao (σ (g (-1)))) (σ (f 0)))=_
   rw[<-T.DJ _ (hf.bH _), <-T.DJ _ (hg.bH _),T.gr _ (T.yd.cl _ (hf.bH _)) _ (T.yd.cl _ (hg.bH _)) _ (hf.bH 0) (fun q=>lo (cT (T.yd.lt _ (hf.bH _)) (T.yd.lt _ (hg.bH _)) q)) (Ne.symm r3) (by rw[h0];exact Ne.symm r4)]
   cases neg<;>cases My.gr y (ao (f (-1))) (ao (g (-1))) (f 0)<;>rfl
 constructor
 ·rintro ⟨a,r,x⟩
  have r':=run.mp r
  obtain ⟨k1,k2⟩:=key a r'
  rw[k1,k2]at x
  exact ⟨a,r',fun q=>x (by rw[q])⟩
 ·rintro ⟨a,r,x⟩
  obtain ⟨k1,k2⟩:=key a r
  refine ⟨a,run.mpr r,?_⟩
  rw[k1,k2]
  exact fun q=>x (by cases neg<;>cases h1:fE y f g a<;>cases h2:fK y f g 0<;>simp[h1,h2]at q ⊢)
theorem qY.ac (T:qY y z σ neg) {a b p q:Nat} (ha:a∈y) (hb:b∈y) (hp:p∈y) (hq:q∈y) (ab:a≠b):ac z (σ a) (σ b) (σ p) (σ q)=ac y a b p q:=by
 have e: ∀{a b},a∈y->b∈y->(σ a=σ b↔a=b):=fun {a b} ha hb=>⟨T.inj a ha b hb,fun q=>by rw[q]⟩
 unfold My.ac
 have e4:(σ p=σ a\/σ p=σ b\/σ q=σ a\/σ q=σ b)↔(p=a\/p=b\/q=a\/q=b):=by rw[e hp ha,e hp hb,e hq ha,e hq hb]
 by_cases c:p=a\/p=b\/q=a\/q=b
 ·rw[if_pos c,if_pos (e4.mpr c)]
 ·rw[if_neg c,if_neg fun z=>c (e4.mp z)]
  have n1:a≠p:=fun q=>c (.inl q.symm)
  have n2:p≠b:=fun q=>c (.inr (.inl q))
  have n3:a≠q:=fun q=>c (.inr (.inr (.inl q.symm)))
  have n4:q≠b:=fun q=>c (.inr (.inr (.inr q)))
  rw[T.gr a ha p hp b hb n1 ab n2,T.gr a ha q hq b hb n3 ab n4]
  cases neg<;>cases My.gr y a p b<;>cases My.gr y a q b<;>rfl
theorem qY.same (T:qY y z σ neg) (hw:SW y w) (hv:SW y v):SS z (w.map σ) (v.map σ)=SS y w v:=by
 have Ii:=T.sw hw
 have Mf:=T.sw hv
 have cm: ∀{u:List Nat} (hu:SW y u) (k:Int),ao (rd (u.map σ) k)=σ (ao (rd u k)):=fun {u} hu k=>by rw[ja σ hu.ne,T.DJ _ (hu.rd k)]
 have es: ∀{u:List Nat} (hu:SW y u) (i:Int),sq (u.map σ) i=fun k=>σ (sq u i k):=fun {u} hu i=>by
  funext k
  unfold sq
  exact ja σ hu.ne _
 have eb: ∀{u:List Nat} (hu:SW y u) (i:Int),bq (u.map σ) i=fun k=>σ (bq u i k):=fun {u} hu i=>by
  funext k
  unfold bq
  exact cm hu _
 unfold SS
 rw[HX,HX]
 refine br fun i j _ _=>?_
 have b1:=T.bg (aQ hw i) (aQ hv j) (by rw[<-es hw];exact aQ Ii i) (by rw[<-es hv];exact aQ Mf j)
 have b2:=T.bg (aQ hw i) (ff T.yd hv j) (by rw[<-es hw];exact aQ Ii i) (by rw[<-eb hv];exact ff T.zd Mf j)
 obtain ⟨a1,a2,a3⟩:=DI T.yd hw i
 obtain ⟨c1,c2,c3⟩:=DI T.yd hv j
 unfold bs
 rw[cm hw,cm hv,ja σ hw.ne,ja σ hv.ne,T.ac a1 a2 c1 c2 a3,es hw,es hv,eb hv,aY b1,aY b2]
end
theorem yP {w v:List Nat} {s t:Nat} (hw:w≠[]) (hv:v≠[]) (h:bA w s) (g:bA v t) (e: ∀d:Int,bE w w d 0↔bE v v d 0):s=t:=by
 obtain ⟨p1,a⟩:=fg hw h
 obtain ⟨p2,b⟩:=fg hv g
 have key: ∀d:Nat,d%s=0↔d%t=0:=fun d=>by
  have k:=e d
  rw[a,b,VR]at k
  have c1:((d%s:Nat):Int)=(d:Int)%(s:Int):=rfl
  have c2:((d%t:Nat):Int)=(d:Int)%(t:Int):=rfl
  rw[<-c1, <-c2]at k
  exact ⟨fun q=>WS (k.mp (by rw[q];rfl)),fun q=>WS (k.mpr (by rw[q];rfl))⟩
 exact Wb (VY p2 (Vr ((key t).mpr (Nat.mod_self t)))) (VY p1 (Vr ((key s).mp (Nat.mod_self s))))
theorem jK (w:List Nat) (d:Int):bE w w d 0↔ ∀k,rd w (d+k)=rd w k:=by
 unfold bE sq
 exact ⟨fun h k=>by have:=h k;rwa [Vc]at this,fun h k=>by rw[Vc];exact h k⟩
theorem DK {w:List Nat} (hw:w≠[]) {n:Nat} (hn:n<=w.length) (d:Int):bE (da w n) (da w n) d 0↔bE w w d 0:=by
 rw[jK,jK]
 have r: ∀i,rd (da w n) i=rd w (i+n):=qE hw hn
 constructor
 ·intro h k
  have:=h (k - n)
  rw[r,r,show d+(k - (n:Int))+n=d+k by omega,show k - (n:Int)+n=k by omega]at this
  exact this
 ·intro h k
  rw[r,r,show d+k+(n:Int)=d+(k+n) by omega]
  exact h _
theorem DL {y z w:List Nat} {σ:Nat->Nat} {neg:Bool} (T:qY y z σ neg) (hw:SW y w) (d:Int):bE (w.map σ) (w.map σ) d 0↔bE w w d 0:=by
 rw[jK,jK]
 simp only[ja σ hw.ne]
 exact ⟨fun h k=>T.inj _ (hw.rd _) _ (hw.rd _) (h k),fun h k=>by rw[h k]⟩
theorem GS {a b:List Nat} {x y z:Nat} (hn:(a++b).Nodup) (hx:x∈a++b) (hy:y∈a++b) (hz:z∈a++b) (xy:x≠y) (xz:x≠z) (yz:y≠z):gr (b++a) x y z=gr (a++b) x y z:=by
 have pm: ∀{e:Nat},e∈a++b->e∈b++a:=fun {e} he=>Wf.mem_iff.mp he
 rw[eE hn hx hy hz xy xz yz,eE (Wf.nodup_iff.mp hn) (pm hx) (pm hy) (pm hz) xy xz yz]
 refine decide_eq_decide.mpr ?_
 rw[qG hn hx,qG hn hy,qG hn hz]
 have ix:=Ph hx
 have iy:=Ph hy
 have iz:=Ph hz
 rw[Tn]at ix iy iz
 unfold iC
 split<;>split<;>split<;>omega
noncomputable def eR (y:List Nat):List Nat:=(y.filter aA).mergeSort fun a b=>decide (a<=b)
theorem iH (y:List Nat):(eR y).Perm (y.filter aA):=List.mergeSort_perm _ _
theorem tF (y:List Nat):(eR y).Pairwise (· <= ·):=
 (List.pairwise_mergeSort (le:=fun a b=>decide (a<=b)) (fun a b c h1 h2=>decide_eq_true (Ug (of_decide_eq_true h1) (of_decide_eq_true h2))) (fun a b=>by
  rcases Nat.le_total a b with z | z
  ·rw[decide_eq_true z];rfl
  ·rw[decide_eq_true z,Bool.or_true]) (y.filter aA)).imp fun z=>of_decide_eq_true z
theorem xo {y l:List Nat} (h:l.Perm (y.filter aA)) (p:l.Pairwise (· <= ·)):l=eR y:=yJ (h.trans (iH y).symm) p (tF y)
theorem AY {y:List Nat} (h:Yd y) {e:Nat} (he:e∈y):PyProof.Rows.lo1 e∈eR y:=by
 refine (iH y).mem_iff.mpr (Uq.mpr ?_)
 rcases h.lt e he with z | z
 ·rw[(aV e z).2.1];exact ⟨he,(aV e z).1⟩
 ·rw[(bD e z).2.1];exact ⟨h.cl e he,(aV _ (bD e z).2.2.2).1⟩
theorem g8 {y:List Nat} (h:Yd y):2*(eR y).length=y.length:=by rw[(iH y).length_eq];exact Az h
structure Pr where
 t:Addr
 c:Nat
 i:Nat
noncomputable def pJ (ps:List Pr):List V:=ps.map fun p=>V.ref p.t
theorem qZ (ps:List Pr):(pJ ps).length=ps.length:=by unfold pJ;rw[HX]
theorem AZ (a:List Pr) (p:Pr):pJ a++[V.ref p.t]=pJ (a++[p]):=by unfold pJ;rw[QT];rfl
theorem DM (a:List Pr):(pJ a).reverse=pJ a.reverse:=by unfold pJ;rw[VD]
theorem A0 {ps:List Pr} {i:Nat} {x:V} (h:(pJ ps)[i]? =some x): ∃p,ps[i]? =some p/\x=V.ref p.t:=by
 unfold pJ at h
 rw[TQ]at h
 cases e:ps[i]? with
 | none=>rw[e]at h;cases h
 | some p=>rw[e]at h;cases h;exact ⟨p,rfl,rfl⟩
structure lD (H:Hp) (p:Pr):Prop where
 tp:H p.t=some (.tup [.int p.c, .int p.i])
 cz:p.c<1000
 iz:p.i<1000
theorem lD.same {H H':Hp} {p:Pr} (h:lD H p) (s:au H H'):lD H' p:=⟨s _ _ h.tp,h.cz,h.iz⟩
structure Od where
 o:Addr
 ps:List Pr
structure yQ (H:Hp) (o:Od):Prop where
 tp:H o.o=some (.tup (pJ o.ps))
 pr: ∀p∈o.ps,lD H p
 fw:o.ps.length<=100
theorem yQ.same {H H':Hp} {o:Od} (h:yQ H o) (s:au H H'):yQ H' o:=⟨s _ _ h.tp,fun p hp=>(h.pr p hp).same s,h.fw⟩
noncomputable def DN (os:List Od):List V:=os.map fun o=>V.ref o.o
theorem A1 (a:List Od) (p:Od):DN a++[V.ref p.o]=DN (a++[p]):=by unfold DN;rw[QT];rfl
theorem GU {os:List Od} {i:Nat} {o:Od} (h:os[i]? =some o):(DN os)[i]? =some (V.ref o.o):=by unfold DN;rw[TQ,h];rfl
structure vC (H:Hp) (dr:Addr) (ws:List (List Nat)) (os:List Od):Prop where
 ex: ∃wt ot,H dr=some (.tup [.ref wt, .ref ot])/\H wt=some (.tup (ve ws))/\H ot=some (.tup (DN os))
 od: ∀o∈os,yQ H o
theorem vC.same {H H':Hp} {dr:Addr} {ws:List (List Nat)} {os:List Od} (h:vC H dr ws os) (s:au H H'):vC H' dr ws os:=by
 obtain ⟨⟨wt,ot,h1,h2,h3⟩,g⟩:=h
 exact ⟨⟨wt,ot,s _ _ h1,s _ _ h2,s _ _ h3⟩,fun o ho=>(g o ho).same s⟩
noncomputable def vD (y:List Nat) (os:List Od) (e:Nat):List Pr:=((os[(eR y).idxOf (PyProof.Rows.lo1 e)]?).map Od.ps).getD []
noncomputable def lV (y:List Nat) (os:List Od) (e:Nat):List Pr:=if isUp e=true then (vD y os e).reverse else vD y os e
theorem g9 {y:List Nat} {os:List Od} {e:Nat} (h:Yd y) (he:e∈y) (ho:2*os.length=y.length): ∃o∈os,os[(eR y).idxOf (PyProof.Rows.lo1 e)]? =some o/\vD y os e=o.ps:=by
 have hi:=Ph (AY h he)
 have hl:=g8 h
 have Og:(eR y).idxOf (PyProof.Rows.lo1 e)<os.length:=by omega
 exact ⟨os[(eR y).idxOf (PyProof.Rows.lo1 e)],Uy Og,FW Og,by unfold vD;rw[FW Og];rfl⟩
structure Pt where
 t:Addr
 c:Nat
 i:Nat
 e:Nat
noncomputable def Ct (ps:List Pt):List V:=ps.map fun p=>V.ref p.t
theorem xp (ps:List Pt):(Ct ps).length=ps.length:=by unfold Ct;rw[HX]
theorem A2 (a:List Pt) (p:Pt):Ct a++[V.ref p.t]=Ct (a++[p]):=by unfold Ct;rw[QT];rfl
noncomputable def Pt.is (p:Pt):Nat×Nat×Nat:=(p.c,p.i,p.e)
structure og (H:Hp) (p:Pt):Prop where
 tp:H p.t=some (.tup [.int p.c, .int p.i, .str (S [p.e])])
 cz:p.c<1000
 iz:p.i<1000
 ez:p.e<128
theorem og.same {H H':Hp} {p:Pt} (h:og H p) (s:au H H'):og H' p:=⟨s _ _ h.tp,h.cz,h.iz,h.ez⟩
theorem og.upd {H:Hp} {p:Pt} {q:Addr} {o:HO} (h:og H p) (n:p.t≠q):og (L2.upd H q o) p:=⟨by rw[az n];exact h.tp,h.cz,h.iz,h.ez⟩
noncomputable def eL (y:List Nat) (os:List Od) (e:Nat):List (Nat×Nat×Nat):=(lV y os e).map fun p=>(p.c,p.i,e)
noncomputable def ji (y:List Nat) (os:List Od):List (Nat×Nat×Nat):=y.flatMap (eL y os)
noncomputable def Pr.pair (p:Pr):Nat×Nat:=(p.c,p.i)
noncomputable def vE (band l:Nat):Bool:=decide (l=band)||decide (l=ao band)
noncomputable def gD (band c:Nat) (w:List Nat) (n:Nat):List (Nat×Nat):=((List.range n).filter fun i=>vE band (w.getD i 0)).map fun i=>(c,i)
noncomputable def cD (band:Nat) (ws:List (List Nat)) (n:Nat):List (Nat×Nat):=(List.range n).flatMap fun c=>gD band c (ws.getD c []) (ws.getD c []).length
theorem vF {band c i l:Nat} {w:List Nat} (h:w[i]? =some l):gD band c w (i+1)=gD band c w i++if vE band l=true then [(c,i)] else []:=by
 have e:w.getD i 0=l:=by rw[QQ,h];rfl
 unfold gD
 rw[UG,Vb,QT]
 congr 1
 by_cases z:vE band l=true
 ·rw[if_pos z,Uk (by rw[e];exact z)];rfl
 ·rw[if_neg z,T_ (by rw[e];exact z)];rfl
theorem tG {band i:Nat} {ws:List (List Nat)} {w:List Nat} (h:ws[i]? =some w):cD band ws (i+1)=cD band ws i++gD band i w w.length:=by
 have e:ws.getD i []=w:=by rw[QQ,h];rfl
 unfold cD
 rw[UG,Uw]
 congr 1
 rw[Uj,WK,UH,e]
structure Lp (y:List Nat) (ws:List (List Nat)):Prop where
 Lg:ws.length<=4
 all: ∀w∈ws,(∀c∈w,c∈y)/\w.length<=12
def tH (y:List Nat) (ws:List (List Nat)) (os:List Od):Prop:=os.length=(eR y).length/\ ∀(j:Nat) (o:Od) (b:Nat),os[j]? =some o->(eR y)[j]? =some b->(o.ps.map Pr.pair).Perm (cD b ws ws.length)
def iQ (_:PySem.W.Frag):Sp:=fun vs H Q _=> ∃(y:List Nat) (dr:Addr) (ws:List (List Nat)) (os:List Od) (e:Nat),vs=[.str (S y), .ref dr, .str (S [e])]/\Yd y/\y.length<=8/\e∈y/\2*os.length=y.length/\vC H dr ws os/\ ∀(q:Addr) (H':Hp),H q=none->H' q=some (.lst (pJ (lV y os e)))->au H H'->Q (.ref q) H'
theorem mY {K:PySem.W.Frag} {vs:List V} {H:Hp} {Q:VK} {E:XK} (h:iQ K vs H Q E):vs.length=3:=by obtain ⟨c,_,_,_,_,rfl,_⟩:=h;rfl
def pK (_:PySem.W.Frag):Sp:=fun vs H Q _=> ∃(y:List Nat) (dr:Addr) (ws:List (List Nat)) (os:List Od),vs=[.str (S y), .ref dr]/\Yd y/\y.length<=8/\2*os.length=y.length/\vC H dr ws os/\ ∀(q:Addr) (ps:List Pt) (H':Hp),H q=none->H' q=some (.lst (Ct ps))->(∀p∈ps,og H' p/\p.t≠q)->ps.map Pt.is=ji y os->ps.length<=800->au H H'->Q (.ref q) H'
theorem vG {K:PySem.W.Frag} {vs:List V} {H:Hp} {Q:VK} {E:XK} (h:pK K vs H Q E):vs.length=2:=by obtain ⟨c,_,_,_,rfl,_⟩:=h;rfl
theorem DO {y:List Nat} {os:List Od} {e:Nat} {p:Pr} (h:Yd y) (he:e∈y) (ho:2*os.length=y.length) (hp:p∈lV y os e): ∃o∈os,p∈o.ps:=by
 obtain ⟨o,h1,h2,h3⟩:=g9 h he ho
 refine ⟨o,h1,?_⟩
 unfold lV at hp
 rw[h3]at hp
 split at hp
 ·exact WJ.mp hp
 ·exact hp
theorem DP {H:Hp} {y:List Nat} {os:List Od} {e:Nat} (h:Yd y) (he:e∈y) (ho:2*os.length=y.length) (hd: ∀o∈os,yQ H o):(lV y os e).length<=100:=by
 obtain ⟨o,h1,h2,h3⟩:=g9 h he ho
 have:=(hd o h1).fw
 unfold lV
 rw[h3]
 split
 ·rw[Ul];exact this
 ·exact this
theorem lD.ts {H H':Hp} {p:Pr} (h:lD H p) (s:dq H H'):lD H' p:=⟨s _ _ h.tp,h.cz,h.iz⟩
theorem A3 {band l:Nat} (hb:band∈aM) (hl:Lt l):decide (PyProof.Rows.lo1 l=band)=vE band l:=by
 unfold vE
 rcases hl with h | h
 ·have e:=(aV l h).2.1
  have n:l≠ao band:=fun z=>ph _ (aV band hb).2.2 (z▸h)
  rw[e,decide_eq_false n,WU]
 ·have e:=(bD l h).2.1
  have n:l≠band:=fun z=>ph l h (z▸hb)
  rw[e,decide_eq_false n,Wv]
  refine decide_eq_decide.mpr ⟨fun z=>by rw[<-z,aG (.inr h)],fun z=>by rw[z,aG (.inl hb)]⟩
theorem RB {α:Type} {l:List α} (h:l.Nodup) {i j:Nat} (hi:i<l.length) (hj:j<l.length) (e:l[i]=l[j]):i=j:=by
 have hp:=Vo.mp h
 rcases Nat.lt_trichotomy i j with z | z | z
 ·exact absurd e (hp i j hi hj z)
 ·exact z
 ·exact absurd e.symm (hp j i hj hi z)
theorem pL {l:List (Nat×Nat×Nat)} (h:l.Nodup) {n:Nat} {p:Nat×Nat×Nat} (e:l[n]? =some p):l.idxOf p=n:=by
 obtain ⟨hn,e2⟩:=FX.mp e
 have hm:p∈l:=TU e
 have hi:=Ph hm
 exact RB h hi hn ((UL hi).trans e2.symm)
theorem mZ {α:Type} {f:Nat->List α} (g:α->Nat): ∀{l:List Nat},l.Nodup->(∀e∈l,(f e).Nodup)->(∀e∈l, ∀p∈f e,g p=e)->(l.flatMap f).Nodup
 | [],_,_,_=>List.nodup_nil
 | a::l,hn,h1,h2=>by
  obtain ⟨n1,n2⟩:=UA.mp hn
  rw[Uj,UP]
  refine ⟨h1 a TR,mZ g n2 (fun e he=>h1 e (Tj _ he)) (fun e he=>h2 e (Tj _ he)),fun x hx y hy z=>?_⟩
  subst z
  obtain ⟨e,he,RC⟩:=Uo.mp hy
  have g1:=h2 a TR x hx
  have g2:=h2 e (Tj _ he) x RC
  exact n1 (by rw[<-g1,g2];exact he)
theorem A4 (band c:Nat) (w:List Nat) (n:Nat):(gD band c w n).Nodup:=by
 unfold gD
 show (List.map _ _).Pairwise (· ≠ ·)
 rw[UC]
 exact (List.nodup_range.filter _).imp fun {i j} h z=>h (by cases z;rfl)
theorem pM (band:Nat) (ws:List (List Nat)) (n:Nat):(cD band ws n).Nodup:=
 mZ Prod.fst List.nodup_range (fun c _=>A4 _ _ _ _) fun c _ p hp=>by
  unfold gD at hp
  obtain ⟨i,_,rfl⟩:=T3.mp hp
  rfl
theorem vH {band c i n:Nat} {ws:List (List Nat)} (hc:c<n) (hi:i<(ws.getD c []).length) (hb:vE band ((ws.getD c []).getD i 0)=true):(c,i)∈cD band ws n:=
 Uo.mpr ⟨c,Ux.mpr hc,T3.mpr ⟨i,Uq.mpr ⟨Ux.mpr hi,hb⟩,rfl⟩⟩
theorem tH.at {y:List Nat} {ws:List (List Nat)} {os:List Od} {e:Nat} (h:Yd y) (ho:tH y ws os) (he:e∈y):(((lV y os e).map Pr.pair)).Perm (cD (PyProof.Rows.lo1 e) ws ws.length):=by
 have hl:=g8 h
 have GV:=ho.1
 obtain ⟨o,o1,o2,o3⟩:=g9 (os:=os) h he (by omega)
 have hm:=AY h he
 have hb:(eR y)[(eR y).idxOf (PyProof.Rows.lo1 e)]? =some (PyProof.Rows.lo1 e):=by
  have hi:=Ph hm
  rw[FW hi,UL hi]
 have p:=ho.2 _ o _ o2 hb
 unfold lV
 rw[o3]
 split
 ·rw[VD]
  exact (List.reverse_perm _).trans p
 ·exact p
theorem A5 {y:List Nat} {ws:List (List Nat)} {os:List Od} (h:Yd y) (ho:tH y ws os):(ji y os).Nodup:=by
 refine mZ (fun p=>p.2.2) h.nd (fun e he=>?_) fun e _ p hp=>?_
 ·have hn:=(ho.at h he).nodup_iff.mpr (pM _ _ _)
  have e1:eL y os e=((lV y os e).map Pr.pair).map fun x=>(x.1,x.2,e):=by unfold eL;rw[Us];rfl
  rw[e1]
  show (List.map _ _).Pairwise (· ≠ ·)
  rw[UC]
  exact hn.imp fun {a b} g z=>g (by cases a;cases b;cases z;rfl)
 ·unfold eL at hp
  obtain ⟨x,_,rfl⟩:=T3.mp hp
  rfl
theorem A6 {y:List Nat} {ws:List (List Nat)} {os:List Od} {c i l e:Nat} {w:List Nat} (h:Yd y) (ho:tH y ws os) (hw:ws[c]? =some w) (hl:w[i]? =some l) (Oh:l∈y) (he:e=l\/e=ao l):(c,i,e)∈ji y os:=by
 have dc:=h.lt l Oh
 have GW:e∈y:=by rcases he with rfl | rfl;exact Oh;exact h.cl l Oh
 have e1:PyProof.Rows.lo1 e=PyProof.Rows.lo1 l:=by
  rcases he with rfl | rfl
  ·rfl
  ·rcases dc with g | g
   ·rw[(bD _ (aV l g).2.2).2.1,(aV l g).2.1,aG (.inl g)]
   ·rw[(aV _ (bD l g).2.2.2).2.1,(bD l g).2.1]
 have hb:PyProof.Rows.lo1 l∈aM:=by
  rcases dc with g | g
  ·rw[(aV l g).2.1];exact g
  ·rw[(bD l g).2.1];exact (bD l g).2.2.2
 have RD:vE (PyProof.Rows.lo1 l) l=true:=by rw[<-A3 hb dc];exact decide_eq_true rfl
 have d1:ws.getD c []=w:=by rw[QQ,hw];rfl
 have d2:w.getD i 0=l:=by rw[QQ,hl];rfl
 have hm:(c,i)∈(lV y os e).map Pr.pair:=by
  rw[(ho.at h GW).mem_iff,e1]
  exact vH (FX.mp hw).1 (by rw[d1];exact (FX.mp hl).1) (by rw[d1,d2];exact RD)
 obtain ⟨p,hp,ep⟩:=T3.mp hm
 refine Uo.mpr ⟨e,GW,T3.mpr ⟨p,hp,?_⟩⟩
 have e2:p.c=c:=congrArg Prod.fst ep
 have e3:p.i=i:=congrArg Prod.snd ep
 rw[e2,e3]
noncomputable def q0 (p:Nat×Nat×Nat):List Key:=[Sum.inl (p.1:Int),Sum.inl (p.2.1:Int),Sum.inr (S [p.2.2])]
theorem A7 {p q:Nat×Nat×Nat} (h:q0 p=q0 q):p=q:=by
 unfold q0 at h
 injection h with h1 h2
 injection h2 with h2 h3
 injection h3 with h3 _
 have a1:(p.1:Int)=q.1:=Sum.inl.inj h1
 have a2:(p.2.1:Int)=q.2.1:=Sum.inl.inj h2
 have a3:[p.2.2]=[q.2.2]:=by
  have:=Sum.inr.inj h3
  rw[<-eU [p.2.2],this,eU]
 have a4:p.2.2=q.2.2:=by simpa using a3
 exact Prod.ext (by omega) (Prod.ext (by omega) a4)
def Nums (ps:List (Nat×Nat×Nat)) (aI:List (List Key×V)) (n:Nat):Prop:= ∀p∈ps.take n,cN aI (q0 p)=some (.int (ps.idxOf p:Nat))
theorem Nums.put {ps:List (Nat×Nat×Nat)} {aI:List (List Key×V)} {n:Nat} {p:Nat×Nat×Nat} (h:Nums ps aI n) (hn:ps.Nodup) (e:ps[n]? =some p):Nums ps (putK aI (q0 p) (.int (n:Nat))) (n+1):=fun r hr=>by
 rw[Ab]
 by_cases z:r=p
 ·rw[if_pos (by rw[z]),z,pL hn e]
 ·rw[if_neg fun g=>z (A7 g)]
  rw[<-take_snoc e]at hr
  exact h r ((T9.mp hr).resolve_right fun g=>z (QU.mp g))
noncomputable def uk (n i:Nat):Nat:=if i=0 then n - 1 else i - 1
theorem vI {n i:Nat} (h:i<n):uk n i<n:=by unfold uk;split<;>omega
theorem xq {n i:Nat} (h:i<n):((i:Int) - 1)%(n:Int)=((uk n i:Nat):Int):=by
 unfold uk
 split
 ·rename_i z
  subst z
  have:((0:Nat):Int) - 1+(n:Int)=((n - 1:Nat):Int):=by omega
  rw[<-Vd,this]
  exact Ue (by omega) (by omega)
 ·have:(i:Int) - 1=((i - 1:Nat):Int):=by omega
  rw[this]
  exact Ue (by omega) (by omega)
noncomputable abbrev C4:=Nat×Nat×Nat×Nat
noncomputable def fZ (ps:List (Nat×Nat×Nat)) (c:Nat) (w:List Nat) (i:Nat):C4:=(c,i,ps.idxOf (c,uk w.length i,ao (w.getD (uk w.length i) 0)),ps.idxOf (c,i,w.getD i 0))
noncomputable def kx (ps:List (Nat×Nat×Nat)) (c:Nat) (w:List Nat) (n:Nat):List C4:=(List.range n).map (fZ ps c w)
noncomputable def fF (ps:List (Nat×Nat×Nat)) (ws:List (List Nat)) (n:Nat):List C4:=(List.range n).flatMap fun c=>kx ps c (ws.getD c []) (ws.getD c []).length
theorem tI (ps:List (Nat×Nat×Nat)) (c:Nat) (w:List Nat) (n:Nat):kx ps c w (n+1)=kx ps c w n++[fZ ps c w n]:=by unfold kx;rw[UG,QT];rfl
theorem q5 {ps:List (Nat×Nat×Nat)} {ws:List (List Nat)} {i:Nat} {w:List Nat} (h:ws[i]? =some w):fF ps ws (i+1)=fF ps ws i++kx ps i w w.length:=by
 have e:ws.getD i []=w:=by rw[QQ,h];rfl
 unfold fF
 rw[UG,Uw]
 congr 1
 rw[Uj,WK,UH,e]
structure Q4 where
 t:Addr
 v:C4
noncomputable def lE (qs:List Q4):List V:=qs.map fun q=>V.ref q.t
theorem xr (qs:List Q4):(lE qs).length=qs.length:=by unfold lE;rw[HX]
theorem A8 (a:List Q4) (q:Q4):lE a++[V.ref q.t]=lE (a++[q]):=by unfold lE;rw[QT];rfl
theorem GX {qs:List Q4} {i:Nat} {x:V} (h:(lE qs)[i]? =some x): ∃q,qs[i]? =some q/\x=V.ref q.t:=by
 unfold lE at h
 rw[TQ]at h
 cases e:qs[i]? with
 | none=>rw[e]at h;cases h
 | some p=>rw[e]at h;cases h;exact ⟨p,rfl,rfl⟩
def oh (H:Hp) (q:Q4):Prop:=H q.t=some (.tup [.int q.v.1, .int q.v.2.1, .int q.v.2.2.1, .int q.v.2.2.2])
theorem oh.ts {H H':Hp} {q:Q4} (h:oh H q) (s:dq H H'):oh H' q:=s _ _ h
noncomputable def fh (y:List Nat) (ws:List (List Nat)) (os:List Od):List C4:=fF (ji y os) ws ws.length
theorem Lq {y:List Nat} {os:List Od} {p:Pt} {ps:List Pt} (h:ps.map Pt.is=ji y os) {i:Nat} (hi:ps[i]? =some p):(ji y os)[i]? =some p.is:=by rw[<-h,TQ,hi];rfl
def f_ (_:PySem.W.Frag):Sp:=fun vs H Q _=> ∃(w:List Nat) (c i:Nat),vs=[.str (S w), .int c, .int i]/\(∀l∈w,l<128)/\i<w.length/\w.length<=1000/\ ∀(t t1 t2:Addr) (H':Hp),H' t=some (.tup [.ref t1, .ref t2])->H' t1=some (.tup ((q0 (c,uk w.length i,ao (w.getD (uk w.length i) 0))).map kV))->H' t2=some (.tup ((q0 (c,i,w.getD i 0)).map kV))->au H H'->Q (.ref t) H'
theorem jL {K:PySem.W.Frag} {vs:List V} {H:Hp} {Q:VK} {E:XK} (h:f_ K vs H Q E):vs.length=3:=by obtain ⟨c,_,_,rfl,_⟩:=h;rfl
def m3 (_:PySem.W.Frag):Sp:=fun vs H Q _=> ∃(y:List Nat) (dr:Addr) (ws:List (List Nat)) (os:List Od),vs=[.str (S y), .ref dr]/\Yd y/\y.length<=8/\Lp y ws/\tH y ws os/\vC H dr ws os/\ ∀(q:Addr) (qs:List Q4) (H':Hp),H q=none->H' q=some (.lst (lE qs))->(∀x∈qs,oh H' x)->qs.map Q4.v=fh y ws os->au H H'->Q (.ref q) H'
theorem tJ {K:PySem.W.Frag} {vs:List V} {H:Hp} {Q:VK} {E:XK} (h:m3 K vs H Q E):vs.length=2:=by obtain ⟨c,_,_,_,rfl,_⟩:=h;rfl
theorem DQ {y:List Nat} {os:List Od} {i m e:Nat} {p:Pr} (he:y[i]? =some e) (hp:(lV y os e)[m]? =some p):(ji y os)[((y.take i).flatMap (eL y os)).length+m]? =some (p.c,p.i,e):=by
 obtain ⟨hi,e1⟩:=FX.mp he
 have hy:y=y.take i++e::y.drop (i+1):=by
  rw[<-e1, <-Uz hi,UK]
 have h1:ji y os=(y.take i).flatMap (eL y os)++(eL y os e++(y.drop (i+1)).flatMap (eL y os)):=by
  unfold ji
  conv=>lhs;arg 2;rw[hy]
  rw[Uw,Uj]
 have h2:(eL y os e)[m]? =some (p.c,p.i,e):=by unfold eL;rw[TQ,hp];rfl
 rw[h1,UZ (Nat.le_add_right _ _),Nat.add_sub_cancel_left,U1 (FX.mp h2).1]
 exact h2
structure A9 (y:List Nat) (ws:List (List Nat)) (L:Nat->Bool) (r:Nat->Nat) (M:Nat) (os:List Od):Prop where
 ok:tH y ws os
 asc: ∀o∈os,(o.ps.map Pr.pair).Pairwise fun s t=>bu (b9 y ws L r M s.1 s.2) (b9 y ws L r M t.1 t.2)=true
theorem vJ: ∀c∈aM++i4,PyProof.Rows.lo1 (ao c)=PyProof.Rows.lo1 c/\isUp c=!aA c:=by decide+kernel
theorem yR {α:Type} {y:List Nat} (F:Nat->List α) {k k' e:Nat} (he:y[k]? =some e) (h:k<k'):((y.take k).flatMap F).length+(F e).length<=((y.take k').flatMap F).length:=by
 have e1:(y.take k').take (k+1)=y.take (k+1):=by rw[List.take_take,UE (by omega)]
 have e2:y.take k'=y.take (k+1)++(y.take k').drop (k+1):=by rw[<-e1,UK]
 rw[e2,Uw,Tn, <-take_snoc he,Uw,Tn]
 simp
theorem ky {y:List Nat} {ws:List (List Nat)} {os:List Od} (hy:Yd y) (ho:tH y ws os) (hs: ∀c,c<ws.length->SW y (ws.getD c [])) {c i e:Nat} (hc:c<ws.length) (hi:i<(ws.getD c []).length) (he:e=rd (ws.getD c []) i\/e=ao (rd (ws.getD c []) i)):
  e∈y/\ ∃(m:Nat) (p:Pr),(lV y os e)[m]? =some p/\p.pair=(c,i)/\(ji y os).idxOf (c,i,e)=((y.take (y.idxOf e)).flatMap (eL y os)).length+m:=by
 have hw:=hs c hc
 have ey:e∈y:=he.elim (fun z=>z▸hw.rd _) fun z=>z▸hy.cl _ (hw.rd _)
 have rP:=A6 hy ho (c:=c) (i:=i) (l:=rd (ws.getD c []) i) (e:=e) (w:=ws.getD c []) (by rw[QQ,FW hc];rfl) (kf hi) (hw.rd _) he
 unfold ji at rP
 obtain ⟨e',zq,hp⟩:=Uo.mp rP
 unfold eL at hp
 obtain ⟨p,Cu,wO⟩:=T3.mp hp
 obtain ⟨q1,PK⟩:=Prod.mk.inj wO
 obtain ⟨q2,q3⟩:=Prod.mk.inj PK
 clear PK
 subst q3
 obtain ⟨m,hm,em⟩:=VO Cu
 have Ij:(lV y os e')[m]? =some p:=by rw[FW hm,em]
 refine ⟨ey,m,p,Ij,by unfold Pr.pair;rw[q1,q2],?_⟩
 have hk:y[y.idxOf e']? =some e':=by rw[FW (Ph ey),UL]
 have:=DQ (os:=os) hk Ij
 rw[q1,q2]at this
 exact pL (A5 hy ho) this
theorem A_ (y:List Nat) (os:List Od) (e:Nat):(eL y os e).length=(lV y os e).length:=by unfold eL;rw[HX]
theorem Ba {l:List Pr} {y:List Nat} {ws:List (List Nat)} {L:Nat->Bool} {r:Nat->Nat} {M:Nat} (h:(l.map Pr.pair).Pairwise fun s t=>bu (b9 y ws L r M s.1 s.2) (b9 y ws L r M t.1 t.2)=true) {m n c i d j:Nat} {p q:Pr} (hp:l[m]? =some p) (hq:l[n]? =some q) (ep:p.pair=(c,i)) (eq:q.pair=(d,j)) (fD:(c,i)≠(d,j)):
  m≠n/\decide (m<n)=bu (b9 y ws L r M c i) (b9 y ws L r M d j):=by
 have Mv:m≠n:=fun z=>fD (by rw[z,hq]at hp;rw[<-ep, <-eq,TZ hp])
 obtain ⟨hm,em⟩:=FX.mp hp
 obtain ⟨hn,en⟩:=FX.mp hq
 refine ⟨Mv,?_⟩
 have key:=Vo.mp h
 by_cases z:m<n
 ·have:=key m n (by rw[HX];exact hm) (by rw[HX];exact hn) z
  rw[V0,V0,em,en,ep,eq]at this
  rw[decide_eq_true z]
  exact this.symm
 ·have:=key n m (by rw[HX];exact hn) (by rw[HX];exact hm) (by omega)
  rw[V0,V0,em,en,ep,eq]at this
  rw[decide_eq_false z]
  exact (ki this).1.symm
theorem xt {α:Type} {l:List α} {m:Nat} {p:α} (h:l.reverse[m]? =some p):m<l.length/\l[l.length - 1 - m]? =some p:=by
 obtain ⟨hm,_⟩:=FX.mp h
 rw[Ul]at hm
 rw[VB hm]at h
 exact ⟨hm,h⟩
theorem lies_of {y:List Nat} {ws:List (List Nat)} {L:Nat->Bool} {r:Nat->Nat} {M:Nat} {os:List Od} (hy:Yd y) (hs: ∀c,c<ws.length->SW y (ws.getD c [])) (h:A9 y ws L r M os):Lies y ws L r M fun c i e=>(ji y os).idxOf (c,i,e):=by
 have ol:2*os.length=y.length:=by rw[h.ok.1];exact g8 hy
 refine ⟨fun c i d j e e' hc hd hi hj he zq dc=>?_,fun c i d j x hc hd hi hj fD hx RE RF=>?_⟩
 ·obtain ⟨ey,m,p,hm,_,e1⟩:=ky hy h.ok hs hc hi he
  obtain ⟨Tp,m',p',Ij,_,e2⟩:=ky hy h.ok hs hd hj zq
  rw[e1,e2]
  have hk:y[y.idxOf e]? =some e:=by rw[FW (Ph ey),UL]
  have:=yR (eL y os) hk dc
  rw[A_]at this
  have Dd:=(FX.mp hm).1
  omega
 ·have lc:Lt (rd (ws.getD c []) i):=hy.lt _ ((hs c hc).rd _)
  have ld:Lt (rd (ws.getD d []) j):=hy.lt _ ((hs d hd).rd _)
  have vi:(x=rd (ws.getD c []) i\/x=ao (rd (ws.getD c []) i))/\(ao x=rd (ws.getD c []) i\/ao x=ao (rd (ws.getD c []) i))/\Lt x:=by
   rcases RE with z | z
   ·exact ⟨.inl z.symm, .inr (by rw[z]),z▸lc⟩
   ·have RG:x<128/\x∈aM:=by
     have h9:97<=x/\x<=122:=by unfold aA at hx;simpa using hx
     refine ⟨by omega,?_⟩
     have: ∀k,k<26->k+97∈aM:=by decide
     have h8:=this (x - 97) (by omega)
     rwa [show x - 97+97=x by omega]at h8
    have lx:Lt x:= .inl RG.2
    exact ⟨.inr (by rw[z,aG lx]), .inl z.symm,lx⟩
  have lx:=vi.2.2
  have vj:(x=rd (ws.getD d []) j\/x=ao (rd (ws.getD d []) j))/\(ao x=rd (ws.getD d []) j\/ao x=ao (rd (ws.getD d []) j)):=by
   rcases RF with z | z
   ·exact ⟨.inl z.symm, .inr (by rw[z])⟩
   ·exact ⟨.inr (by rw[z,aG lx]), .inl z.symm⟩
  obtain ⟨xy,m,p,hm,ep,e1⟩:=ky hy h.ok hs hc hi vi.1
  obtain ⟨_,n,q,hn,eq,e2⟩:=ky hy h.ok hs hd hj vj.1
  obtain ⟨_,m',p',Ij,JJ,zX⟩:=ky hy h.ok hs hc hi vi.2.1
  obtain ⟨_,n',q',Ma,RH,GY⟩:=ky hy h.ok hs hd hj vj.2
  obtain ⟨o,PL,_,eo⟩:=g9 hy xy ol
  have RI:isUp x=false:=by rw[(vJ x lx.mem).2,hx];rfl
  have up1:isUp (ao x)=true:=by rw[(vJ _ lx.ao.mem).2,eO x lx.mem,hx];rfl
  have s0:lV y os x=o.ps:=by unfold lV;rw[RI,if_neg (by decide),eo]
  have s1:lV y os (ao x)=o.ps.reverse:=by
   unfold lV
   rw[up1,if_pos rfl]
   have:vD y os (ao x)=vD y os x:=by unfold vD;rw[(vJ x lx.mem).1]
   rw[this,eo]
  rw[s0]at hm hn
  rw[s1]at Ij Ma
  obtain ⟨b1,Dd⟩:=xt Ij
  obtain ⟨b2,wD⟩:=xt Ma
  have k1:=Ba (h.asc o PL) hm hn ep eq fD
  have k2:=Ba (h.asc o PL) Dd wD JJ RH fD
  rw[e1,e2,zX,GY]
  refine ⟨by omega,by omega,?_,?_⟩
  ·rw[<-k1.2];exact decide_eq_decide.mpr (by omega)
  ·rw[<-k2.2];exact decide_eq_decide.mpr (by omega)
noncomputable def lW (st:Nat->Nat) (T R:List Nat):List Nat:=T.filter fun x=>R.any fun e=>decide (st e=x)
noncomputable def yS (st:Nat->Nat) (T R:List Nat) (p:Nat):Nat:=if st p=p then 0 else ((lW st T (p::R)).filter fun x=>decide (st p<x)).length
noncomputable def Cv (st:Nat->Nat):List Nat->List Nat->Nat
 | _,[]=>0
 | T,p::R=>yS st T R p+Cv st (T++[p]) R
structure Bb (ch:List (Nat×Nat)) (st:Nat->Nat) (P:List Nat):Prop where
 lt: ∀x∈ch,x.1<x.2
 nd:(ch.flatMap fun x=>[x.1,x.2]).Nodup
 pm:P.Perm (ch.flatMap fun x=>[x.1,x.2])
 up:P.Pairwise (· < ·)
 st: ∀x∈ch,st x.1=x.1/\st x.2=x.1
section
variable {ch:List (Nat×Nat)} {st:Nat->Nat} {P:List Nat}
theorem Bb.pt (h:Bb ch st P) {p:Nat} (hp:p∈P): ∃x∈ch,p=x.1\/p=x.2:=by
 obtain ⟨x,hx,e⟩:=Uo.mp (h.pm.mem_iff.mp hp)
 exact ⟨x,hx,by simpa using e⟩
theorem Bb.in1 (h:Bb ch st P) {x:Nat×Nat} (hx:x∈ch):x.1∈P/\x.2∈P:=⟨h.pm.mem_iff.mpr (Uo.mpr ⟨x,hx,by simp⟩),h.pm.mem_iff.mpr (Uo.mpr ⟨x,hx,by simp⟩)⟩
theorem tK: ∀{ch:List (Nat×Nat)},(ch.flatMap fun x=>[x.1,x.2]).Nodup-> ∀x∈ch, ∀z∈ch,(x.1=z.1\/x.2=z.2\/x.1=z.2)->x=z
 | [],_,x,hx,_,_,_=>absurd hx Uh
 | a::r,nd,x,hx,z,hz,e=>by
  rw[Uj,UP]at nd
  obtain ⟨n1,n2,n3⟩:=nd
  have inr: ∀z∈r,z.1∈r.flatMap (fun x=>[x.1,x.2])/\z.2∈r.flatMap (fun x=>[x.1,x.2]):=fun z hz=>⟨Uo.mpr ⟨z,hz,by simp⟩,Uo.mpr ⟨z,hz,by simp⟩⟩
  have a12:a.1≠a.2:=by
   rw[UA]at n1
   simpa using n1.1
  rcases QS.mp hx with rfl | zk<;>rcases QS.mp hz with rfl | Ik
  ·rfl
  ·exfalso
   rcases e with e | e | e
   ·exact n3 x.1 (by simp) z.1 (inr z Ik).1 e
   ·exact n3 x.2 (by simp) z.2 (inr z Ik).2 e
   ·exact n3 x.1 (by simp) z.2 (inr z Ik).2 e
  ·exfalso
   rcases e with e | e | e
   ·exact n3 z.1 (by simp) x.1 (inr x zk).1 e.symm
   ·exact n3 z.2 (by simp) x.2 (inr x zk).2 e.symm
   ·exact n3 z.2 (by simp) x.1 (inr x zk).1 e.symm
  ·exact tK n2 x zk z Ik e
theorem Bc (h:Bb ch st P) {T R:List Nat} {p:Nat} (e:P=T++p::R) (hs:st p=p):lW st (T++[p]) R=lW st T (p::R)++[p]:=by
 obtain ⟨x,hx,hp⟩:=h.pt (p:=p) (by rw[e];simp)
 have GZ:p=x.1:=hp.elim id fun z=>by rw[z,(h.st x hx).2]at hs;rw[z, <-hs]
 have up:=h.up
 rw[e,U4,UX]at up
 obtain ⟨u1,⟨u2,u3⟩,u4⟩:=up
 have hR:x.2∈R:=by
  have:=(h.in1 hx).2
  rw[e]at this
  rcases T9.mp this with q | q
  ·have:=u4 _ q p TR
   have:=h.lt x hx
   omega
  ·rcases QS.mp q with q | q
   ·have:=h.lt x hx
    omega
   ·exact q
 unfold lW
 rw[Vb]
 congr 1
 ·refine WA fun z hz=>?_
  rw[VF,decide_eq_false (fun q=>by have:=u4 z hz p TR;omega),Wv]
 ·have:(R.any fun e=>decide (st e=p))=true:=List.any_eq_true.mpr ⟨x.2,hR,decide_eq_true (by rw[(h.st x hx).2,GZ])⟩
  rw[Uk (p:=fun x=>R.any fun e=>decide (st e=x)) this]
  rfl
theorem erase_filter {s:Nat} {p q:Nat->Bool}: ∀{T:List Nat},T.Nodup->q s=true->p s=false->(∀x,x≠s->q x=p x)->(T.filter q).erase s=T.filter p
 | [],_,_,_,_=>rfl
 | a::T,nd,hq,hp,h=>by
  rw[UA]at nd
  by_cases z:a=s
  ·subst z
   rw[Uk hq,List.erase_cons_head,T_ (by rw[hp];decide)]
   exact WA fun x hx=>h x fun q=>nd.1 (q▸hx)
  ·have ih:=erase_filter nd.2 hq hp h
   cases e:p a
   ·rw[T_ (by rw[h a z,e];decide),T_ (by rw[e];decide)]
    exact ih
   ·rw[Uk (by rw[h a z,e]),Uk e,List.erase_cons_tail (by simpa using z),ih]
theorem G0 (h:Bb ch st P) {T R:List Nat} {p:Nat} (e:P=T++p::R) (hs:st p≠p):lW st (T++[p]) R=(lW st T (p::R)).erase (st p)/\st p∈lW st T (p::R):=by
 obtain ⟨x,hx,hp⟩:=h.pt (p:=p) (by rw[e];simp)
 have GZ:p=x.2:=hp.elim (fun z=>absurd (by rw[z,(h.st x hx).1]) hs) id
 have kN:st p=x.1:=by rw[GZ,(h.st x hx).2]
 have up:=h.up
 rw[e,U4,UX]at up
 obtain ⟨u1,⟨u2,u3⟩,u4⟩:=up
 have only: ∀z∈R,st z≠x.1:=fun z hz q=>by
  obtain ⟨v,hv,KQ⟩:=h.pt (p:=z) (by rw[e];simp[hz])
  have Tq:=u2 z hz
  rcases KQ with r | r
  ·rw[r,(h.st v hv).1]at q
   have:=tK h.nd v hv x hx (.inl q)
   subst this
   have:=h.lt v hv
   omega
  ·rw[r,(h.st v hv).2]at q
   have:=tK h.nd v hv x hx (.inl q)
   subst this
   omega
 have none: ∀z∈R,st z≠p:=fun z hz q=>by
  obtain ⟨v,hv,KQ⟩:=h.pt (p:=z) (by rw[e];simp[hz])
  have:st z=v.1:=KQ.elim (fun r=>by rw[r,(h.st v hv).1]) fun r=>by rw[r,(h.st v hv).2]
  rw[this,GZ]at q
  have:=tK h.nd v hv x hx (.inr (.inr q))
  subst this
  have:=h.lt v hv
  omega
 have hT:x.1∈T:=by
  have:=(h.in1 hx).1
  rw[e]at this
  have l:=h.lt x hx
  rcases T9.mp this with q | q
  ·exact q
  ·rcases QS.mp q with q | q
   ·omega
   ·have:=u2 _ q
    omega
 have nd:T.Nodup:=WD (fun h=>TY h) u1
 have hq:((p::R).any fun e=>decide (st e=x.1))=true:=by rw[VF,decide_eq_true kN];rfl
 refine ⟨?_,?_⟩
 ·rw[kN]
  unfold lW
  rw[Vb,T_ (by
   rw[Bool.not_eq_true,WC]
   exact fun z hz=>by simpa using none z hz),List.filter_nil,UH]
  refine (erase_filter nd hq ?_ fun z hz=>?_).symm
  ·rw[WC]
   exact fun z hz=>by simpa using only z hz
  ·rw[VF,decide_eq_false (by rw[kN];exact Ne.symm hz),Wv]
 ·rw[kN]
  exact Uq.mpr ⟨hT,hq⟩
noncomputable def iI (x z:Nat×Nat):Bool:=decide (x.1<z.1)&&(decide (z.1<x.2)&&decide (x.2<z.2))
theorem Bd (h:Bb ch st P) {T R:List Nat} {x:Nat×Nat} (hx:x∈ch) (e:P=T++x.2::R):yS st T R x.2=(ch.filter (iI x)).length:=by
 have l:=h.lt x hx
 have kN:=(h.st x hx).2
 have up:=h.up
 rw[e,U4,UX]at up
 obtain ⟨u1,⟨u2,u3⟩,u4⟩:=up
 unfold yS
 rw[if_neg (by omega),kN, <-HX (as:=ch.filter (iI x)) (f:=Prod.fst)]
 refine List.Perm.length_eq ((List.perm_ext_iff_of_nodup ?_ ?_).mpr fun a=>?_)
 ·exact (WD (fun h=>TY h) ((u1.filter _).filter _))
 ·have nd:(ch.map Prod.fst).Nodup:=by
   have: ∀{ch:List (Nat×Nat)},(ch.flatMap fun x=>[x.1,x.2]).Nodup->(ch.map Prod.fst).Nodup:=fun {ch}=>by
    induction ch with
    | nil=>exact fun _=>List.Pairwise.nil
    | cons a r ih=>
     intro nd
     rw[Uj,UP]at nd
     rw[TV,UA]
     refine ⟨fun q=>?_,ih nd.2.1⟩
     obtain ⟨z,hz,ez⟩:=T3.mp q
     exact nd.2.2 a.1 (by simp) z.1 (Uo.mpr ⟨z,hz,by simp⟩) ez.symm
   exact this h.nd
  exact List.Nodup.sublist (List.Sublist.map _ List.filter_sublist) nd
 ·rw[Uq,T3]
  unfold lW
  rw[Uq,decide_eq_true_iff,List.any_eq_true]
  constructor
  ·rintro ⟨⟨a1,p,hp,ep⟩,a2⟩
   have ep:=of_decide_eq_true ep
   obtain ⟨z,hz,Oi⟩:=h.pt (p:=p) (by rw[e];exact T8 _ hp)
   have:st p=z.1:=Oi.elim (fun r=>by rw[r,(h.st z hz).1]) fun r=>by rw[r,(h.st z hz).2]
   rw[this]at ep
   have ax:=u4 a a1 x.2 TR
   have pz:p=z.2:=Oi.elim (fun r=>by
    have:=u4 a a1 p hp
    omega) id
   have px:x.2<p:=by
    rcases QS.mp hp with q | q
    ·rw[q]at pz
     have:=tK h.nd x hx z hz (.inr (.inl pz))
     subst this
     omega
    ·exact u2 p q
   refine ⟨z,Uq.mpr ⟨hz,?_⟩,ep⟩
   unfold iI
   rw[UJ,UJ,decide_eq_true_iff,decide_eq_true_iff,decide_eq_true_iff]
   omega
  ·rintro ⟨z,hz,rfl⟩
   obtain ⟨hz,q⟩:=Uq.mp hz
   unfold iI at q
   rw[UJ,UJ,decide_eq_true_iff,decide_eq_true_iff,decide_eq_true_iff]at q
   have i1:=(h.in1 hz).1
   have i2:=(h.in1 hz).2
   rw[e]at i1 i2
   refine ⟨⟨?_,z.2,?_,decide_eq_true (h.st z hz).2⟩,q.1⟩
   ·rcases T9.mp i1 with r | r
    ·exact r
    ·rcases QS.mp r with r | r
     ·omega
     ·have:=u2 _ r;omega
   ·rcases T9.mp i2 with r | r
    ·have:=u4 _ r x.2 TR;omega
    ·exact r
theorem Be (h:Bb ch st P): ∀(R T:List Nat),P=T++R->Cv st T R=(R.map fun p=>if st p=p then 0 else (ch.filter (iI (st p,p))).length).sum
 | [],_,_=>rfl
 | p::R,T,e=>by
  rw[TV,U7, <-Be h R (T++[p]) (by rw[e];simp)]
  show yS st T R p+_=_
  congr 1
  by_cases z:st p=p
  ·rw[if_pos z];unfold yS;rw[if_pos z]
  ·rw[if_neg z]
   obtain ⟨x,hx,hp⟩:=h.pt (p:=p) (by rw[e];simp)
   have GZ:p=x.2:=hp.elim (fun q=>absurd (by rw[q,(h.st x hx).1]) z) id
   have kN:st p=x.1:=by rw[GZ,(h.st x hx).2]
   rw[kN]
   subst GZ
   exact Bd h hx e
theorem G1 (h:Bb ch st P):Cv st [] P=(ch.map fun x=>(ch.filter (iI x)).length).sum:=by
 rw[Be h P [] rfl,(h.pm.map _).sum_nat]
 have: ∀l:List (Nat×Nat),(∀x∈l,x∈ch)->(((l.flatMap fun x=>[x.1,x.2]).map fun p=>if st p=p then 0 else (ch.filter (iI (st p,p))).length).sum)=(l.map fun x=>(ch.filter (iI x)).length).sum:=fun l hl=>by
  induction l with
  | nil=>rfl
  | cons a r ih=>
   have ha:=h.st a (hl a TR)
   have la:=h.lt a (hl a TR)
   rw[Uj,QT,List.sum_append_nat,ih fun x hx=>hl x (Tj _ hx),TV,U7]
   congr 1
   show (if st a.1=a.1 then 0 else _)+((if st a.2=a.2 then 0 else (ch.filter (iI (st a.2,a.2))).length)+0)=_
   rw[if_pos ha.1,if_neg (by omega),ha.2,VP,Wy]
 exact this ch fun x hx=>hx
theorem yT {α:Type} (X:α->α->Bool) (hd: ∀x,X x x=false) (ha: ∀x z,X x z=true->X z x=false): ∀l:List α,(l.map fun x=>(l.filter (X x)).length).sum=cl (fun x z=>X x z||X z x) l:=fun l=>by
 have key: ∀(a:α) (l:List α),((l.filter fun z=>X a z||X z a)).length=(l.filter (X a)).length+(l.map fun z=>if X z a=true then 1 else 0).sum:=fun a l=>by
  induction l with
  | nil=>rfl
  | cons b r ih=>
   have:=ha a b
   simp only[List.filter_cons,TV,U7]
   cases e1:X a b<;>cases e2:X b a
   ·simp[ih]
   ·simp[ih];omega
   ·simp[ih];omega
   ·rw[this e1]at e2;cases e2
 induction l with
 | nil=>rfl
 | cons a r ih=>
  show (((a::r).map fun x=>((a::r).filter (X x)).length).sum)=(r.filter fun z=>X a z||X z a).length+cl _ r
  rw[TV,U7,T_ (by rw[hd a];decide),key a r, <-ih]
  have e: ∀l:List α,(l.map fun x=>((a::r).filter (X x)).length).sum=(l.map fun z=>if X z a=true then 1 else 0).sum+(l.map fun x=>(r.filter (X x)).length).sum:=fun l=>by
   induction l with
   | nil=>rfl
   | cons b l RJ=>
    rw[TV,U7,RJ,TV,U7,TV,U7]
    cases e1:X b a
    ·rw[T_ (by rw[e1];decide)]
     simp;omega
    ·rw[Uk e1]
     simp;omega
  rw[e r]
  omega
theorem Lr (h:Bb ch st P):Cv st [] P=cl (fun x z=>iI x z||iI z x) ch:=by
 rw[G1 h,yT]
 ·intro x;unfold iI;rw[decide_eq_false (Ut _)];rfl
 ·intro x z q
  unfold iI at q ⊢
  rw[UJ,UJ,decide_eq_true_iff,decide_eq_true_iff,decide_eq_true_iff]at q
  rw[decide_eq_false (by omega)]
  rfl
end
noncomputable def E2 (p q:Nat):Int:=if (q:Int)<p then q else p
noncomputable def cQ (cs:List C4):List Nat:=cs.flatMap fun x=>[x.2.2.1,x.2.2.2]
noncomputable def fy (cs:List C4):List (Key×V):=cs.flatMap fun x=>[(Sum.inl (x.2.2.1:Int),V.int (E2 x.2.2.1 x.2.2.2)),(Sum.inl (x.2.2.2:Int),V.int (E2 x.2.2.1 x.2.2.2))]
noncomputable def iR (cs:List C4):List (Nat×Nat):=cs.map fun x=>(min x.2.2.1 x.2.2.2,max x.2.2.1 x.2.2.2)
theorem gc: ∀cs:List C4,(fy cs).map (·.1)=(cQ cs).map fun n:Nat=>(Sum.inl (n:Int):Key)
 | []=>rfl
 | x::r=>by
  unfold fy cQ
  rw[Uj,Uj,QT,QT]
  exact congrArg _ (gc r)
theorem tL {aI:List (Key×V)} {k:Key} (h:k∉aI.map (·.1)):cN aI k=none:=by
 induction aI with
 | nil=>rfl
 | cons a r ih=>
  rw[TV,QS,not_or]at h
  rw[bW (fun e=>h.1 e.symm),ih h.2]
theorem Bf {aI:List (Key×V)} (nd:(aI.map (·.1)).Nodup) {k:Key} {v:V} (h:(k,v)∈aI):cN aI k=some v:=by
 induction aI with
 | nil=>exact absurd h Uh
 | cons a r ih=>
  rw[TV,UA]at nd
  rcases QS.mp h with e | e
  ·subst e;exact ck rfl
  ·rw[bW (fun z=>nd.1 (T3.mpr ⟨_,e,z.symm⟩))]
   exact ih nd.2 e
theorem G2: ∀{l:List Nat},l.Nodup->(l.map fun n:Nat=>(Sum.inl (n:Int):Key)).Nodup:=fun {l} h=>UC.mpr (h.imp fun uj z=>uj (by have:=Sum.inl.inj z;omega))
noncomputable def ins (l:List Nat):List V:=l.map fun n=>V.int (n:Nat)
theorem jM (l:List Nat):(ins l).length=l.length:=by unfold ins;rw[HX]
theorem Bg (l:List Nat) (n:Nat):ins l++[V.int (n:Nat)]=ins (l++[n]):=by unfold ins;rw[QT];rfl
theorem Bh {l:List Nat} {i n:Nat} (h:l[i]? =some n):(ins l)[i]? =some (V.int (n:Nat)):=by unfold ins;rw[TQ,h];rfl
def gE (_:PySem.W.Frag):Sp:=fun vs H Q _=> ∃(a:Addr) (qs:List Q4),vs=[.ref a]/\H a=some (.lst (lE qs))/\(∀x∈qs,oh H x)/\qs.length<=1000/\(cQ (qs.map Q4.v)).Nodup/\ ∀d H',H d=none->H' d=some (.dK (fy (qs.map Q4.v)))->au H H'->Q (.ref d) H'
theorem kz {K:PySem.W.Frag} {vs:List V} {H:Hp} {Q:VK} {E:XK} (h:gE K vs H Q E):vs.length=1:=by obtain ⟨_,_,rfl,_⟩:=h;rfl
def jN (_:PySem.W.Frag):Sp:=fun vs H Q _=> ∃(a:Addr) (l:List Nat) (p:Nat),vs=[.ref a, .int p]/\H a=some (.lst (ins l))/\l.Pairwise (· < ·)/\p∈l/\l.length<=100000/\Q (.int (l.idxOf p:Nat)) H
theorem oj {K:PySem.W.Frag} {vs:List V} {H:Hp} {Q:VK} {E:XK} (h:jN K vs H Q E):vs.length=2:=by obtain ⟨_,_,_,rfl,_⟩:=h;rfl
def fG (_:PySem.W.Frag):Sp:=fun vs H Q _=> ∃(a:Addr) (qs:List Q4),vs=[.ref a]/\H a=some (.lst (lE qs))/\(∀x∈qs,oh H x)/\qs.length<=24/\(cQ (qs.map Q4.v)).Nodup/\ ∀H',au H H'->Q (.int (cl (fun x z=>iI x z||iI z x) (iR (qs.map Q4.v)):Nat)) H'
theorem jb {K:PySem.W.Frag} {vs:List V} {H:Hp} {Q:VK} {E:XK} (h:fG K vs H Q E):vs.length=1:=by obtain ⟨_,_,rfl,_⟩:=h;rfl
theorem yU (cs:List C4) (x:C4):cQ (cs++[x])=cQ cs++[x.2.2.1,x.2.2.2]:=by unfold cQ;rw[Uw,Vu]
theorem yV (cs:List C4) (x:C4):fy (cs++[x])=fy cs++[(Sum.inl (x.2.2.1:Int),V.int (E2 x.2.2.1 x.2.2.2)),(Sum.inl (x.2.2.2:Int),V.int (E2 x.2.2.1 x.2.2.2))]:=by unfold fy;rw[Uw,Vu]
theorem tM (cs:List C4):(fy cs).length=2*cs.length:=by
 induction cs with
 | nil=>rfl
 | cons x r ih=>
  unfold fy at ih ⊢
  rw[Uj,Tn,ih,Uu]
  show 2+2*r.length=2*(r.length+1)
  omega
theorem DR {cs:List C4} {x:C4} (nd:(cQ (cs++[x])).Nodup):putK (putK (fy cs) (Sum.inl (x.2.2.1:Int)) (V.int (E2 x.2.2.1 x.2.2.2))) (Sum.inl (x.2.2.2:Int)) (V.int (E2 x.2.2.1 x.2.2.2))=fy (cs++[x]):=by
 rw[yU,UP]at nd
 obtain ⟨n1,n2,n3⟩:=nd
 have k: ∀n:Nat,n∉cQ cs->(Sum.inl (n:Int):Key)∉(fy cs).map (·.1):=fun n hn z=>by
  rw[gc]at z
  obtain ⟨m,hm,e⟩:=T3.mp z
  have:m=n:=by have:=Sum.inl.inj e;omega
  exact hn (this▸hm)
 have h1:x.2.2.1∉cQ cs:=fun z=>n3 _ z _ (by simp) rfl
 have h2:x.2.2.2∉cQ cs:=fun z=>n3 _ z _ (by simp) rfl
 have h3:x.2.2.1≠x.2.2.2:=by
  rw[UA]at n2
  simpa using n2.1
 rw[sJ _ (tL (k _ h1)),sJ,yV,Vi]
 ·rfl
 ·refine tL fun z=>?_
  rw[QT,T9]at z
  rcases z with z | z
  ·exact k _ h2 z
  ·have:=Sum.inl.inj (QU.mp z)
   omega
noncomputable def cb (cs:List C4) (p:Nat):Nat:=(((cN (fy cs) (Sum.inl (p:Int))).map fun v=>match v with | .int i=>i.toNat | _=>0).getD 0)
theorem Bi (p q:Nat):E2 p q=(min p q:Nat):=by unfold E2;split<;>omega
theorem E3 {cs:List C4} (nd:(cQ cs).Nodup) {x:C4} (hx:x∈cs):(cN (fy cs) (Sum.inl (x.2.2.1:Int))=some (.int (min x.2.2.1 x.2.2.2:Nat))/\cN (fy cs) (Sum.inl (x.2.2.2:Int))=some (.int (min x.2.2.1 x.2.2.2:Nat)))/\cb cs x.2.2.1=min x.2.2.1 x.2.2.2/\cb cs x.2.2.2=min x.2.2.1 x.2.2.2:=by
 have kn:((fy cs).map (·.1)).Nodup:=by rw[gc];exact G2 nd
 have e1:cN (fy cs) (Sum.inl (x.2.2.1:Int))=some (.int (min x.2.2.1 x.2.2.2:Nat)):=by
  rw[<-Bi]
  exact Bf kn (Uo.mpr ⟨x,hx,by simp⟩)
 have e2:cN (fy cs) (Sum.inl (x.2.2.2:Int))=some (.int (min x.2.2.1 x.2.2.2:Nat)):=by
  rw[<-Bi]
  exact Bf kn (Uo.mpr ⟨x,hx,by simp⟩)
 refine ⟨⟨e1,e2⟩,?_,?_⟩
 ·unfold cb;rw[e1];exact Pj _
 ·unfold cb;rw[e2];exact Pj _
theorem xu (cs:List C4):((iR cs).flatMap fun x=>[x.1,x.2]).Perm (cQ cs):=by
 induction cs with
 | nil=>exact .nil
 | cons x r ih=>
  unfold iR cQ at ih ⊢
  rw[TV,Uj,Uj]
  refine List.Perm.append ?_ ih
  show [min x.2.2.1 x.2.2.2,max x.2.2.1 x.2.2.2].Perm [x.2.2.1,x.2.2.2]
  by_cases z:x.2.2.1<=x.2.2.2
  ·rw[UE z,Vk z]
  ·rw[UI (by omega),Vf (by omega)]
   exact List.Perm.swap _ _ _
theorem G3 {cs:List C4} {P:List Nat} (nd:(cQ cs).Nodup) (hp:P.Perm (cQ cs)) (up:P.Pairwise (· < ·)):Bb (iR cs) (cb cs) P:=by
 refine ⟨fun x hx=>?_,((xu cs).nodup_iff).mpr nd,hp.trans (xu cs).symm,up,fun x hx=>?_⟩
 ·obtain ⟨c,hc,rfl⟩:=T3.mp hx
  have fD:c.2.2.1≠c.2.2.2:=fun z=>by
   have: ∀{cs:List C4},(cQ cs).Nodup-> ∀c∈cs,c.2.2.1≠c.2.2.2:=fun {cs}=>by
    induction cs with
    | nil=>exact fun _ _ h=>absurd h Uh
    | cons a r ih=>
     intro nd c hc
     unfold cQ at nd
     rw[Uj,UP]at nd
     rcases QS.mp hc with e | e
     ·subst e
      have:=nd.1
      rw[UA]at this
      simpa using this.1
     ·exact ih nd.2.1 c e
   exact this nd c hc z
  show min c.2.2.1 c.2.2.2<max c.2.2.1 c.2.2.2
  omega
 ·obtain ⟨c,hc,rfl⟩:=T3.mp hx
  obtain ⟨_,e1,e2⟩:=E3 nd hc
  show cb cs (min c.2.2.1 c.2.2.2)=min c.2.2.1 c.2.2.2/\cb cs (max c.2.2.1 c.2.2.2)=min c.2.2.1 c.2.2.2
  by_cases z:c.2.2.1<=c.2.2.2
  ·rw[UE z,Vk z]at*
   exact ⟨e1,e2⟩
  ·rw[UI (by omega),Vf (by omega)]at*
   exact ⟨e2,e1⟩
theorem Bj {l:List Nat} {p:Nat} (h:p∈l):l.eraseIdx (l.idxOf p)=l.erase p:=(List.erase_eq_eraseIdx_of_idxOf rfl).symm
theorem behind {l:List Nat} (up:l.Pairwise (· < ·)) {p:Nat} (h:p∈l):(l.erase p).length - l.idxOf p=(l.filter fun x=>decide (p<x)).length:=by
 induction l with
 | nil=>exact absurd h Uh
 | cons a r ih=>
  rw[UX]at up
  by_cases z:a=p
  ·subst z
   rw[List.erase_cons_head,List.idxOf_cons_self,T_ (by simp),List.filter_eq_self.mpr (fun x hx=>decide_eq_true (up.1 x hx))]
   rfl
  ·have hr:=(QS.mp h).resolve_left (Ne.symm z)
   rw[List.erase_cons_tail (by simpa using z),GA,if_neg z,T_ (by
    have:=up.1 p hr
    simp;omega), <-ih up.2 hr,Uu]
   omega
theorem G4 {st:Nat->Nat} {P T R:List Nat} (h:P.Pairwise (· < ·)) (e:P=T++R) (R':List Nat):(lW st T R').Pairwise (· < ·):=by
 rw[e,U4]at h
 exact h.1.filter _
theorem DS {st:Nat->Nat} {T R:List Nat}:(lW st T R).length<=T.length:=Wg _ _
theorem G5 {cs:List C4} (nd:(cQ cs).Nodup) {p:Nat} (hp:p∈cQ cs):cN (fy cs) (Sum.inl (p:Int))=some (.int (cb cs p:Nat)):=by
 unfold cQ at hp
 obtain ⟨x,hx,e⟩:=Uo.mp hp
 obtain ⟨⟨e1,e2⟩,e3,e4⟩:=E3 nd hx
 have e':p=x.2.2.1\/p=x.2.2.2:=by simpa using e
 rcases e' with rfl | rfl
 ·rw[e1,e3]
 ·rw[e2,e4]
theorem vK {ms:List Int} {l:List Nat} (nd:l.Nodup) (hp:ms.Perm (l.map fun n:Nat=>(n:Int))) (hw:ms.Pairwise fun a b=> ¬b<a): ∃P:List Nat,ms.map V.int=ins P/\P.Perm l/\P.Pairwise (· < ·):=by
 have rP: ∀m∈ms, ∃n:Nat,m=n:=fun m hm=>by
  obtain ⟨n,_,rfl⟩:=T3.mp (hp.mem_iff.mp hm)
  exact ⟨n,rfl⟩
 have e1:ms=(ms.map Int.toNat).map fun n:Nat=>(n:Int):=by
  rw[Us]
  refine (WM ms).symm.trans (UR fun m hm=>?_)
  obtain ⟨n,rfl⟩:=rP m hm
  exact (congrArg _ (Pj n)).symm
 have p1:(ms.map Int.toNat).Perm l:=by
  have:=hp.map Int.toNat
  rw[Us]at this
  have e2:l.map (Int.toNat ∘ fun n:Nat=>(n:Int))=l:=(UR fun n _=>Pj n).trans (WM l)
  rwa [e2]at this
 refine ⟨ms.map Int.toNat,?_,p1,?_⟩
 ·unfold ins
  conv=>lhs;rw[e1]
  rw[Us]
  rfl
 ·have RK:(ms.map Int.toNat).Nodup:=p1.nodup_iff.mpr nd
  have RL:(ms.map Int.toNat).Pairwise fun a b=> ¬b<a:=by
   rw[e1,UC]at hw
   exact hw.imp fun h z=>h (by omega)
  refine WD (fun {a b} h=>?_) (List.Pairwise.and RL RK)
  have:=h.1
  have:=h.2
  omega
theorem Bk {st:Nat->Nat} {P:List Nat} {k p:Nat} (h:P[k]? =some p):Cv st (P.take k) (P.drop k)=yS st (P.take k) (P.drop (k+1)) p+Cv st (P.take (k+1)) (P.drop (k+1)):=by
 obtain ⟨hk,e⟩:=FX.mp h
 rw[Uz hk,e]
 show yS st _ _ p+Cv st (P.take k++[p]) _=_
 rw[take_snoc h]
theorem Bl {n k:Nat} (h:k<n):seqIndex? (k:Int) n=some k:=by
 unfold seqIndex?
 simp
 omega
theorem pN: ∀(l:List Nat) (k:Nat),(ins l).eraseIdx k=ins (l.eraseIdx k)
 | [],_=>rfl
 | _::_,0=>rfl
 | a::l,k+1=>congrArg (V.int (a:Nat):: ·) (pN l k)
noncomputable def cst (y w:List Nat) (i:Int):Int:=tf y (ao (rd w (i - 1))) (rd w i)
theorem Bm (y w:List Nat) (p k:Int):dF y (sq w p) k=cst y w (p+k):=by
 unfold dF cst sq
 rw[show p+(k - 1)=p+k - 1 by omega]
noncomputable def um (n:Int):Nat:=(48+n).toNat
noncomputable def stx (y w:List Nat):List Nat:=(List.range w.length).map fun i:Nat=>um (cst y w i)
theorem cG (y w:List Nat):(stx y w).length=w.length:=by unfold stx;rw[HX,Vh]
theorem G6: ∀n:Nat,n<10->dg n=[48+n]:=by decide+kernel
noncomputable def g_ (lg n:Nat):Nat:=3+lg / max n 1
noncomputable def kA (y u:List Nat) (lg r:Nat):List (Str×V):=dh "backward" (.str (S (dm (g_ lg u.length) (stx y u).reverse))) (dh "onward" (.str (S (dm (g_ lg u.length) (stx y u)))) (dh "leads" (.bl (leads u)) (dh "root_size" (.int r) (dh "size" (.int u.length) []))))
noncomputable def E4 (t w:Addr) (p:Nat):List (Str×V):=dh "place" (.int p) (dh "way" (.ref w) (dh "strand" (.ref t) []))
section
variable {y u:List Nat} {lg r:Nat} {t w:Addr} {p:Nat}
theorem xv:(kA y u lg r).lookup ("size":Str)=some (.int u.length):=by
 unfold kA
 rw[aE,if_neg (by decide+kernel),aE,if_neg (by decide+kernel),aE,if_neg (by decide+kernel),aE,if_neg (by decide+kernel),aE,if_pos rfl]
theorem lX:(kA y u lg r).lookup ("root_size":Str)=some (.int r):=by
 unfold kA
 rw[aE,if_neg (by decide+kernel),aE,if_neg (by decide+kernel),aE,if_neg (by decide+kernel),aE,if_pos rfl]
theorem Bn:(kA y u lg r).lookup ("leads":Str)=some (.bl (leads u)):=by
 unfold kA
 rw[aE,if_neg (by decide+kernel),aE,if_neg (by decide+kernel),aE,if_pos rfl]
theorem Ls:(kA y u lg r).lookup ("onward":Str)=some (.str (S (dm (g_ lg u.length) (stx y u)))):=by
 unfold kA
 rw[aE,if_neg (by decide+kernel),aE,if_pos rfl]
theorem DT:(kA y u lg r).lookup ("backward":Str)=some (.str (S (dm (g_ lg u.length) (stx y u).reverse))):=by
 unfold kA
 rw[aE,if_pos rfl]
theorem jO:(E4 t w p).lookup ("place":Str)=some (.int p):=by unfold E4;rw[aE,if_pos rfl]
theorem kB:(E4 t w p).lookup ("way":Str)=some (.ref w):=by unfold E4;rw[aE,if_neg (by decide+kernel),aE,if_pos rfl]
theorem pQ:(E4 t w p).lookup ("strand":Str)=some (.ref t):=by unfold E4;rw[aE,if_neg (by decide+kernel),aE,if_neg (by decide+kernel),aE,if_pos rfl]
end
theorem cE (f:Str) (v:V): ∀fs:List (Str×V),(dh f v fs).length<=fs.length+1
 | []=>Mj _
 |(g,x)::r=>by
  unfold dh
  split
  ·exact U9 _
  ·exact UU (cE f v r)
structure Sn where
 a:Addr
 t:Addr
 wy:Addr
 c:Nat
 i:Nat
 u:List Nat
 p:Nat
 r:Nat
structure yW (H:Hp) (C a:Addr) (y u:List Nat) (lg r:Nat):Prop where
 ob: ∃dx,H a=some (.ins C dx (kA y u lg r))
 sw:SW y u
 uz:u.length<=lg
 lz:lg<=1000
 rt:bA u r
theorem yW.same {H H':Hp} {C a:Addr} {y u:List Nat} {lg r:Nat} (h:yW H C a y u lg r) (s:au H H'):yW H' C a y u lg r:=by
 obtain ⟨dx,e⟩:=h.ob
 exact ⟨⟨dx,s _ _ e⟩,h.sw,h.uz,h.lz,h.rt⟩
structure hJ (H:Hp) (CW CS:Addr) (y:List Nat) (lg:Nat) (s:Sn):Prop where
 ob: ∃dx,H s.a=some (.ins CS dx (E4 s.t s.wy s.p))
 st:H s.t=some (.tup [.int s.c, .int s.i])
 wy:yW H CW s.wy y s.u lg s.r
 pz:s.p<s.u.length
theorem hJ.same {H H':Hp} {CW CS:Addr} {y:List Nat} {lg:Nat} {s:Sn} (h:hJ H CW CS y lg s) (sm:au H H'):hJ H' CW CS y lg s:=by
 obtain ⟨dx,e⟩:=h.ob
 exact ⟨⟨dx,sm _ _ e⟩,sm _ _ h.st,h.wy.same sm,h.pz⟩
noncomputable def zr (y:List Nat) (lg:Nat) (s:Sn):List Nat:=(dm (g_ lg s.u.length) (stx y s.u)).drop (s.p+1)
noncomputable def zt (y:List Nat) (lg:Nat) (s:Sn):List Nat:=(dm (g_ lg s.u.length) (stx y s.u).reverse).drop (s.u.length - 1 - s.p)
noncomputable def seg (l:List Nat) (x z:Nat):List Nat:=(l.drop x).take (z - x)
def gF (_:PySem.W.Frag):Sp:=fun vs H Q _=> ∃(y w:List Nat) (i:Nat),vs=[.str (S y), .str (S w), .int i]/\Yd y/\y.length<=8/\SW y w/\w.length<=1000/\i<w.length/\ ∀(n:Nat) H',cst y w i=n->n<8->au H H'->Q (.int n) H'
theorem kC {K:PySem.W.Frag} {vs:List V} {H:Hp} {Q:VK} {E:XK} (h:gF K vs H Q E):vs.length=3:=by obtain ⟨_,_,_,rfl,_⟩:=h;rfl
def tN (_:PySem.W.Frag) (C:Addr):Sp:=fun vs H Q _=> ∃(x dx:Addr) (y w:List Nat) (lg:Nat),vs=[.ref x, .str (S y), .str (S w), .int lg]/\H x=some (.ins C dx [])/\Yd y/\y.length<=8/\SW y w/\w.length<=lg/\lg<=1000/\ ∀(r:Nat) H',bA w r->H' x=some (.ins C dx (kA y w lg r))->aW x H H'->Q .gB H'
theorem yX {K:PySem.W.Frag} {C:Addr} {vs:List V} {H:Hp} {Q:VK} {E:XK} (h:tN K C vs H Q E):vs.length=4:=by obtain ⟨_,_,_,_,_,rfl,_⟩:=h;rfl
def pR (_:PySem.W.Frag) (C:Addr):Sp:=fun vs H Q _=> ∃(x dx t w:Addr) (p:Nat),vs=[.ref x, .ref t, .ref w, .int p]/\H x=some (.ins C dx [])/\ ∀H',H' x=some (.ins C dx (E4 t w p))->aW x H H'->Q .gB H'
theorem vL {K:PySem.W.Frag} {C:Addr} {vs:List V} {H:Hp} {Q:VK} {E:XK} (h:pR K C vs H Q E):vs.length=4:=by obtain ⟨_,_,_,_,_,rfl,_⟩:=h;rfl
def fi (_:PySem.W.Frag) (CW CS:Addr):Sp:=fun vs H Q _=> ∃(y:List Nat) (lg:Nat) (s:Sn) (x z:Nat),vs=[.ref s.a, .int x, .int z]/\y.length<=8/\hJ H CW CS y lg s/\x<=z/\Q (.str (S (seg (zr y lg s) x z))) H
theorem lF {K:PySem.W.Frag} {CW CS:Addr} {vs:List V} {H:Hp} {Q:VK} {E:XK} (h:fi K CW CS vs H Q E):vs.length=3:=by obtain ⟨_,_,_,_,_,rfl,_⟩:=h;rfl
def fL (_:PySem.W.Frag) (CW CS:Addr):Sp:=fun vs H Q _=> ∃(y:List Nat) (lg:Nat) (s:Sn) (x z:Nat),vs=[.ref s.a, .int x, .int z]/\y.length<=8/\hJ H CW CS y lg s/\x<=z/\Q (.str (S (seg (zt y lg s) x z))) H
theorem m4 {K:PySem.W.Frag} {CW CS:Addr} {vs:List V} {H:Hp} {Q:VK} {E:XK} (h:fL K CW CS vs H Q E):vs.length=3:=by obtain ⟨_,_,_,_,_,rfl,_⟩:=h;rfl
theorem DU {l:List Nat} {a b:Nat} (h:a<=b):cut l (some (a:Int)) (some (b:Int))=(l.drop a).take (b - a):=by
 unfold cut
 rw[HT.fz,HT.fz]
 by_cases z:a<=l.length
 ·rw[UE z]
  by_cases z2:b<=l.length
  ·rw[UE z2]
  ·rw[UI (by omega),Uc (by rw[T6];omega),Uc (by rw[T6];omega)]
 ·rw[UI (by omega),UI (by omega),UQ (Mj _),UQ (by omega)]
  simp
theorem xw {l:List Nat} {f x z:Nat} (h:x<=z):cut l (some ((f:Int)+x)) (some ((f:Int)+z))=seg (l.drop f) x z:=by
 rw[show (f:Int)+x=((f+x:Nat):Int) by omega,show (f:Int)+z=((f+z:Nat):Int) by omega,DU (by omega)]
 unfold seg
 rw[List.drop_drop,show f+z - (f+x)=z - x by omega]
theorem jP {lg n:Nat} (h:1<=n):n*g_ lg n<=3*n+lg/\2*n+lg<n*g_ lg n:=by
 unfold g_
 rw[Vf h,Nat.mul_add]
 have h1:=VJ lg n
 have h2:=U_ lg (show 0<n by omega)
 omega
theorem pT (m:Nat) (l:List Nat):(dm m l).length=l.length*m:=by
 unfold dm
 rw[List.length_flatten,List.map_replicate,List.sum_replicate_nat,U3]
theorem SW.cZ {y w:List Nat} (hy:Yd y) (h:SW y w):My.cZ w=eK w:=by unfold My.cZ;rw[h.core hy]
theorem q8 (l:List Nat) (x z j:Nat):(seg l x z)[j]? =if j<z - x then l[x+j]? else none:=by
 unfold seg
 rw[VT]
 split
 ·rw[UY]
 ·rfl
theorem vM {l m:List Nat} {x z:Nat}:seg l x (x+z)=seg m x (x+z)↔ ∀k,x<=k->k<x+z->l[k]? =m[k]?:= by
 constructor
 ·intro h k h1 h2
  have:=congrArg (·[k - x]?) h
  simp only[q8]at this
  rwa [if_pos (by omega),if_pos (by omega),show x+(k - x)=k by omega]at this
 ·intro h
  refine WB fun j=>?_
  rw[q8,q8]
  by_cases z':j<x+z - x
  ·rw[if_pos z',if_pos z',h (x+j) (by omega) (by omega)]
  ·rw[if_neg z',if_neg z']
noncomputable def G7 (b:Bool) (y:List Nat) (lg:Nat) (s:Sn):List Nat:=if b=true then zr y lg s else zt y lg s
def hU (l m:List Nat) (n:Nat):Prop:= ∀k,k<n->l[k]? =m[k]?
def m5 (_:PySem.W.Frag) (CW CS fa fb:Addr):Sp:=fun vs H Q _=> ∃(y:List Nat) (lg:Nat) (s t:Sn) (b:Bool) (en:Nat),vs=[.ref (if b=true then fa else fb), .ref s.a, .ref t.a, .int en]/\y.length<=8/\hJ H CW CS y lg s/\hJ H CW CS y lg t/\en<=100000/\ ∀m:Nat,hU (G7 b y lg s) (G7 b y lg t) m->(en<=m\/(G7 b y lg s)[m]?≠ (G7 b y lg t)[m]?)->Q (.int m) H
theorem tP {K:PySem.W.Frag} {CW CS fa fb:Addr} {vs:List V} {H:Hp} {Q:VK} {E:XK} (h:m5 K CW CS fa fb vs H Q E):vs.length=4:=by obtain ⟨_,_,_,_,_,_,rfl,_⟩:=h;rfl
theorem hU.more {l m:List Nat} {x z:Nat} (h:hU l m x) (e:seg l x (x+z)=seg m x (x+z)):hU l m (x+z):=fun k hk=>by
 by_cases q:k<x
 ·exact h k q
 ·exact vM.mp e k (by omega) hk
theorem Bo {l m:List Nat} {x z:Nat} (h:seg l x (x+z)≠seg m x (x+z)): ∃k,x<=k/\k<x+z/\l[k]?≠ m[k]?:= Classical.byContradiction fun q=>h (vM.mpr fun k h1 h2=>Classical.byContradiction fun r=>q ⟨k,h1,h2,r⟩)
noncomputable def vN (s:Sn):Int×Int:=if leads s.u=true then ((s.c:Int),((s.p / s.r:Nat):Int)) else (-(s.c:Int), -(((s.u.length - 1 - s.p) / s.r:Nat):Int))
def m6 (_:PySem.W.Frag) (CW CS:Addr):Sp:=fun vs H Q _=> ∃(y:List Nat) (lg:Nat) (s:Sn),vs=[.ref s.a]/\hJ H CW CS y lg s/\ ∀p H',H p=none->H' p=some (.tup [.int (vN s).1, .int (vN s).2])->au H H'->Q (.ref p) H'
theorem tQ {K:PySem.W.Frag} {CW CS:Addr} {vs:List V} {H:Hp} {Q:VK} {E:XK} (h:m6 K CW CS vs H Q E):vs.length=1:=by obtain ⟨_,_,_,rfl,_⟩:=h;rfl
noncomputable def iO (y:List Nat) (M:Nat) (s:Sn):List Int:=kk y (sq s.u s.p) 0 M++[(vN s).1,(vN s).2]
def hV (_:PySem.W.Frag) (CW CS:Addr):Sp:=fun vs H Q _=> ∃(y:List Nat) (lg:Nat) (s t:Sn),vs=[.ref s.a, .ref t.a]/\Yd y/\y.length<=8/\hJ H CW CS y lg s/\hJ H CW CS y lg t/\rd s.u s.p=rd t.u t.p/\ ∀H',au H H'->Q (.bl (bu (iO y (2*lg) s) (iO y (2*lg) t))) H'
theorem lG {K:PySem.W.Frag} {CW CS:Addr} {vs:List V} {H:Hp} {Q:VK} {E:XK} (h:hV K CW CS vs H Q E):vs.length=2:=by obtain ⟨_,_,_,_,rfl,_⟩:=h;rfl
theorem hX {u:List Nat} {r:Nat} (hn:u≠[]) (h:bA u r):1<=r/\r<=u.length:=by
 rcases h with ⟨z,_⟩ | ⟨h1,h2,_⟩
 ·exact absurd z hn
 ·exact ⟨h1,h2⟩
theorem xx {y u:List Nat} {i:Nat} (h:i<u.length):(stx y u)[i]? =some (um (cst y u i)):=by
 unfold stx
 rw[TQ,List.getElem?_range h]
 rfl
theorem q9 (y u:List Nat) (i:Int):cst y u (i%u.length)=cst y u i:=by
 unfold cst
 rw[gq, <-gq u (i%u.length - 1),WE,Wn _ (Int.dvd_refl _), <-WE,gq]
theorem Bp {y:List Nat} {lg:Nat} {s:Sn} (hn:s.u≠[]) {k:Nat} (h:s.p+1+k<s.u.length*g_ lg s.u.length):(zr y lg s)[k]? =some (um (dF y (sq s.u s.p) (k+1))):=by
 have hp:=Pe.mpr hn
 unfold zr
 rw[UY,jE _ _ _ (by rw[cG,U3];exact h),cG,xx (U_ _ hp),Bm,Vm,q9]
 congr 3
 omega
theorem Bq {y:List Nat} {lg:Nat} {s:Sn} (hn:s.u≠[]) (hp:s.p<s.u.length) {k:Nat} (h:s.u.length - 1 - s.p+k<s.u.length*g_ lg s.u.length):(zt y lg s)[k]? =some (um (dF y (sq s.u s.p) (-(k:Int)))):=by
 have hl:=Pe.mpr hn
 unfold zt
 rw[UY,jE _ _ _ (by rw[Ul,cG,U3];exact h),Ul,cG]
 have hm:=U_ (s.u.length - 1 - s.p+k) hl
 rw[VB (by rw[cG];exact hm),cG,xx (by omega),Bm]
 congr 2
 rw[<-q9 y s.u (s.p+ -(k:Int)), <-q9 y s.u ((s.u.length - 1 - (s.u.length - 1 - s.p+k)%s.u.length:Nat):Int)]
 congr 1
 have e:((s.u.length - 1 - (s.u.length - 1 - s.p+k)%s.u.length:Nat):Int)=(s.u.length:Int) - 1 - ((s.u.length:Int) - 1 - s.p+k)%s.u.length:=by
  have:(((s.u.length - 1 - s.p+k)%s.u.length:Nat):Int)=((s.u.length:Int) - 1 - s.p+k)%s.u.length:=by
   rw[Vm];congr 1;omega
  omega
 rw[e,WE,Wn _ (Int.dvd_refl _), <-WE]
 congr 1
 omega
theorem pU {lg:Nat} {s:Sn} {en:Nat} (hp:s.p<s.u.length) (he:en<=s.u.length+lg):s.p+1+en<s.u.length*g_ lg s.u.length+1/\s.u.length - 1 - s.p+en<s.u.length*g_ lg s.u.length:=by
 have:=(jP (lg:=lg) (n:=s.u.length) (by omega)).2
 omega
theorem xA {u:List Nat} {r:Nat} (hn:u≠[]) (h:bA u r) (p k:Int):sq u p (k+r)=sq u p k:=by
 have:=((fg hn h).2 (p+r) p).mpr (by rw[show p+(r:Int) - p=r by omega,WT])
 have e:=this k
 unfold sq at e ⊢
 rw[show p+(k+r)=p+r+k by omega]
 exact e
theorem xB {a b:Int} (ha:0<=a) (hb:0<=b) (h:um a=um b):a=b:=by unfold um at h;omega
theorem Br {a b:Int} (ha:0<=a) (hb:0<=b):um a<um b↔a<b:=by unfold um;omega
theorem xC {y:List Nat} {f:Int->Nat} (hy:Yd y) (h:fS y f) (k:Int):0<=dF y f k:=by
 have:=(dG (hy.cl _ (h.bH (k - 1))) (h.bH k) (Ne.symm (h.red k))).1
 unfold dF
 omega
theorem xD {l m:List Nat} {en a n:Nat} (ha:a<en) (h1: ∀k,k<a->l[k]? =m[k]?) (h2:l[a]?≠ m[a]?) (g1:hU l m n) (g2:en<=n\/l[n]?≠ m[n]?):n=a:=by
 by_cases z:a<n
 ·exact absurd (g1 a z) h2
 ·by_cases z2:n<a
  ·rcases g2 with g2 | g2
   ·omega
   ·exact absurd (h1 n z2) g2
  ·omega
theorem xE {l m:List Nat} {en n:Nat} (h1: ∀k,k<en->l[k]? =m[k]?) (g2:en<=n\/l[n]?≠ m[n]?):en<=n:=by
 rcases g2 with g2 | g2
 ·exact g2
 ·exact Classical.byContradiction fun z=>g2 (h1 n (by omega))
theorem lY {l:List Nat} {a x:Nat} (h:l[a]? =some x):seg l a (a+1)=[x]:=by
 obtain ⟨ha,e⟩:=FX.mp h
 unfold seg
 rw[Uz ha,e,show a+1 - a=1 by omega]
 rfl
theorem Bs (x z:Nat):decide ([x]<[z])=decide (x<z):=decide_eq_decide.mpr ⟨fun h=>(Wh.mp h).elim id fun q=>absurd q.2 (Vs _),fun h=>Wh.mpr (.inl h)⟩
theorem DV (a b c d:Int):Cq a b c d=bu [a,b] [c,d]:=by
 unfold Cq
 show _=if a=c then (if b=d then bu [] [] else decide (b<d)) else decide (a<c)
 by_cases z:a=c
 ·rw[if_pos z,if_pos z]
  by_cases q:b=d
  ·rw[if_pos q,q];simp[bu]
  ·rw[if_neg q]
 ·rw[if_neg z,if_neg z]
noncomputable def xF (ss:List Sn):List V:=ss.map fun s=>V.ref s.a
theorem jQ (ss:List Sn):(xF ss).length=ss.length:=by unfold xF;rw[HX]
theorem G8 {ss:List Sn} {i:Nat} {s:Sn} (h:ss[i]? =some s):(xF ss)[i]? =some (V.ref s.a):=by unfold xF;rw[TQ,h];rfl
theorem DW {ss:List Sn} {i:Nat} {x:V} (h:(xF ss)[i]? =some x): ∃s,ss[i]? =some s/\x=V.ref s.a:=by
 unfold xF at h
 rw[TQ]at h
 cases e:ss[i]? with
 | none=>rw[e]at h;cases h
 | some p=>rw[e]at h;cases h;exact ⟨p,rfl,rfl⟩
def yY (y:List Nat) (M:Nat) (ss:List Sn):Prop:=ss.Pairwise fun s t=>bu (iO y M t) (iO y M s)=false
def gG (_:PySem.W.Frag) (CW CS:Addr):Sp:=fun vs H Q _=> ∃(y:List Nat) (lg:Nat) (a:Addr) (ss:List Sn) (t:Sn),vs=[.ref a, .ref t.a]/\Yd y/\y.length<=8/\H a=some (.lst (xF ss))/\(∀s∈ss,hJ H CW CS y lg s/\rd s.u s.p=rd t.u t.p)/\hJ H CW CS y lg t/\yY y (2*lg) ss/\ss.length<=100000/\
 ∀(n:Nat) H',n<=ss.length->(∀k s,ss[k]? =some s->k<n->bu (iO y (2*lg) s) (iO y (2*lg) t)=true)->(∀k s,ss[k]? =some s->n<=k->bu (iO y (2*lg) s) (iO y (2*lg) t)=false)->au H H'->Q (.int n) H'
theorem kD {K:PySem.W.Frag} {CW CS:Addr} {vs:List V} {H:Hp} {Q:VK} {E:XK} (h:gG K CW CS vs H Q E):vs.length=2:=by obtain ⟨_,_,_,_,_,rfl,_⟩:=h;rfl
structure Wp where
 t:Addr
 a:Addr
 b:Addr
 r:Nat
 q:Nat
noncomputable def Cw (l:List Wp):List V:=l.map fun p=>V.ref p.t
theorem Bt {l:List Wp} {i:Nat} {p:Wp} (h:l[i]? =some p):(Cw l)[i]? =some (V.ref p.t):=by unfold Cw;rw[TQ,h];rfl
theorem Bu (l:List Wp) (p:Wp):Cw l++[V.ref p.t]=Cw (l++[p]):=by unfold Cw;rw[QT];rfl
structure q_ (H:Hp) (C:Addr) (y:List Nat) (lg:Nat) (w:List Nat) (p:Wp):Prop where
 tp:H p.t=some (.tup [.ref p.a, .ref p.b])
 on:yW H C p.a y w lg p.r
 bk:yW H C p.b y (gm w) lg p.q
theorem q_.same {H H':Hp} {C:Addr} {y:List Nat} {lg:Nat} {w:List Nat} {p:Wp} (h:q_ H C y lg w p) (s:au H H'):q_ H' C y lg w p:=⟨s _ _ h.tp,h.on.same s,h.bk.same s⟩
structure vO (w:List Nat) (c i:Nat) (s:Sn):Prop where
 ec:s.c=c
 ei:s.i=i
 eu:s.u=if aA (rd w i)=true then w else gm w
 ep:s.p=if aA (rd w i)=true then i else w.length - 1 - i
def hZ (_:PySem.W.Frag) (CW CS:Addr):Sp:=fun vs H Q _=> ∃(y:List Nat) (lg:Nat) (wt vt st:Addr) (w:List Nat) (ws:List (List Nat)) (jX:List Wp) (p:Wp) (c i:Nat),vs=[.ref wt, .ref vt, .ref st]/\Yd y/\H wt=some (.tup (ve ws))/\H vt=some (.lst (Cw jX))/\H st=some (.tup [.int c, .int i])/\ws[c]? =some w/\jX[c]? =some p/\q_ H CW y lg w p/\i<w.length/\
 ∀(s:Sn) H',vO w c i s->s.t=st->hJ H' CW CS y lg s->H s.a=none->au H H'->Q (.ref s.a) H'
theorem lH {K:PySem.W.Frag} {CW CS:Addr} {vs:List V} {H:Hp} {Q:VK} {E:XK} (h:hZ K CW CS vs H Q E):vs.length=3:=by obtain ⟨_,_,_,_,_,_,_,_,_,_,_,rfl,_⟩:=h;rfl
def iS (_:PySem.W.Frag):Sp:=fun vs H Q _=> ∃(wt:Addr) (ws:List (List Nat)) (band:Nat),vs=[.ref wt, .str (S [band])]/\H wt=some (.tup (ve ws))/\ws.length<=4/\(∀w∈ws,(∀c∈w,Lt c)/\w.length<=12)/\band∈aM/\ ∀(q:Addr) (ps:List Pr) (H':Hp),H q=none->H' q=some (.lst (pJ ps))->(∀p∈ps,lD H' p)->ps.map Pr.pair=cD band ws ws.length->au H H'->Q (.ref q) H'
theorem m7 {K:PySem.W.Frag} {vs:List V} {H:Hp} {Q:VK} {E:XK} (h:iS K vs H Q E):vs.length=2:=by obtain ⟨c,_,_,rfl,_⟩:=h;rfl
open Classical in
noncomputable def G9 (w:List Nat):Nat:=if h: ∃s,bA w s then choose h else 0
theorem m8 {w:List Nat} (hn:w≠[]):bA w (G9 w):=by
 have h:=w_ hn
 unfold G9
 rw[dif_pos h]
 exact Classical.choose_spec h
theorem Bv {y w:List Nat} {r q:Nat} (hy:Yd y) (hw:SW y w) (h:bA w r) (g:bA (gm w) q):q=r:=by
 have hn:=hw.ne
 have ht:=mX hn
 have p1:=hX hn h
 have p2:=hX ht g
 have key: ∀d:Nat,(d:Int)%(r:Int)=0↔(d:Int)%(q:Int)=0:=fun d=>by
  have a:=(fg hn h).2 d 0
  have b:=(fg ht g).2 d 0
  rw[VR]at a b
  rw[<-a, <-b]
  constructor
  ·intro p k
   rw[iG hn,iG hn]
   unfold bq
   have:=p (-1 - (d:Int) - k)
   unfold sq at this
   have e1:rd w (-1 - (0:Int) - k)=rd w ((d:Int)+(-1 - (d:Int) - k)):=by congr 1;omega
   have e2:rd w (-1 - (d:Int) - k)=rd w (0+(-1 - (d:Int) - k)):=by congr 1;omega
   rw[e1,e2,this]
  ·intro p k
   have e: ∀x:Int,rd w x=ao (rd (gm w) (-1 - x)):=fun x=>by
    rw[kh hn,show -1 - (-1 - x)=x by omega,aG (hy.lt _ (hw.rd _))]
   unfold sq
   rw[e,e]
   have:=p (-1 - (d:Int) - k)
   unfold sq at this
   rw[show -1 - ((d:Int)+k)=0+(-1 - (d:Int) - k) by omega, <-this]
   congr 2
   omega
 have a:=(key r).mp (WT)
 have b:=(key q).mpr (WT)
 have a':r%q=0:=by
  have:((r%q:Nat):Int)=0:=by rw[<-a];rfl
  omega
 have b':q%r=0:=by
  have:((q%r:Nat):Int)=0:=by rw[<-b];rfl
  omega
 exact Wb (VY (by omega) (Vr a')) (VY (by omega) (Vr b'))
noncomputable def Bw (ws:List (List Nat)) (c:Nat):Bool:=leads (ws.getD c [])
noncomputable def Bx (ws:List (List Nat)) (c:Nat):Nat:=G9 (ws.getD c [])
noncomputable def Mw (y:List Nat) (ws:List (List Nat)) (M:Nat) (x:Nat×Nat):List Int:=b9 y ws (Bw ws) (Bx ws) M x.1 x.2
theorem vO.line {y w:List Nat} {c i:Nat} {s:Sn} (hy:Yd y) (hw:SW y w) (hi:i<w.length) (h:vO w c i s):sq s.u s.p=jW w i:=by
 rw[h.eu,h.ep]
 unfold jW
 by_cases z:aA (rd w i)=true
 ·rw[if_pos z,if_pos z,if_pos z]
 ·rw[if_neg z,if_neg z,if_neg z, <-GC hw.ne,show ((w.length - 1 - i:Nat):Int)=(w.length:Int) - 1 - i by omega]
theorem xG {y w:List Nat} {ws:List (List Nat)} {c i M:Nat} {s:Sn} (hy:Yd y) (hw:SW y w) (hi:i<w.length) (e:ws.getD c []=w) (h:vO w c i s) (rt:bA s.u s.r):iO y M s=Mw y ws M (c,i):=by
 unfold iO Mw b9
 rw[h.line hy hw hi]
 simp only[e]
 congr 1
 unfold vN Cs Bw Bx
 rw[e,h.ec]
 have p_:=m8 hw.ne
 by_cases z:aA (rd w i)=true
 ·have eu:s.u=w:=by rw[h.eu,if_pos z]
  have ep:s.p=i:=by rw[h.ep,if_pos z]
  rw[eu]at rt ⊢
  have er:=AD hw.ne rt p_
  rw[er,ep,z]
  by_cases l:leads w=true
  ·rw[if_pos l,l];rfl
  ·rw[if_neg l,if_neg (fun q=>l q.symm)];rfl
 ·have eu:s.u=gm w:=by rw[h.eu,if_neg z]
  have ep:s.p=w.length - 1 - i:=by rw[h.ep,if_neg z]
  rw[eu]at rt ⊢
  have er:=Bv hy hw p_ rt
  have z':aA (rd w i)=false:=by simpa using z
  rw[er,ep,z',pH hy hw,b7]
  have ei:w.length - 1 - (w.length - 1 - i)=i:=by omega
  rw[ei]
  cases leads w<;>rfl
theorem vO.band {y w:List Nat} {c i band:Nat} {s:Sn} (hy:Yd y) (hw:SW y w) (hi:i<w.length) (hb:band∈aM) (ho:vE band (rd w i)=true) (h:vO w c i s):rd s.u s.p=band:=by
 have lb:Lt band:= .inl hb
 have lo:aA band=true:=by rw[iB lb];exact decide_eq_true hb
 have CD:rd w i=band\/rd w i=ao band:=by
  unfold vE at ho
  simpa using ho
 rw[h.eu,h.ep]
 rcases CD with e | e
 ·rw[if_pos (by rw[e];exact lo),if_pos (by rw[e];exact lo)]
  exact e
 ·have z: ¬aA (rd w i)=true:=by rw[e,eO _ lb.mem,lo];decide
  rw[if_neg z,if_neg z,kh hw.ne,show -1 - ((w.length - 1 - i:Nat):Int)=i - w.length by omega,vh,e,aG lb]
def Bz (y:List Nat) (ws:List (List Nat)) (M:Nat) (l:List (Nat×Nat)):Prop:=l.Pairwise fun s t=>bu (Mw y ws M t) (Mw y ws M s)=false
def iT (_:PySem.W.Frag) (CW CS:Addr):Sp:=fun vs H Q _=> ∃(y:List Nat) (lg:Nat) (wt vt:Addr) (ws:List (List Nat)) (jX:List Wp) (band:Nat),vs=[.ref wt, .ref vt, .str (S [band])]/\Yd y/\y.length<=8/\H wt=some (.tup (ve ws))/\ws.length<=4/\(∀w∈ws,SW y w/\w.length<=12)/\band∈aM/\H vt=some (.lst (Cw jX))/\jX.length=ws.length/\(∀(c:Nat) (w:List Nat) (p:Wp),ws[c]? =some w->jX[c]? =some p->q_ H CW y lg w p)/\
 ∀(q:Addr) (ps:List Pr) (H':Hp),H q=none->H' q=some (.tup (pJ ps))->(∀p∈ps,lD H' p)->(ps.map Pr.pair).Perm (cD band ws ws.length)->Bz y ws (2*lg) (ps.map Pr.pair)->au H H'->Q (.ref q) H'
theorem m9 {K:PySem.W.Frag} {CW CS:Addr} {vs:List V} {H:Hp} {Q:VK} {E:XK} (h:iT K CW CS vs H Q E):vs.length=3:=by obtain ⟨_,_,_,_,_,_,_,rfl,_⟩:=h;rfl
theorem G_ {y:List Nat} {M:Nat} {ss:List Sn} {t:Sn} {n:Nat} (up:yY y M ss) (h1: ∀k s,ss[k]? =some s->k<n->bu (iO y M s) (iO y M t)=true) (h2: ∀k s,ss[k]? =some s->n<=k->bu (iO y M s) (iO y M t)=false):yY y M (ss.take n++t::ss.drop n):=by
 have tk: ∀s∈ss.take n,bu (iO y M s) (iO y M t)=true:=fun s hs=>by
  obtain ⟨k,hk,e⟩:=VO hs
  rw[T4]at hk
  rw[List.getElem_take]at e
  exact h1 k s (by rw[<-e];exact FW (by omega)) (by omega)
 have dr: ∀s∈ss.drop n,bu (iO y M s) (iO y M t)=false:=fun s hs=>by
  obtain ⟨k,hk,e⟩:=VO hs
  rw[T6]at hk
  rw[List.getElem_drop]at e
  exact h2 (n+k) s (by rw[<-e];exact FW (by omega)) (by omega)
 have Oj:yY y M (ss.take n++ss.drop n):=by rw[UK];exact up
 unfold yY at Oj ⊢
 rw[U4]at Oj ⊢
 rw[UX]
 obtain ⟨u1,u2,u3⟩:=Oj
 refine ⟨u1,⟨fun s hs=>dr s hs,u2⟩,fun a ha b hb=>?_⟩
 rcases QS.mp hb with e | e
 ·rw[e];exact (ki (tk a ha)).1
 ·exact u3 a ha b e
theorem h7 (band:Nat) {ws:List (List Nat)} (hw: ∀w∈ws,w.length<=12): ∀n,n<=ws.length->(cD band ws n).length<=12*n
 | 0,_=>Ti _
 | n+1,h=>by
  have ih:=h7 band hw n (by omega)
  unfold cD at ih ⊢
  rw[UG,Uw,Tn,Vu]
  have h1:(gD band n (ws.getD n []) (ws.getD n []).length).length<=12:=by
   unfold gD
   rw[HX]
   refine Ug (Wg _ _) ?_
   rw[Vh]
   exact hw _ (getD_in (by omega))
  omega
theorem vP {band:Nat} {ws:List (List Nat)} {x:Nat×Nat} (h:x∈cD band ws ws.length): ∃w,ws[x.1]? =some w/\x.2<w.length/\vE band (rd w x.2)=true:=by
 unfold cD at h
 obtain ⟨c,hc,h⟩:=Uo.mp h
 have rK:=Ux.mp hc
 unfold gD at h
 obtain ⟨i,hi,e⟩:=T3.mp h
 obtain ⟨i1,i2⟩:=Uq.mp hi
 have PM:=Ux.mp i1
 subst e
 refine ⟨ws.getD c [],by rw[QQ,FW rK];rfl,PM,?_⟩
 have:(ws.getD c []).getD i 0=rd (ws.getD c []) i:=by
  have:=kf PM
  rw[QQ,this];rfl
 show vE band (rd (ws.getD c []) i)=true
 rw[<-this]
 exact i2
theorem pV {H H':Hp} {x dx C:Addr} (nx:H x=none) (Ha:H dx=none) (sm:aW x (L2.upd (L2.upd H dx (.own x)) x (.ins C dx [])) H'):au H H':=fun a o e=>by
 refine sm a o ?_ (aq e nx)
 rw[az (aq e nx),az (aq e Ha)]
 exact e
noncomputable def DX (ws:List (List Nat)):List Int:=ws.map fun w=>(w.length:Int)
theorem DY (l:List Int): ∀a:Int,a<=l.foldl (fun x y=>if y>x then y else x) a/\(∀x∈l,x<=l.foldl (fun x y=>if y>x then y else x) a)/\(l.foldl (fun x y=>if y>x then y else x) a=a\/l.foldl (fun x y=>if y>x then y else x) a∈l):=by
 induction l with
 | nil=>exact fun a=>⟨Int.le_refl _,fun _ h=>absurd h Uh, .inl rfl⟩
 | cons b r ih=>
  intro a
  rw[VM]
  obtain ⟨h1,h2,h3⟩:=ih (if b>a then b else a)
  have h4:a<=(if b>a then b else a)/\b<=(if b>a then b else a):=by split<;>omega
  refine ⟨by omega,fun x hx=>?_,?_⟩
  ·rcases QS.mp hx with e | e
   ·rw[e];omega
   ·exact h2 x e
  ·rcases h3 with e | e
   ·rw[e]
    split
    ·exact .inr TR
    ·exact .inl rfl
   ·exact .inr (Tj _ e)
theorem vQ {ws:List (List Nat)} (h: ∀w∈ws,w.length<=12): ∃lg:Nat,Gv 0 (DX ws)=lg/\lg<=12/\ ∀w∈ws,w.length<=lg:=by
 cases ws with
 | nil=>exact ⟨0,rfl,by decide,fun _ h=>absurd h Uh⟩
 | cons v r=>
  obtain ⟨h1,h2,h3⟩:=DY (DX r) (v.length:Int)
  have e:Gv 0 (DX (v::r))=(DX r).foldl (fun x y=>if y>x then y else x) (v.length:Int):=rfl
  rw[e]
  generalize (DX r).foldl (fun x y=>if y>x then y else x) (v.length:Int)=m at*
  have hm: ∃w∈v::r,m=(w.length:Int):=by
   rcases h3 with q | q
   ·exact ⟨v,TR,q⟩
   ·obtain ⟨w,hw,e'⟩:=T3.mp q
    exact ⟨w,Tj _ hw,e'.symm⟩
  obtain ⟨w,hw,rfl⟩:=hm
  refine ⟨w.length,rfl,h w hw,fun u hu=>?_⟩
  rcases QS.mp hu with q | q
  ·rw[q];omega
  ·have:=h2 _ (T3.mpr ⟨u,q,rfl⟩)
   omega
def lZ (y:List Nat) (ws:List (List Nat)) (os:List Od):Prop:= ∃M,(∀w∈ws, ∀v∈ws,w.length+v.length<=M)/\tH y ws os/\ ∀o∈os,Bz y ws M (o.ps.map Pr.pair)
def xH (_:PySem.W.Frag):Sp:=fun vs H Q _=> ∃(y:List Nat) (wt:Addr) (ws:List (List Nat)),vs=[.str (S y), .ref wt]/\Yd y/\y.length<=8/\H wt=some (.tup (ve ws))/\ws.length<=4/\(∀w∈ws,SW y w/\w.length<=12)/\ ∀(dr:Addr) (os:List Od) (H':Hp),vC H' dr ws os->lZ y ws os->au H H'->Q (.ref dr) H'
theorem BA {K:PySem.W.Frag} {vs:List V} {H:Hp} {Q:VK} {E:XK} (h:xH K vs H Q E):vs.length=2:=by obtain ⟨_,_,_,rfl,_⟩:=h;rfl
theorem DZ {H:Hp} {C:Addr} {y:List Nat} {lg i:Nat} {ws:List (List Nat)} {jX:List Wp} {w:List Nat} {p:Wp} (hl:jX.length=i) (h: ∀(c:Nat) (w:List Nat) (p:Wp),ws[c]? =some w->jX[c]? =some p->q_ H C y lg w p) (hw:ws[i]? =some w) (hp:q_ H C y lg w p): ∀(c:Nat) (w:List Nat) (q:Wp),ws[c]? =some w->(jX++[p])[c]? =some q->q_ H C y lg w q:=fun c v q hv hq=>by
 by_cases z:c<jX.length
 ·rw[U1 z]at hq
  exact h c v q hv hq
 ·rw[UZ (by omega)]at hq
  have:c=i:=by
   have:=(FX.mp hq).1
   simp at this
   omega
  subst this
  rw[hl,Nat.sub_self]at hq
  rw[hw]at hv
  cases hv
  cases hq
  exact hp
theorem tR {y:List Nat} (h:Yd y) {b:Nat} (hb:b∈eR y):b∈aM:=by
 obtain ⟨h1,h2⟩:=Uq.mp ((iH y).mem_iff.mp hb)
 rw[iB (h.lt b h1)]at h2
 exact of_decide_eq_true h2
theorem BB {y:List Nat} {ws:List (List Nat)} {L:Nat->Bool} {r:Nat->Nat} {M:Nat} (h:dA y ws L r M) {c i d j x:Nat} (hc:c<ws.length) (hd:d<ws.length) (hi:i<(ws.getD c []).length) (hj:j<(ws.getD d []).length) (fD:(c,i)≠(d,j)) (hx:aA x=true) (e1:rd (ws.getD c []) i=x\/rd (ws.getD c []) i=ao x) (e2:rd (ws.getD d []) j=x\/rd (ws.getD d []) j=ao x):
  bu (b9 y ws L r M c i) (b9 y ws L r M d j)=true\/bu (b9 y ws L r M d j) (b9 y ws L r M c i)=true:=by
 have hw:=h.sw c hc
 have hv:=h.sw d hd
 have hy:=h.yd
 have lw:=Pe.mpr hw.ne
 have lv:=Pe.mpr hv.ne
 have xs: ∀{w:List Nat} {k:Nat},SW y w->(rd w k=x\/rd w k=ao x)->Lt x:=fun {w k} hw e=>by
  have h9:97<=x/\x<=122:=by unfold aA at hx;simpa using hx
  refine .inl ?_
  have: ∀k,k<26->k+97∈aM:=by decide
  have h8:=this (x - 97) (by omega)
  rwa [show x - 97+97=x by omega]at h8
 have lx:=xs hw e1
 have vv: ∀{w:List Nat} {k:Nat},SW y w->Dl w k (jW w k)/\((rd w k=x\/rd w k=ao x)->jW w k 0=x)/\(jW w k=if aA (rd w k)=true then sq w k else bq w k):=fun {w k} hw=>by
  refine ⟨?_,fun e=>?_,rfl⟩
  ·unfold jW
   by_cases z:aA (rd w k)=true
   ·rw[if_pos z];exact .inl rfl
   ·rw[if_neg z];exact .inr rfl
  ·unfold jW
   rcases e with e | e
   ·rw[if_pos (by rw[e];exact hx)]
    unfold sq
    rw[Vw];exact e
   ·have z: ¬aA (rd w k)=true:=by rw[e,eO _ lx.mem,hx];decide
    rw[if_neg z]
    unfold bq
    rw[VR,e,aG lx]
 obtain ⟨df,f0,fe⟩:=vv (k:=i) hw
 obtain ⟨RM,g0,ge⟩:=vv (k:=j) hv
 have lf:=df.vv hy hw
 have lg:=RM.vv hy hv
 by_cases par: ∀k,jW (ws.getD c []) i k=jW (ws.getD d []) j k
 ·unfold b9
  rw[show jW (ws.getD c []) i=jW (ws.getD d []) j from funext par,dZ,dZ]
  by_cases cd:c=d
  ·subst cd
   have ij:i≠j:=fun z=>fD (by rw[z])
   obtain ⟨h1,h2⟩:=h.root hc
   have hr:=h.rp c hc
   -- one and Cj same way
   have low:aA (rd (ws.getD c []) i)=aA (rd (ws.getD c []) j):=by
    by_cases z1:aA (rd (ws.getD c []) i)=true<;>by_cases z2:aA (rd (ws.getD c []) j)=true
    ·rw[z1,z2]
    ·exfalso
     rw[fe,ge,if_pos z1,if_neg z2]at par
     exact qM hy hw _ _ par
    ·exfalso
     rw[fe,ge,if_neg z1,if_pos z2]at par
     exact qM hy hw _ _ fun k=>(par k).symm
    ·rw[show aA (rd (ws.getD c []) i)=false by simpa using z1,show aA (rd (ws.getD c []) j)=false by simpa using z2]
   have ps:bE (ws.getD c []) (ws.getD c []) i j:=by
    by_cases z1:aA (rd (ws.getD c []) i)=true
    ·have z2:aA (rd (ws.getD c []) j)=true:=by rw[<-low];exact z1
     rw[fe,ge,if_pos z1,if_pos z2]at par
     exact par
    ·have z2: ¬aA (rd (ws.getD c []) j)=true:=by rw[<-low];exact z1
     rw[fe,ge,if_neg z1,if_neg z2]at par
     have e:=congrArg iN (funext par)
     rw[<-dY, <-dY,kU hy (aQ hw _),kU hy (aQ hw _)]at e
     exact fun k=>congrFun e k
   have q:=(h.rr c hc _ _).mp ps
   have DG:i%r c=j%r c:=by
    have q2:=Int.emod_eq_emod_iff_emod_sub_eq_zero.mpr q
    have q3:((i%r c:Nat):Int)=((j%r c:Nat):Int):=q2
    omega
   have k1:= @vw (ws.getD c []).length _ (r c) c i j (L c) (aA (rd (ws.getD c []) j)) hr h1 hi hj DG ij
   have k2:= @vw (ws.getD c []).length _ (r c) c j i (L c) (aA (rd (ws.getD c []) j)) hr h1 hj hi DG.symm (Ne.symm ij)
   rw[low]
   by_cases z:aA (rd (ws.getD c []) j)=true
   ·rw[if_pos z]at k1 k2
    rw[k1,k2,decide_eq_true_iff,decide_eq_true_iff]
    omega
   ·rw[if_neg z]at k1 k2
    rw[k1,k2,decide_eq_true_iff,decide_eq_true_iff]
    omega
  ·have hl:L d=if aA (rd (ws.getD d []) j)=aA (rd (ws.getD c []) i) then L c else !L c:=by
    by_cases z1:aA (rd (ws.getD c []) i)=true<;>by_cases z2:aA (rd (ws.getD d []) j)=true
    ·rw[z1,z2,if_pos rfl]
     rw[fe,ge,if_pos z1,if_pos z2]at par
     exact (h.l1 c d i j hc hd par).symm
    ·rw[if_neg (fun q=>z2 (q.trans z1))]
     rw[fe,ge,if_pos z1,if_neg z2]at par
     exact h.l2 c d i j hc hd par
    ·rw[if_neg (fun q=>z1 (q.symm.trans z2))]
     rw[fe,ge,if_neg z1,if_pos z2]at par
     have:=h.l2 d c j i hd hc fun k=>(par k).symm
     rw[this,Bool.not_not]
    ·rw[show aA (rd (ws.getD c []) i)=false by simpa using z1,show aA (rd (ws.getD d []) j)=false by simpa using z2,if_pos rfl]
     rw[fe,ge,if_neg z1,if_neg z2]at par
     have e:=congrArg iN (funext par)
     rw[<-dY, <-dY,kU hy (aQ hw _),kU hy (aQ hv _)]at e
     exact (h.l1 c d i j hc hd fun k=>congrFun e k).symm
   have zX:= @qQ (ws.getD c []).length (ws.getD d []).length (r c) (r d) c d i j (L c) (aA (rd (ws.getD c []) i)) (aA (rd (ws.getD d []) j)) cd
   have wo:L c=if aA (rd (ws.getD c []) i)=aA (rd (ws.getD d []) j) then L d else !L d:=by
    rw[hl]
    cases aA (rd (ws.getD d []) j)<;>cases aA (rd (ws.getD c []) i)<;>cases L c<;>rfl
   have GY:= @qQ (ws.getD d []).length (ws.getD c []).length (r d) (r c) d c j i (L d) (aA (rd (ws.getD d []) j)) (aA (rd (ws.getD c []) i)) (Ne.symm cd)
   rw[<-hl]at zX
   rw[<-wo]at GY
   rw[zX,GY,hl]
   cases aA (rd (ws.getD d []) j)<;>cases aA (rd (ws.getD c []) i)<;>cases L c<;>simp<;>omega
 ·have qR: ∃k,jW (ws.getD c []) i k≠jW (ws.getD d []) j k:=Classical.byContradiction fun z=>par fun k=>Classical.byContradiction fun w=>z ⟨k,w⟩
  have Lj: ∀{w:List Nat} {k:Nat} (z:Int),jW w k (z+w.length)=jW w k z:=fun {w k} z=>by
   unfold jW
   split
   ·exact bX w k z
   ·exact kg w k z
  obtain ⟨a,b,rn,ha,hb⟩:=cP lw lv Lj Lj ((f0 e1).trans (g0 e2).symm) qR
  have big:=h.big c d hc hd
  unfold b9
  rw[ko hy lf lg rn _ _ M 0 (Ti _) (Ti _) (by omega) (by omega),ko hy lg lf rn.sy _ _ M 0 (Ti _) (Ti _) (by omega) (by omega),AO hy lf lg (rn.kj a (by omega) (by omega)) rn.hi,vy hy lf lg (rn.kj _ (by omega) (by omega)) rn.lo]
  by_cases z:a<=b
  ·rw[if_pos z,if_pos z]
   cases fE y (jW (ws.getD c []) i) (jW (ws.getD d []) j) a
   ·exact .inr rfl
   ·exact .inl rfl
  ·rw[if_neg z,if_neg z]
   cases fK y (jW (ws.getD c []) i) (jW (ws.getD d []) j) b
   ·exact .inr rfl
   ·exact .inl rfl
theorem BC {y:List Nat} {ws:List (List Nat)} {os:List Od} (hy:Yd y) (hw: ∀w∈ws,SW y w) (h:lZ y ws os): ∃M,dA y ws (Bw ws) (Bx ws) M/\A9 y ws (Bw ws) (Bx ws) M os:=by
 obtain ⟨M,hM,ok,up⟩:=h
 have hs: ∀c,c<ws.length->SW y (ws.getD c []):=fun c hc=>hw _ (getD_in hc)
 have hC:dA y ws (Bw ws) (Bx ws) M:=AW hy hs (fun c hc=>m8 (hs c hc).ne) fun c d hc hd=>hM _ (getD_in hc) _ (getD_in hd)
 refine ⟨M,hC,ok,fun o ho=>?_⟩
 obtain ⟨j,hj,ej⟩:=VO ho
 have D0:j<(eR y).length:=by rw[<-ok.1];exact hj
 have pm:=ok.2 j o (eR y)[j] (by rw[FW hj,ej]) (FW D0)
 have bs:=tR hy (Uy D0)
 have lb:Lt (eR y)[j]:= .inl bs
 have lo:aA (eR y)[j]=true:=by rw[iB lb];exact decide_eq_true bs
 have nd:(o.ps.map Pr.pair).Nodup:=pm.nodup_iff.mpr (pM _ _ _)
 have u:=up o ho
 unfold Bz at u
 refine Vq (fun {s t} h1 h2 h=>?_) (List.Pairwise.and u nd)
 obtain ⟨w1,e1,i1,o1⟩:=vP (pm.mem_iff.mp h1)
 obtain ⟨w2,e2,i2,o2⟩:=vP (pm.mem_iff.mp h2)
 have c1:=(FX.mp e1).1
 have c2:=(FX.mp e2).1
 have g1:ws.getD s.1 []=w1:=by rw[QQ,e1];rfl
 have g2:ws.getD t.1 []=w2:=by rw[QQ,e2];rfl
 have on: ∀{l:Nat},vE (eR y)[j] l=true->l=(eR y)[j]\/l=ao (eR y)[j]:=fun {l} q=>by unfold vE at q;simpa using q
 have tr:=BB hC (c:=s.1) (i:=s.2) (d:=t.1) (j:=t.2) c1 c2 (by rw[g1];exact i1) (by rw[g2];exact i2) h.2 lo (by rw[g1];exact on o1) (by rw[g2];exact on o2)
 rcases tr with q | q
 ·exact q
 ·have hf:bu (b9 y ws (Bw ws) (Bx ws) M t.1 t.2) (b9 y ws (Bw ws) (Bx ws) M s.1 s.2)=false:=h.1
  rw[hf]at q
  cases q
theorem BD {α β:Type} (p:β->β->Bool) (f:α->β): ∀l:List α,cl p (l.map f)=cl (fun a b=>p (f a) (f b)) l
 | []=>rfl
 | a::l=>by
  show ((l.map f).filter (p (f a))).length+cl p (l.map f)=(l.filter fun b=>p (f a) (f b)).length+cl _ l
  rw[BD p f l,List.filter_map,HX]
  rfl
theorem tT {α:Type} {p q:α->α->Bool}: ∀{l:List α},l.Pairwise (fun a b=>p a b=q a b)->cl p l=cl q l
 | [],_=>rfl
 | a::l,h=>by
  rw[UX]at h
  show (l.filter (p a)).length+cl p l=(l.filter (q a)).length+cl q l
  rw[tT h.2,WA fun b hb=>h.1 b hb]
theorem BE {a b a' b':Nat} (h1:a<b) (h2:a'<b') (h4:a<a') (h5:b≠a') (h6:b≠b'):(iI (a,b) (a',b')||iI (a',b') (a,b))=lC a b a' b':=by
 have g4:=Vl h4 h2
 rw[AH (TY h1) (TY h4) (TY g4) h5 h6]
 unfold iI
 rw[decide_eq_true h4,decide_eq_true g4,decide_eq_false (VQ h4),iE (Ne.symm h6)]
 have k:decide (b'<b)=true->decide (a'<b)=true:=fun q=>decide_eq_true (Vl h2 (of_decide_eq_true q))
 revert k
 generalize decide (a'<b)=p
 generalize decide (b'<b)=q
 revert p q
 decide
theorem ra {a b a' b':Nat} (h1:a<b) (h2:a'<b') (h3:a≠a') (h4:a≠b') (h5:b≠a') (h6:b≠b'):(iI (a,b) (a',b')||iI (a',b') (a,b))=lC a b a' b':=by
 rcases Va h3 with q | q
 ·exact BE h1 h2 q h5 h6
 ·rw[Bool.or_comm,BE h2 h1 q (Ne.symm h4) (Ne.symm h6),jI (TY h2) (TY h1) (Ne.symm h3) (Ne.symm h5) (Ne.symm h4) (Ne.symm h6)]
theorem D1 {a b a' b':Nat} (h1:a≠b) (h2:a'≠b') (h3:a≠a') (h4:a≠b') (h5:b≠a') (h6:b≠b'):(iI (min a b,max a b) (min a' b',max a' b')||iI (min a' b',max a' b') (min a b,max a b))=lC a b a' b':=by
 rcases Va h1 with q | q<;>rcases Va h2 with r | r
 ·rw[UE (Um q),Vk (Um q),UE (Um r),Vk (Um r)]
  exact ra q r h3 h4 h5 h6
 ·rw[UE (Um q),Vk (Um q),UI (Um r),Vf (Um r),g5]
  exact ra q r h4 h3 h6 h5
 ·rw[UI (Um q),Vf (Um q),UE (Um r),Vk (Um r), <-tu h1 h2 h3 h4 h5 h6]
  exact ra q r h5 h6 h3 h4
 ·rw[UI (Um q),Vf (Um q),UI (Um r),Vf (Um r), <-tu h1 h2 h3 h4 h5 h6,g5]
  exact ra q r h6 h5 h4 h3
section
variable {y:List Nat} {ws:List (List Nat)} {L:Nat->Bool} {r:Nat->Nat} {M:Nat}
noncomputable def jc (ps:List (Nat×Nat×Nat)) (c i e:Nat):Nat:=ps.idxOf (c,i,e)
theorem D4 {n i:Nat} (h:i<n):g7 n ((i:Int) - 1)=uk n i/\g7 n (i:Int)=i:=by
 have h1:=du (n:=n) (by omega) ((i:Int) - 1)
 have h2:=du (n:=n) (by omega) (i:Int)
 rw[xq h]at h1
 rw[Ue (by omega) (by omega)]at h2
 omega
theorem jR {ps:List (Nat×Nat×Nat)} {c i:Nat} (hi:i<(ws.getD c []).length):(fZ ps c (ws.getD c []) i).2.2.1=pI ws (jc ps) c ((i:Int) - 1)/\(fZ ps c (ws.getD c []) i).2.2.2=pO ws (jc ps) c i:=by
 obtain ⟨e1,e2⟩:=D4 hi
 have g: ∀k,k<(ws.getD c []).length->(ws.getD c []).getD k 0=rd (ws.getD c []) k:=fun k hk=>by
  rw[QQ,kf hk];rfl
 have fD:ws.getD c []≠[]:=fun z=>by rw[z]at hi;exact absurd hi (VI _)
 unfold fZ pI pO jc
 rw[e1,e2,g _ (vI hi),g _ hi]
 refine ⟨?_,rfl⟩
 have:rd (ws.getD c []) (uk (ws.getD c []).length i:Nat)=rd (ws.getD c []) ((i:Int) - 1):=by rw[<-e1,bJ fD]
 rw[this]
theorem iJ (ps:List (Nat×Nat×Nat)) (ws:List (List Nat)): ∀n,fF ps ws n=(s_ ws n).map fun x=>fZ ps x.1 (ws.getD x.1 []) x.2
 | 0=>rfl
 | n+1=>by
  have ih:=iJ ps ws n
  unfold fF at ih ⊢
  unfold s_
  rw[UG,Uw,ih,QT,Vu,Us]
  rfl
theorem vR (ws:List (List Nat)) (n:Nat):(s_ ws n).Nodup:=(w6 n).imp fun {a b} h z=>by
 rw[z]at h
 unfold Cq at h
 simp at h
theorem jS (h:dA y ws L r M) {ps:List (Nat×Nat×Nat)} (hN:Lies y ws L r M (jc ps)) (l:List (Nat×Nat)) (hl:l.Nodup) (rP: ∀x∈l,x.1<ws.length/\x.2<(ws.getD x.1 []).length):(cQ (l.map fun x=>fZ ps x.1 (ws.getD x.1 []) x.2)).Nodup:=by
 unfold cQ
 induction l with
 | nil=>exact List.Pairwise.nil
 | cons x t ih=>
  rw[UA]at hl
  rw[TV,Uj,UP]
  obtain ⟨x1,x2⟩:=rP x TR
  have ex:=jR (ps:=ps) (ws:=ws) (c:=x.1) x2
  refine ⟨?_,ih hl.2 fun z hz=>rP z (Tj _ hz),fun a ha b hb e=>?_⟩
  ·rw[ex.1,ex.2,UA]
   exact ⟨by simpa using (dv h hN x1 x1 x2 x2).1,by simp⟩
  ·obtain ⟨c4,Ol,ET⟩:=Uo.mp hb
   obtain ⟨z,hz,rfl⟩:=T3.mp Ol
   obtain ⟨z1,z2⟩:=rP z (Tj _ hz)
   have ez:=jR (ps:=ps) (ws:=ws) (c:=z.1) z2
   have fD:(x.1,x.2)≠(z.1,z.2):=fun q=>hl.1 (by
    have:x=z:=Prod.ext (Prod.mk.inj q).1 (Prod.mk.inj q).2
    rw[this];exact hz)
   have n1:=dv h hN x1 z1 x2 z2
   have n2:=dv h hN z1 x1 z2 x2
   rw[ex.1,ex.2]at ha
   rw[ez.1,ez.2]at ET
   have PN:a=pI ws (jc ps) x.1 ((x.2:Int) - 1)\/a=pO ws (jc ps) x.1 x.2:=by simpa using ha
   have rM:b=pI ws (jc ps) z.1 ((z.2:Int) - 1)\/b=pO ws (jc ps) z.1 z.2:=by simpa using ET
   rw[e]at PN
   rcases PN with p | p<;>rcases rM with q | q<;>rw[p]at q
   ·exact (n1.2 fD).1 q
   ·exact n1.1 q
   ·exact n2.1 q.symm
   ·exact (n1.2 fD).2 q
theorem jT (h:dA y ws L r M) {ps:List (Nat×Nat×Nat)} (hN:Lies y ws L r M (jc ps)) (l:List (Nat×Nat)) (hl:l.Nodup) (rP: ∀x∈l,x.1<ws.length/\x.2<(ws.getD x.1 []).length):cl (fun x z=>iI x z||iI z x) (iR (l.map fun x=>fZ ps x.1 (ws.getD x.1 []) x.2))=cl (EY ws (jc ps)) l:=by
 unfold iR
 rw[Us,BD]
 refine tT (Vq (fun {a b} ha hb uj=>?_) hl)
 obtain ⟨a1,a2⟩:=rP a ha
 obtain ⟨b1,b2⟩:=rP b hb
 have ea:=jR (ps:=ps) (ws:=ws) (c:=a.1) a2
 have eb:=jR (ps:=ps) (ws:=ws) (c:=b.1) b2
 have fD:(a.1,a.2)≠(b.1,b.2):=uj
 have n1:=dv h hN a1 b1 a2 b2
 have n2:=dv h hN b1 a1 b2 a2
 have n3:=dv h hN a1 a1 a2 a2
 have n4:=dv h hN b1 b1 b2 b2
 show (iI (min _ _,max _ _) (min _ _,max _ _)||iI (min _ _,max _ _) (min _ _,max _ _))=EY ws (jc ps) a b
 rw[ea.1,ea.2,eb.1,eb.2,D1 n3.1 n4.1 (n1.2 fD).1 n1.1 (Ne.symm n2.1) (n1.2 fD).2]
 rfl
end
noncomputable def kr (w:List Nat):Int:=((w.length / G9 w:Nat):Int)
theorem tU {w v:List Nat} (hw:w≠[]) (hv:v≠[]) (e: ∀d:Int,bE w w d 0↔bE v v d 0):G9 w=G9 v:=yP hw hv (m8 hw) (m8 hv) e
theorem m_ {w:List Nat} {n:Nat} (hn:n<=w.length):(da w n).length=w.length:=by
 unfold da
 rw[Tn,T6,T4,UE hn,Nat.sub_add_cancel hn]
theorem Hb {w v:List Nat} (h:w≠[]) (e:v.length=w.length):v≠[]:=fun z=>h (UD.mp (by rw[<-e,z];rfl))
theorem Hc {w:List Nat} (hw:w≠[]) {n:Nat} (hn:n<=w.length):kr (da w n)=kr w:=by
 unfold kr
 rw[m_ hn,tU (Hb hw (m_ hn)) hw (DK hw hn)]
theorem Hd {y z w:List Nat} {σ:Nat->Nat} {neg:Bool} (T:qY y z σ neg) (hw:SW y w):kr (w.map σ)=kr w:=by
 unfold kr
 rw[HX,tU (T.sw hw).ne hw.ne (DL T hw)]
noncomputable def tV (y w:List Nat):Int:=SS y w w+2*(kr w - 1)
noncomputable def BF (y:List Nat) (ws:List (List Nat)):Int:=sm ws.length (fun c=>tV y (ws.getD c.toNat []))+2*rO ws.length (fun c d=>SS y (ws.getD c.toNat []) (ws.getD d.toNat []))
theorem He (h:Int->Int) (n:Nat):2*sm n h=sm n fun i=>2*h i:=by
 rw[show (fun i=>2*h i)=fun i=>h i+h i from funext fun i=>Int.two_mul _,mU,Int.two_mul]
theorem Hf {y:List Nat} {ws:List (List Nat)} {M:Nat} {N:Nat->Nat->Nat->Nat} (h:dA y ws (Bw ws) (Bx ws) M) (hN:Lies y ws (Bw ws) (Bx ws) M N):2*(cl (EY ws N) (places ws):Int)=BF y ws:=by
 unfold places BF
 rw[AS,Int.mul_add,He]
 congr 1
 ·refine aF fun c hc=>?_
  rw[Pj]
  have a:=AN h hN hc
  rw[AX h.yd (h.sw c hc) (h.sw c hc)]at a
  rw[show rO (ws.getD c []).length (fun i j=>one (EY ws N (c,i.toNat) (c,j.toNat)=true))=rO (ws.getD c []).length (fun i j=>one (gL (pO ws N c) (pI ws N c) (pO ws N c) (pI ws N c) i j=true)) from ku fun i j _ _=>by
   unfold EY
   rw[Pj,Pj],a]
  rfl
 ·congr 1
  refine ku fun c d kY hd=>?_
  rw[Pj,Pj, <-AX h.yd (h.sw c (Vl kY hd)) (h.sw d hd), <-pB h hN (c:=c) (d:=d) (Vl kY hd) hd (TY kY)]
  exact br fun i j _ _=>by
   unfold EY
   rw[Pj,Pj]
theorem yZ {y:List Nat} {ws:List (List Nat)} {os:List Od} (hy:Yd y) (hw: ∀w∈ws,SW y w) (h:lZ y ws os):(cQ (fh y ws os)).Nodup/\2*(cl (fun x z=>iI x z||iI z x) (iR (fh y ws os)):Int)=BF y ws:=by
 obtain ⟨M,hC,hT⟩:=BC hy hw h
 have hN:Lies y ws (Bw ws) (Bx ws) M (jc (ji y os)):=lies_of hy hC.sw hT
 have rP: ∀x∈places ws,x.1<ws.length/\x.2<(ws.getD x.1 []).length:=fun x hx=>lT.mp hx
 unfold fh
 rw[iJ]
 refine ⟨jS hC hN _ (vR ws _) rP,?_⟩
 rw[jT hC hN _ (vR ws _) rP]
 exact Hf hC hN
theorem BG (y w:List Nat):BF y [w]=tV y w:=by
 show (0+tV y w)+2*(0+0)=_
 omega
theorem D5 {y w v:List Nat} {os:List Od} (hy:Yd y) (hw:SW y w) (hv:SW y v) (h:lZ y [w,v] os):
  (cl (fun x z=>iI x z||iI z x) (iR (fh y [w,v] os)):Int) - cl (fun x z=>iI x z||iI z x) (iR ((fh y [w,v] os).take w.length)) - cl (fun x z=>iI x z||iI z x) (iR ((fh y [w,v] os).drop w.length))=SS y w v/\(cQ (fh y [w,v] os)).Nodup/\(cQ ((fh y [w,v] os).take w.length)).Nodup/\(cQ ((fh y [w,v] os).drop w.length)).Nodup:=by
 have Om: ∀u∈[w,v],SW y u:=fun u hu=>by
  rcases QS.mp hu with e | e
  ·rw[e];exact hw
  ·rw[QU.mp e];exact hv
 obtain ⟨M,hC,hT⟩:=BC hy Om h
 have hN:Lies y [w,v] (Bw [w,v]) (Bx [w,v]) M (jc (ji y os)):=lies_of hy hC.sw hT
 have rP: ∀x∈places [w,v],x.1<[w,v].length/\x.2<([w,v].getD x.1 []).length:=fun x hx=>lT.mp hx
 have Oo:(places [w,v]).Nodup:=vR [w,v] 2
 have ep:places [w,v]=(List.range w.length).map (fun i=>(0,i))++(List.range v.length).map (fun i=>(1,i)):=rfl
 have ec:fh y [w,v] os=(places [w,v]).map fun x=>fZ (ji y os) x.1 ([w,v].getD x.1 []) x.2:=iJ _ _ _
 have t1:(fh y [w,v] os).take w.length=((List.range w.length).map (fun i=>(0,i))).map fun x=>fZ (ji y os) x.1 ([w,v].getD x.1 []) x.2:=by
  rw[ec,ep,QT,List.take_append_of_le_length (by simp),Uc (by simp)]
 have t2:(fh y [w,v] os).drop w.length=((List.range v.length).map (fun i=>(1,i))).map fun x=>fZ (ji y os) x.1 ([w,v].getD x.1 []) x.2:=by
  rw[ec,ep,QT,List.drop_append_of_le_length (by simp),UQ (by simp),List.nil_append]
 have Lu:=Oo
 have Hg:=rP
 rw[ep]at Hg
 rw[ep,UP]at Lu
 have i1:=fun x hx=>Hg x (Vj _ hx)
 have i2:=fun x hx=>Hg x (T8 _ hx)
 rw[t1,t2]
 refine ⟨?_,by rw[ec];exact jS hC hN _ Oo rP,jS hC hN _ Lu.1 i1,jS hC hN _ Lu.2.1 i2⟩
 rw[ec,jT hC hN _ Oo rP,jT hC hN _ Lu.1 i1,jT hC hN _ Lu.2.1 i2,ep,qW]
 have e1:(((List.range w.length).map fun i=>((0:Nat),i)).map fun x=>((((List.range v.length).map fun i=>((1:Nat),i)).filter (EY [w,v] (jc (ji y os)) x)).length:Int)).sum=SS y w v:=by
  rw[<-AX hy hw hv,Us]
  refine Eq.trans ?_ (pB hC hN (c:=0) (d:=1) (Nat.zero_lt_succ _) (UW 1) (by decide))
  refine (iF (fun i=>((((List.range v.length).map fun i=>((1:Nat),i)).filter (EY [w,v] (jc (ji y os)) (0,i))).length:Int)) w.length).trans (aF fun i _=>?_)
  rw[Pj]
  refine (xn _ 1 v.length).trans (aF fun j _=>?_)
  rw[Pj]
  rfl
 rw[e1]
 omega
theorem Ib.ok {y:List Nat} {ws:List (List Nat)} (h:Ib y ws):Lp y ws:=⟨h.Lg,fun w hw=>⟨(h.sw w hw).1.bH,(h.sw w hw).2⟩⟩
theorem pW {y:List Nat} {ws:List (List Nat)} {os:List Od} (h:Ib y ws):(fh y ws os).length<=24:=by
 unfold fh
 rw[iJ,HX]
 exact h.all
theorem D6 {y w:List Nat} (h:SW y w) (hz:w.length<=12):Ib y [w]:=⟨fun v hv=>by rw[QU.mp hv];exact ⟨h,hz⟩,by show 1<=4;decide,by
 have:=qH (ws:=[w]) (m:=12) (fun v hv=>by rw[QU.mp hv];exact hz) 1 (Mj _)
 unfold places
 show (s_ [w] 1).length<=24
 omega⟩
def tW (_:PySem.W.Frag):Sp:=fun vs H Q _=> ∃(y:List Nat) (wt:Addr) (ws:List (List Nat)),vs=[.str (S y), .ref wt]/\Yd y/\y.length<=8/\Ib y ws/\H wt=some (.tup (ve ws))/\ ∀(n:Nat) H',au H H'->2*(n:Int)=BF y ws->Q (.int n) H'
theorem y0 {K:PySem.W.Frag} {vs:List V} {H:Hp} {Q:VK} {E:XK} (h:tW K vs H Q E):vs.length=2:=by obtain ⟨_,_,_,rfl,_⟩:=h;rfl
def BH (_:PySem.W.Frag):Sp:=fun vs H Q _=> ∃(y w:List Nat),vs=[.str (S y), .str (S w)]/\Yd y/\y.length<=8/\SW y w/\w.length<=12/\ ∀(n:Nat) H',au H H'->2*(n:Int)=tV y w->Q (.int n) H'
theorem len_own {K:PySem.W.Frag} {vs:List V} {H:Hp} {Q:VK} {E:XK} (h:BH K vs H Q E):vs.length=2:=by obtain ⟨_,_,rfl,_⟩:=h;rfl
def nc (_:PySem.W.Frag):Sp:=fun vs H Q _=> ∃(y w v:List Nat),vs=[.str (S y), .str (S w), .str (S v)]/\Yd y/\y.length<=8/\SW y w/\w.length<=12/\SW y v/\v.length<=12/\ ∀H',au H H'->Q (.int (SS y w v)) H'
theorem tX {K:PySem.W.Frag} {vs:List V} {H:Hp} {Q:VK} {E:XK} (h:nc K vs H Q E):vs.length=3:=by obtain ⟨_,_,_,rfl,_⟩:=h;rfl
theorem rh {y:List Nat} (hy:Yd y) (k:Nat):qY y (y.drop k++y.take k) id false:=by
 have e:y.take k++y.drop k=y:=UK k y
 have hz:Yd (y.drop k++y.take k):=hy.perm ((List.Perm.of_eq e.symm).trans Wf)
 refine ⟨hy,hz,fun a ha=>?_,fun a _ b _ q=>q,fun a _=>rfl,fun a ha b hb c hc ab ac bc=>?_⟩
 ·rw[<-e]at ha
  exact (T9.mp ha).elim (fun g=>T8 _ g) fun g=>Vj _ g
 ·have g:=GS (a:=y.take k) (b:=y.drop k) (x:=a) (y:=b) (z:=c) (by rw[e];exact hy.nd) (by rw[e];exact ha) (by rw[e];exact hb) (by rw[e];exact hc) ab ac bc
  rw[e]at g
  show My.gr _ a b c=_
  rw[g]
  cases My.gr y a b c<;>rfl
theorem idx_map {f:Nat->Nat}: ∀{y:List Nat} {a:Nat},(∀b∈y,f b=f a->b=a)->a∈y->(y.map f).idxOf (f a)=y.idxOf a
 | [],a,_,h=>absurd h Uh
 | b::y,a,h,ha=>by
  rw[TV,Wd,Wd]
  by_cases z:b=a
  ·rw[z,beq_self_eq_true,beq_self_eq_true]
   rfl
  ·have z2:f b≠f a:=fun q=>z (h b TR q)
   rw[beq_eq_false_iff_ne.mpr z,beq_eq_false_iff_ne.mpr z2]
   show _+1=_+1
   rw[idx_map (fun c hc=>h c (Tj _ hc)) ((QS.mp ha).elim (fun q=>absurd q.symm z) id)]
theorem BI {y:List Nat} {f:Nat->Nat} (hy:Yd y) (inj: ∀a∈y, ∀b∈y,f a=f b->a=b) (DJ: ∀a∈y,f (ao a)=ao (f a)) (lt: ∀a∈y,Lt (f a)):qY y (y.map f) f false:=by
 have ix: ∀a∈y,(y.map f).idxOf (f a)=y.idxOf a:=fun a ha=>idx_map (fun b hb q=>inj b hb a ha q) ha
 refine ⟨hy,⟨?_,fun c hc=>?_,fun c hc=>?_⟩,fun a ha=>T3.mpr ⟨a,ha,rfl⟩,inj,DJ,fun a ha b hb c hc _ _ _=>?_⟩
 ·exact UC.mpr (Vq (fun {a b} ha hb q z=>q (inj a ha b hb z)) hy.nd)
 ·obtain ⟨a,ha,rfl⟩:=T3.mp hc
  exact lt a ha
 ·obtain ⟨a,ha,rfl⟩:=T3.mp hc
  exact T3.mpr ⟨_,hy.cl a ha,DJ a ha⟩
 ·unfold My.gr
  rw[ix a ha,ix b hb,ix c hc,HX]
  simp
noncomputable def Il (y:List Nat) (g0:Bool):Nat->List Nat->List Nat->Bool
 | last,x::l,z::m=>if Nat.beq x z then Il y g0 x l m else g0==gr y x z (ao last)
 | _,_,_=>false
noncomputable def Oq (y:List Nat) (pf pg:Nat):List Nat->List Nat->Bool
 | x::l,z::m=>Nat.beq x z&&(!Nat.beq pf pg&&Il y (gr y (ao pf) (ao pg) x) x l m)
 | _,_=>false
noncomputable def bn (b:Bool):Nat:=if b then 1 else 0
noncomputable def Ot (y:List Nat) (a b p q:Nat):Bool:=if Nat.beq p a||(Nat.beq p b||(Nat.beq q a||Nat.beq q b)) then false else gr y a p b != gr y a q b
structure Cn where
 p:Nat
 l:List Nat
 q:Nat
 m:List Nat
noncomputable def BJ (y:List Nat) (a b:Cn):Nat:=bn (Ot y (ao a.p) (a.l.headD 0) (ao b.p) (b.l.headD 0))+bn (Oq y a.p b.p a.l b.l)+bn (Oq y a.p b.q a.l b.m)
noncomputable def ng (w:List Nat) (N i:Nat):Cn:=⟨w.getD ((i+(w.length - 1))%w.length) 0,(List.range N).map fun t=>w.getD ((i+t)%w.length) 0,ao (w.getD ((i+1)%w.length) 0),(List.range N).map fun t=>ao (w.getD ((i+w.length*N - t)%w.length) 0)⟩
noncomputable def Lv (w:List Nat) (N:Nat):List Cn:=(List.range w.length).map (ng w N)
noncomputable def BK:List Nat->Nat
 | []=>0
 | a::l=>a+BK l
noncomputable def cS (y:List Nat) (a b:List Cn):Nat:=BK (a.map fun c=>BK (b.map (BJ y c)))
noncomputable def ev (p q x u:Nat):List Nat:=(List.range (p+q)).map fun k=>if Nat.blt ((k+1)*q%(p+q)) q then u else x
noncomputable def By:List Nat:=[97,98,65,66]
noncomputable def vS (p:Nat) (q:Int):List Nat:=ev p q.natAbs 97 (if 0<=q then 98 else 66)
noncomputable def om:List (Nat×Int):=(List.range 6).flatMap fun p=>(List.range 6).flatMap fun q=>if Nat.gcd p q==1 then [(p,(q:Int)),(p, -(q:Int))] else []
noncomputable def BL (a b:Nat×Int):Nat:=((a.1:Int)*b.2 - a.2*b.1).natAbs
noncomputable def RN (a b:Nat×Int):Bool:=Nat.beq (cS By (Lv (vS a.1 a.2) 20) (Lv (vS b.1 b.2) 20)) (BL a b)
noncomputable def Lf (f:Int->Nat) (N:Nat):List Nat:=(List.range N).map fun t:Nat=>f t
theorem gu (f:Int->Nat) (N:Nat):Lf f (N+1)=f 0::Lf (fun k=>f (k+1)) N:=by
 unfold Lf
 rw[List.range_succ_eq_map,TV,Us]
 rfl
theorem l_ {a b:Nat} (h:a=b):Nat.beq a b=true:=Nat.beq_eq.mpr h
theorem rj {a b:Nat} (h:a≠b):Nat.beq a b=false:=by
 cases e:Nat.beq a b with
 | false=>rfl
 | true=>exact absurd (Nat.eq_of_beq_eq_true e) h
theorem BM {y:List Nat} {g0:Bool}: ∀(N:Nat) (f g:Int->Nat) (D:Nat),D<N->(∀j:Nat,j<D->f j=g j)->f D≠g D->Il y g0 (f (-1)) (Lf f N) (Lf g N)=(g0==gr y (f D) (g D) (ao (f ((D:Int) - 1))))
 | 0,f,g,D,h,_,_=>absurd h (VI _)
 | N+1,f,g,0,_,_,hn=>by
  rw[gu,gu]
  show (if Nat.beq (f 0) (g 0)=true then _ else _)=_
  rw[rj (show f 0≠g 0 from hn)]
  rfl
 | N+1,f,g,D+1,h,ha,hn=>by
  rw[gu,gu]
  show (if Nat.beq (f 0) (g 0)=true then Il y g0 (f 0) _ _ else _)=_
  rw[if_pos (l_ (show f 0=g 0 from ha 0 (Wx _)))]
  have:=BM (y:=y) (g0:=g0) N (fun k=>f (k+1)) (fun k=>g (k+1)) D (Nat.lt_of_succ_lt_succ h) (fun j hj=>ha (j+1) (WI hj)) hn
  refine this.trans ?_
  show (g0==gr y (f ((D:Int)+1)) (g ((D:Int)+1)) (ao (f ((D:Int) - 1+1))))=(g0==gr y (f ((D+1:Nat):Int)) (g ((D+1:Nat):Int)) (ao (f (((D+1:Nat):Int) - 1))))
  rw[show ((D+1:Nat):Int)=(D:Int)+1 from rfl,show (D:Int)+1 - 1=(D:Int) - 1+1 by omega]
theorem BN {y:List Nat} {f g:Int->Nat} {N:Nat} (hN:0<N) (hd:f (-1)≠g (-1)->iD f g N 0<N/\f (iD f g N 0)≠g (iD f g N 0)):Oq y (f (-1)) (g (-1)) (Lf f N) (Lf g N)=decide (0<al y f g N):=by
 obtain ⟨N,rfl⟩: ∃M,N=M+1:=⟨N - 1,by omega⟩
 rw[gu,gu]
 show (Nat.beq (f 0) (g 0)&&(!Nat.beq (f (-1)) (g (-1))&&Il y (gr y (ao (f (-1))) (ao (g (-1))) (f 0)) (f 0) _ _))=_
 unfold al
 by_cases z:f 0≠g 0\/f (-1)=g (-1)
 ·rw[if_pos z]
  rcases z with z | z
  ·rw[rj z];rfl
  ·rw[l_ z]
   cases Nat.beq (f 0) (g 0)<;>rfl
 ·have z0:f 0=g 0:=Classical.byContradiction fun q=>z (.inl q)
  have z1:f (-1)≠g (-1):=fun q=>z (.inr q)
  rw[if_neg z,l_ z0,rj z1]
  obtain ⟨d1,d2⟩:=hd z1
  have d3:=(dW f g (N+1) 0).2.2.1
  generalize iD f g (N+1) 0=D at d1 d2 d3 ⊢
  cases D with
  | zero=>exact absurd z0 d2
  | succ D=>
   have k:=BM (y:=y) (g0:=gr y (ao (f (-1))) (ao (g (-1))) (f 0)) N (fun k=>f (k+1)) (fun k=>g (k+1)) D (Nat.lt_of_succ_lt_succ d1) (fun j hj=>d3 (j+1) (Ti _) (WI hj)) d2
   have e:((D:Int) - 1+1)=((D+1:Nat):Int) - 1:=by omega
   have k':Il y (gr y (ao (f (-1))) (ao (g (-1))) (f 0)) (f 0) (Lf (fun k=>f (k+1)) N) (Lf (fun k=>g (k+1)) N)=(gr y (ao (f (-1))) (ao (g (-1))) (f 0)==gr y (f ((D+1:Nat):Int)) (g ((D+1:Nat):Int)) (ao (f (((D+1:Nat):Int) - 1)))):=by
    rw[<-e]
    exact k
   rw[k']
   by_cases c:gr y (ao (f (-1))) (ao (g (-1))) (f 0)=gr y (f ((D+1:Nat):Int)) (g ((D+1:Nat):Int)) (ao (f (((D+1:Nat):Int) - 1)))
   ·rw[if_pos c,beq_iff_eq.mpr c,decide_eq_true (Wx D)]
    rfl
   ·rw[if_neg c,beq_eq_false_iff_ne.mpr c]
    rfl
theorem md (w:List Nat) (k:Nat):rd w (k:Int)=w.getD (k%w.length) 0:=by
 unfold rd
 rw[<-Vm,Pj]
theorem Lw {w:List Nat} (hw:w≠[]) (N i:Nat):(ng w N i).p=sq w i (-1):=by
 have hl:=Pe.mpr hw
 show w.getD _ 0=rd w ((i:Int)+ -1)
 rw[<-md,show ((i+(w.length - 1):Nat):Int)=(i:Int)+ -1+w.length by omega,eF]
theorem Ly (w:List Nat) (N i:Nat):(ng w N i).l=Lf (sq w i) N:=by
 show (List.range N).map _=(List.range N).map _
 exact UR fun t _=>by
  rw[<-md]
  rfl
theorem Ou (w:List Nat) (N i:Nat):(ng w N i).q=bq w i (-1):=by
 show ao (w.getD _ 0)=ao (rd w ((i:Int) - -1))
 rw[<-md]
 rfl
theorem BO (w:List Nat) (k:Int): ∀N:Nat,rd w (k+(w.length*N:Nat))=rd w k
 | 0=>by rw[Nat.mul_zero,Int.natCast_zero,Vw]
 | N+1=>by rw[Nat.mul_succ,Ud, <-Wt,eF,BO w k N]
theorem Ov {w:List Nat} (hw:w≠[]) (N i:Nat):(ng w N i).m=Lf (bq w i) N:=by
 have hl:=Pe.mpr hw
 show (List.range N).map _=(List.range N).map _
 refine UR fun t ht=>?_
 have Ow:=Ux.mp ht
 have hm:N<=w.length*N:=Nat.le_mul_of_pos_left _ hl
 show ao (w.getD _ 0)=ao (rd w ((i:Int) - t))
 rw[<-md, <-BO w ((i:Int) - t) N]
 congr 2
 omega
theorem PQ {w v:List Nat} {f g:Int->Nat} (hw:w≠[]) (hv:v≠[]) (pf: ∀k,f (k+w.length)=f k) (pg: ∀k,g (k+v.length)=g k) {N:Nat} (hN:w.length+v.length<=N) (h:f (-1)≠g (-1)):iD f g N 0<N/\f (iD f g N 0)≠g (iD f g N 0):=by
 obtain ⟨d1,d2⟩:=fX hw hv pf pg h
 have e:iD f g N 0=iD f g (w.length+v.length) 0:=GB (fun j hj=>(dW f g (w.length+v.length) 0).2.2.1 j (Ti _) hj) d2 (by omega)
 rw[e]
 exact ⟨by omega,d2⟩
theorem vT {p:Prop} {b:Bool} (h:p↔b=true):one p=(bn b:Nat):=by
 cases b with
 | true=>exact dX (h.mpr rfl)
 | false=>exact aR fun q=>absurd (h.mp q) (by decide)
theorem Hh (y:List Nat) (a b p q:Nat):Ot y a b p q=ac y a b p q:=by
 unfold Ot ac
 have k: ∀a b:Nat,Nat.beq a b=decide (a=b):=fun a b=>by
  by_cases z:a=b
  ·rw[l_ z,decide_eq_true z]
  ·rw[rj z,decide_eq_false z]
 rw[k,k,k,k, <-VU, <-VU, <-VU]
 by_cases z:p=a\/p=b\/q=a\/q=b
 ·rw[if_pos z,decide_eq_true z,if_pos rfl]
 ·rw[if_neg z,decide_eq_false z,if_neg (by decide)]
theorem D7 {y w v:List Nat} (hy:Yd y) (hw:SW y w) (hv:SW y v) {N:Nat} (hN:w.length+v.length<=N) (i j:Nat):bs y w v i j=(BJ y (ng w N i) (ng v N j):Nat):=by
 have h0:0<N:=T1 (Nat.add_pos_left (Pe.mpr hw.ne) _) hN
 have Lz:=PQ (f:=sq w i) (g:=sq v j) hw.ne hv.ne (fun k=>bX w i k) (fun k=>bX v j k) hN
 have hd2:=PQ (f:=sq w i) (g:=bq v j) hw.ne hv.ne (fun k=>bX w i k) (fun k=>kg v j k) hN
 unfold bs BJ
 rw[Lw hw.ne,Lw hv.ne,Ly,Ly,Ou,Ov hv.ne,BN h0 Lz,BN h0 hd2,Hh]
 have hh: ∀f:Int->Nat,(Lf f N).headD 0=f 0:=fun f=>by
  obtain ⟨M,rfl⟩: ∃M,N=M+1:=⟨N - 1,by omega⟩
  rw[gu]
  rfl
 rw[hh,hh,Ud,Ud]
 congr 1
 ·congr 1
  ·refine vT ?_
   have e: ∀(u:List Nat) (k:Nat),sq u k 0=rd u k:=fun u k=>by unfold sq;rw[Vw]
   rw[e,e]
   exact Iff.rfl
  ·exact vT ((pq hy (aQ hw i) (aQ hv j) Lz).trans decide_eq_true_iff.symm)
 ·exact vT ((pq hy (aQ hw i) (ff hy hv j) hd2).trans decide_eq_true_iff.symm)
theorem D8 (l m:List Nat):BK (l++m)=BK l+BK m:=by
 induction l with
 | nil=>exact (VP _).symm
 | cons a l ih=>show a+BK (l++m)=a+BK l+BK m;rw[ih,WR]
theorem vU (F:Nat->Nat): ∀n:Nat,((BK ((List.range n).map F):Nat):Int)=sm n fun i=>(F i.toNat:Nat)
 | 0=>rfl
 | n+1=>by
  rw[UG,QT,D8,Ud,vU F n]
  show _+((F n+0:Nat):Int)=_+((F ((n:Nat):Int).toNat:Nat):Int)
  rw[Pj,Wy]
theorem LA {y w v:List Nat} (hy:Yd y) (hw:SW y w) (hv:SW y v) {N:Nat} (hN:w.length+v.length<=N):SS y w v=(cS y (Lv w N) (Lv v N):Nat):=by
 unfold cS Lv
 rw[Us,vU]
 refine aF fun i _=>?_
 show sm _ _=((BK (((List.range v.length).map (ng v N)).map (BJ y (ng w N ((i:Nat):Int).toNat))):Nat):Int)
 rw[Us,vU,Pj]
 refine aF fun j _=>?_
 show bs y w v i j=((BJ y (ng w N i) (ng v N ((j:Nat):Int).toNat):Nat):Int)
 rw[Pj]
 exact D7 hy hw hv hN i j
theorem D9:(om.all fun a=>om.all fun b=>RN a b)=true:=by decide+kernel
theorem xI:Yd By:=⟨by decide,by decide,by decide⟩
theorem E5 {p q x u c:Nat} (h:c∈ev p q x u):c=x\/c=u:=by
 obtain ⟨k,_,rfl⟩:=T3.mp h
 by_cases z:Nat.blt ((k+1)*q%(p+q)) q=true
 ·exact .inr (if_pos z)
 ·exact .inl (if_neg z)
theorem Hi (p q x u:Nat):(ev p q x u).length=p+q:=by unfold ev;rw[HX,Vh]
theorem BP (f:Nat->Nat) (p q x u:Nat):(ev p q x u).map f=ev p q (f x) (f u):=by
 unfold ev
 rw[Us]
 refine UR fun k _=>?_
 show f (if _ then u else x)=if _ then f u else f x
 split<;>rfl
theorem D_ (p x u v:Nat):ev p 0 x u=ev p 0 x v:=by
 unfold ev
 refine UR fun k _=>?_
 have: ∀n,Nat.blt n 0=false:=fun n=>by cases n<;>rfl
 rw[this]
 rfl
theorem BQ {y w:List Nat} {x u:Nat} (hy:Yd y) (hx:x∈y) (hu:u∈y) (n1:u≠ao x) (n2:x≠ao u) (hw:w≠[]) (h: ∀c∈w,c=x\/c=u):SW y w:=⟨hw,fun c hc=>(h c hc).elim (fun g=>by rw[g];exact hx) fun g=>by rw[g];exact hu,fun k q=>by
 rcases h _ (qD hw k) with a | a<;>rcases h _ (qD hw (k - 1)) with b | b<;>rw[a,b]at q
 ·exact i5 (hy.lt x hx) q.symm
 ·exact n2 q
 ·exact n1 q
 ·exact i5 (hy.lt u hu) q.symm⟩
theorem nh: ∀a∈om,a.1<=5/\a.2.natAbs<=5/\0<a.1+a.2.natAbs/\(a.1, -a.2)∈om:=by decide+kernel
theorem Hj: ∀p∈List.range 6, ∀k∈List.range 6,Nat.gcd p k=1->(p,(k:Int))∈om/\(p, -(k:Int))∈om:=by decide+kernel
theorem LB: ∀a∈om, ∀d∈List.range 11,0<d->d<(vS a.1 a.2).length->da (vS a.1 a.2) d≠vS a.1 a.2:=by decide+kernel
theorem Ea {w:List Nat} (hw:w≠[]) (h: ∀d,0<d->d<w.length->da w d≠w):kr w=1:=by
 have hr:=m8 hw
 unfold kr
 generalize G9 w=s at hr ⊢
 rcases hr with g | ⟨h1,h2,h3,_⟩
 ·exact absurd g.1 hw
 ·have e:s=w.length:=Classical.byContradiction fun z=>h s h1 (Nat.lt_of_le_of_ne h2 z) (lR h1 h2 h3)
  rw[e,Nat.div_self (by omega)]
  rfl
theorem jd {a:Nat×Int} (ha:a∈om):SW By (vS a.1 a.2)/\(vS a.1 a.2).length<=10:=by
 obtain ⟨p1,p2,p3,_⟩:=nh a ha
 have hl:(vS a.1 a.2).length=a.1+a.2.natAbs:=Hi _ _ _ _
 have hn:vS a.1 a.2≠[]:=fun z=>by rw[z]at hl;exact absurd hl (TY p3)
 refine ⟨?_,by omega⟩
 by_cases z:0<=a.2
 ·exact BQ xI (x:=97) (u:=98) (by decide) (by decide) (by decide) (by decide) hn fun c hc=>by
   unfold vS at hc
   rw[if_pos z]at hc
   exact E5 hc
 ·exact BQ xI (x:=97) (u:=66) (by decide) (by decide) (by decide) (by decide) hn fun c hc=>by
   unfold vS at hc
   rw[if_neg z]at hc
   exact E5 hc
theorem Eb {a b:Nat×Int} (ha:a∈om) (hb:b∈om):SS By (vS a.1 a.2) (vS b.1 b.2)=(BL a b:Nat):=by
 obtain ⟨s1,l1⟩:=jd ha
 obtain ⟨s2,l2⟩:=jd hb
 rw[LA xI s1 s2 (N:=20) (by omega)]
 have c:=VE.mp (VE.mp D9 a ha) b hb
 exact congrArg Nat.cast (Nat.eq_of_beq_eq_true c)
theorem Ec {a:Nat×Int} (ha:a∈om):kr (vS a.1 a.2)=1:=by
 obtain ⟨s1,l1⟩:=jd ha
 exact Ea s1.ne fun d h1 h2=>LB a ha d (Ux.mpr (by omega)) h1 h2
noncomputable def BR (x y:Nat) (a:Nat×Int):List Nat:=ev a.1 a.2.natAbs x (if 0<=a.2 then y else ao y)
structure Im (z:List Nat) (x y:Nat):Prop where
 yd:Yd z
 len:z.length=4
 sw: ∀a∈om,SW z (BR x y a)/\(BR x y a).length<=10
 kr: ∀a∈om,kr (BR x y a)=1
 ss: ∀a∈om, ∀b∈om,SS z (BR x y a) (BR x y b)=(BL a b:Nat)
theorem BS {z:List Nat} {x y:Nat} {σ:Nat->Nat} {neg:Bool} (T:qY By z σ neg) (hl:z.length=4) (g:Nat×Int->Nat×Int) (hg: ∀a∈om,g a∈om/\BR x y a=(vS (g a).1 (g a).2).map σ) (hd: ∀a b,BL (g a) (g b)=BL a b):Im z x y:=
 ⟨T.zd,hl,fun a ha=>by
  obtain ⟨g1,g2⟩:=hg a ha
  obtain ⟨s1,l1⟩:=jd g1
  rw[g2,HX]
  exact ⟨T.sw s1,l1⟩,fun a ha=>by
  obtain ⟨g1,g2⟩:=hg a ha
  rw[g2,Hd T (jd g1).1,Ec g1],fun a ha b hb=>by
  obtain ⟨g1,g2⟩:=hg a ha
  obtain ⟨k1,k2⟩:=hg b hb
  rw[g2,k2,T.same (jd g1).1 (jd k1).1,Eb g1 k1,hd]⟩
noncomputable def sg (x u c:Nat):Nat:=if c=97 then x else if c=98 then u else if c=65 then ao x else ao u
theorem BU {x u:Nat} (lx:Lt x) (lu:Lt u) (n1:x≠u) (n2:x≠ao u):qY By [x,u,ao x,ao u] (sg x u) false:=by
 have n3:u≠ao x:=fun q=>n2 (by rw[q,aG lx])
 have n4:ao x≠ao u:=fun q=>n1 (cT lx lu q)
 have n5:=i5 lx
 have n6:=i5 lu
 have four: ∀{P:Nat->Prop},P 97->P 98->P 65->P 66-> ∀a∈By,P a:=fun {P} p1 p2 p3 p4 a ha=>by
  rcases QS.mp ha with g | ha
  ·rw[g];exact p1
  rcases QS.mp ha with g | ha
  ·rw[g];exact p2
  rcases QS.mp ha with g | ha
  ·rw[g];exact p3
  rw[QU.mp ha];exact p4
 refine BI (y:=By) (f:=sg x u) xI ?_ ?_ ?_
 ·refine four (four (fun _=>rfl) (fun q=>absurd q n1) (fun q=>absurd q (Ne.symm n5)) fun q=>absurd q n2) (four (fun q=>absurd q.symm n1) (fun _=>rfl) (fun q=>absurd q n3) fun q=>absurd q (Ne.symm n6)) (four (fun q=>absurd q n5) (fun q=>absurd q.symm n3) (fun _=>rfl) fun q=>absurd q n4) (four (fun q=>absurd q.symm n2) (fun q=>absurd q n6) (fun q=>absurd q.symm n4) fun _=>rfl)
 ·exact four rfl rfl (aG lx).symm (aG lu).symm
 ·exact four lx lu lx.ao lu.ao
theorem qY.then {y z x:List Nat} {σ:Nat->Nat} {n m:Bool} (T:qY y z σ n) (U:qY z x id m):qY y x σ (m ^^ n):=⟨T.yd,U.zd,fun a ha=>U.Ih _ (T.Ih a ha),T.inj,T.DJ,fun a ha b hb c hc ab ac bc=>by
 have g:=U.gr _ (T.Ih a ha) _ (T.Ih b hb) _ (T.Ih c hc) (fun q=>ab (T.inj a ha b hb q)) (fun q=>ac (T.inj a ha c hc q)) fun q=>bc (T.inj b hb c hc q)
 have h:=T.gr a ha b hb c hc ab ac bc
 have g':My.gr x (σ a) (σ b) (σ c)=(m ^^ My.gr z (σ a) (σ b) (σ c)):=g
 rw[g',h]
 cases m<;>cases n<;>cases My.gr y a b c<;>rfl⟩
theorem LC {z:List Nat} (h:z.length=4) (k:Nat):(z.drop k++z.take k).length=4:=by
 rw[Tn,T6,T4]
 omega
theorem Ed {x y:Nat} (lx:Lt x) (ly:Lt y) (n1:x≠y) (n2:x≠ao y) (k:Nat):Im ([x,y,ao x,ao y].drop k++[x,y,ao x,ao y].take k) x y:=by
 have T:=BU lx ly n1 n2
 refine BS (T.then (rh T.zd k)) (LC rfl k) id (fun a ha=>⟨ha,?_⟩) fun a b=>rfl
 show _=(ev a.1 a.2.natAbs 97 (if 0<=a.2 then 98 else 66)).map (sg x y)
 rw[BP]
 show ev _ _ x (if 0<=a.2 then y else ao y)=ev _ _ x (sg x y (if 0<=a.2 then 98 else 66))
 split<;>rfl
theorem Ee {x y:Nat} (lx:Lt x) (ly:Lt y) (n1:x≠y) (n2:x≠ao y) (k:Nat):Im ([y,x,ao y,ao x].drop k++[y,x,ao y,ao x].take k) x y:=by
 have T:=BU lx ly.ao n2 (by rw[aG ly];exact n1)
 rw[aG ly]at T
 have U:=rh T.zd 3
 have V:qY By [y,x,ao y,ao x] (sg x (ao y)) (false ^^ false):=T.then U
 refine BS (V.then (rh V.zd k)) (LC rfl k) (fun a=>(a.1, -a.2)) (fun a ha=>⟨(nh a ha).2.2.2,?_⟩) fun a b=>?_
 ·show _=(ev a.1 (-a.2).natAbs 97 (if 0<= -a.2 then 98 else 66)).map (sg x (ao y))
  rw[BP,Int.natAbs_neg]
  show ev a.1 a.2.natAbs x (if 0<=a.2 then y else ao y)=ev _ _ x (sg x (ao y) (if 0<= -a.2 then 98 else 66))
  have RO:sg x (ao y) 66=y:=by show ao (ao y)=y;exact aG ly
  have RP:sg x (ao y) 98=ao y:=rfl
  rcases Int.lt_trichotomy a.2 0 with q | q | q
  ·rw[if_neg (by omega),if_pos (by omega),RP]
  ·rw[q]
   exact D_ _ _ _ _
  ·rw[if_pos (by omega),if_neg (by omega),RO]
 ·unfold BL
  show ((a.1:Int)* -b.2 - -a.2*b.1).natAbs=_
  rw[Int.mul_neg,Int.neg_mul,show -((a.1:Int)*b.2) - -(a.2*b.1)= -((a.1:Int)*b.2 - a.2*b.1) by omega,Int.natAbs_neg]
theorem BV (a:Nat×Int):BL a a=0:=by
 unfold BL
 rw[WG a.2,Int.sub_self]
 rfl
theorem Im.own {z:List Nat} {x y:Nat} (h:Im z x y) {a:Nat×Int} (ha:a∈om):tV z (BR x y a)=0:=by
 unfold tV
 rw[h.ss a ha a ha,h.kr a ha,BV]
 rfl
def ni (_:PySem.W.Frag):Sp:=fun vs H Q _=> ∃(p q:Nat),vs=[.int p, .int q]/\p<=1000/\q<=1000/\Q (.int (Nat.gcd p q:Nat)) H
theorem tY {K:PySem.W.Frag} {vs:List V} {H:Hp} {Q:VK} {E:XK} (h:ni K vs H Q E):vs.length=2:=by obtain ⟨_,_,rfl,_⟩:=h;rfl
def tZ (_:PySem.W.Frag):Sp:=fun vs H Q _=> ∃(b:Addr),vs=[.ref b]/\eX H b/\ ∀(t:Addr) (a:Nat×Int) H',a∈om->t≠b->H' t=some (.tup [.int a.1, .int a.2])->eX H' b->aW b H H'->Q (.ref t) H'
theorem y6 {K:PySem.W.Frag} {vs:List V} {H:Hp} {Q:VK} {E:XK} (h:tZ K vs H Q E):vs.length=1:=by obtain ⟨_,rfl,_⟩:=h;rfl
def t5 (_:PySem.W.Frag):Sp:=fun vs H Q _=> ∃(x y:Nat) (t:Addr) (a:Nat×Int),vs=[.str (S [x]), .str (S [y]), .ref t]/\Lt x/\Lt y/\H t=some (.tup [.int a.1, .int a.2])/\a∈om/\ ∀H',au H H'->Q (.str (S (BR x y a))) H'
theorem y7 {K:PySem.W.Frag} {vs:List V} {H:Hp} {Q:VK} {E:XK} (h:t5 K vs H Q E):vs.length=3:=by obtain ⟨_,_,_,_,rfl,_⟩:=h;rfl
def nj (_:PySem.W.Frag):Sp:=fun vs H Q _=> ∃(b:Addr),vs=[.ref b]/\eX H b/\ ∀(t:Addr) (x y:Nat) (z:List Nat) H',Lt x->Lt y->x≠y->x≠ao y->(z=[x,y,ao x,ao y]\/z=[y,x,ao y,ao x])->H' t=some (.tup [.str (S [x]), .str (S [y]), .str (S z)])->t≠b->eX H' b->aW b H H'->Q (.ref t) H'
theorem t6 {K:PySem.W.Frag} {vs:List V} {H:Hp} {Q:VK} {E:XK} (h:nj K vs H Q E):vs.length=1:=by obtain ⟨_,rfl,_⟩:=h;rfl
local macro_rules | `(tactic| walk_at "rd") => `(tactic| repeat (first
 | refine ⟨_,rfl,?_⟩
 | refine ⟨_,_,rfl,rfl,?_⟩
 | refine ⟨rfl,?_⟩
 | refine And.intro (by first | decide | omega | assumption | exact Nat.le_of_ble_eq_true rfl | exact .inl ⟨by decide,by decide⟩ | exact .inr ⟨by decide,by decide⟩ | exact ⟨by decide,by decide⟩ | exact ⟨by omega,by omega⟩) ?_))
local macro_rules | `(tactic| walk_at "wk") => `(tactic| repeat (first
 | refine ⟨_,rfl,?_⟩
 | refine ⟨_,_,rfl,rfl,?_⟩
 | refine ⟨_,_,_,rfl,rfl,by first | assumption | omega,by assumption,?_⟩
 | refine ⟨rfl,?_⟩
 | refine And.intro (by first | decide | omega | assumption | exact Nat.le_of_ble_eq_true rfl | exact .inl ⟨by decide,by decide⟩ | exact .inr ⟨by decide,by decide⟩ | exact ⟨by decide,by decide⟩ | exact ⟨by omega,by omega⟩) ?_))
local macro_rules | `(tactic| walk_at "bd") => `(tactic| first | assumption | exact RQ _ | exact Tr (by walk_at "bd") (by walk_at "bd"))
noncomputable def top (i:Nat):Stmt:=PySem.Challenge.pw_mustmeet_k32_whole_two_bands_crossed.main.body.getD i (.Pass ⟨0,0,0,0⟩)
noncomputable abbrev je:Stmt:=top 1
noncomputable abbrev nk:Stmt:=top 2
noncomputable abbrev rk:Stmt:=top 4
noncomputable abbrev fM:Stmt:=top 5
noncomputable abbrev gv:Stmt:=top 7
noncomputable abbrev nq:Stmt:=top 8
noncomputable abbrev eG:Stmt:=top 9
noncomputable abbrev kE:Stmt:=top 10
noncomputable abbrev fj:Stmt:=top 11
noncomputable abbrev h_:Stmt:=top 12
noncomputable abbrev dH:Stmt:=top 13
noncomputable abbrev gw:Stmt:=top 15
noncomputable abbrev fN:Stmt:=top 17
noncomputable abbrev ie:Stmt:=top 19
noncomputable abbrev jf:Stmt:=top 20
noncomputable abbrev vV:Stmt:=top 21
noncomputable abbrev vW:Stmt:=top 22
noncomputable abbrev fk:Stmt:=top 24
noncomputable abbrev fO:Stmt:=top 27
noncomputable abbrev gx:Stmt:=top 28
noncomputable abbrev kF:Stmt:=top 29
noncomputable abbrev kG:Stmt:=top 30
noncomputable abbrev fP:Stmt:=top 31
noncomputable abbrev fm:Stmt:=top 32
noncomputable abbrev fQ:Stmt:=top 33
noncomputable abbrev gy:Stmt:=top 34
noncomputable abbrev vX:Stmt:=top 35
noncomputable abbrev rm:Stmt:=top 37
noncomputable abbrev BW:Stmt:=top 38
noncomputable abbrev kH:Stmt:=top 39
noncomputable abbrev vY:Stmt:=top 41
noncomputable abbrev rq:Stmt:=top 42
noncomputable abbrev nu:Stmt:=top 43
noncomputable abbrev kI:Stmt:=top 44
noncomputable abbrev rz:Stmt:=top 45
noncomputable abbrev rA:Stmt:=top 46
noncomputable abbrev kJ:Stmt:=top 47
noncomputable abbrev BX:Stmt:=top 48
structure bj (K:PySem.W.Frag) (mg:Str->Option Value) (x:Str) (st:Stmt) (ps:List Str) (f:Addr) (fd:FuncData):Prop where
 fn:CQ K x x st f fd
 mg:mg x=some (.ref f)
 bd:Binds K fd ps []
noncomputable abbrev iK:Stmt:=Pq (top 25) 0
noncomputable abbrev gf:Stmt:=Pq (top 26) 0
structure Txt (K:PySem.W.Frag) (mg:Str->Option Value) (f0 f1 f2 f3 f4 f5 f6 f7 f8 f9 Io Ip Iq Ir Iu Iv Iw Iy BY BZ Iz IA IB IC ID IE IF IG IH II IJ IK IL IM IQ IS IT IU aH aP iU fR:Addr) (d0 d1 d2 d3 d4 d5 d6 d7 d8 d9 IV IW IX IZ I0 I_ Ja Jb Jc Jd Je Jf Jg Jh Ji Jj Jk Jl Jm Jn Jo Jp Jq Jr Js Jt Ju Jv t9 ny:FuncData):Prop where
 F0:bj K mg "contrary" je ["letter"] f0 d0
 F1:bj K mg "turned" nk ["word"] f1 d1
 F2:bj K mg "bands" rk ["yard"] f2 d2
 F3:bj K mg "steps_round" fM ["yard","start","end"] f3 d3
 F4:bj K mg "strands_at" gv ["yard","drawing","end"] f4 d4
 F5:bj K mg "points" nq ["yard","drawing"] f5 d5
 F6:bj K mg "corner_points" eG ["word","cord","place"] f6 d6
 F7:bj K mg "corners" kE ["yard","drawing"] f7 d7
 F8:bj K mg "chord_starts" fj ["some"] f8 d8
 F9:bj K mg "number_in" h_ ["rising","point"] f9 d9
 y8:bj K mg "count_meetings" dH ["some"] Io IV
 Mx:bj K mg "strands_in" gw ["words","band"] Ip IW
 Mz:bj K mg "corner_ends" fN ["word","place"] Iq IX
 MA:bj K mg "shortened" ie ["word"] Ir IZ
 MB:bj K mg "shortest" jf ["word"] Iu I0
 Cy:bj K mg "ring" vV ["word"] Iv I_
 MC:bj K mg "root" vW ["word"] Iw Ja
 MD:bj K mg "corner_steps" fk ["yard","word","place"] Iy Jb
 uo:bj K mg "steps_ahead" fO ["seen","start","end"] BY Jc
 uq:bj K mg "steps_back" gx ["seen","start","end"] BZ Jd
 Hk:bj K mg "parting" kF ["steps","one","other","enough"] Iz Je
 Hl:bj K mg "side_of" kG ["seen"] IA Jf
 ME:bj K mg "comes_ahead" fP ["one","other"] IB Jg
 MF:bj K mg "number_among" fm ["order","seen"] IC Jh
 MG:bj K mg "seen_strand" fQ ["words","ways","strand"] ID Ji
 MH:bj K mg "taut_order" gy ["words","ways","band"] IE Jj
 Hm:bj K mg "taut" vX ["yard","words"] IF Jk
 MI:bj K mg "least" rm ["yard","words"] IG Jl
 Hn:bj K mg "own" BW ["yard","word"] IH Jm
 MJ:bj K mg "between" kH ["yard","one","other"] II Jn
 MK:bj K mg "_law_box" vY ["_law_script","_law_k"] IJ Jo
 jg:bj K mg "_law_take" rq ["_law_box_here","_law_many"] IK Jp
 nR:bj K mg "_law_other" nu ["_law_letter"] IL Jq
 ML:bj K mg "_law_common" kI ["_law_p","_law_q"] IM Jr
 Ho:bj K mg "_law_pair" rz ["_law_box_here"] IQ Js
 Hq:bj K mg "_law_even" rA ["_law_x","_law_y","_law_pair_here"] IS Jt
 MM:bj K mg "_law_yard_of" kJ ["_law_box_here"] IT Ju
 RS:bj K mg "law" BX ["_law_script"] IU Jv
 B2:mg "Seen"=some (.ref aH)
 cX:EC K aH
 n_Seen_strand:di K aH "strand"
 n_Seen_way:di K aH "way"
 n_Seen_place:di K aH "place"
 E6:mg "Way"=some (.ref aP)
 fH:EC K aP
 n_Way_size:di K aP "size"
 n_Way_root_size:di K aP "root_size"
 n_Way_leads:di K aP "leads"
 n_Way_onward:di K aP "onward"
 n_Way_backward:di K aP "backward"
 E7:Mk K aP iU
 LD:CQ K "__init__" "Way.__init__" iK iU t9
 E8:Binds K t9 ["self","yard","word","longest"] []
 B3:Mk K aH fR
 Hr:CQ K "__init__" "Seen.__init__" gf fR ny
 B4:Binds K ny ["self","strand","way","place"] []
 z_abs:mg "abs"=none
 z_enumerate:mg "enumerate"=none
 z_int:mg "int"=none
 z_len:mg "len"=none
 z_list:mg "list"=none
 z_max:mg "max"=none
 z_min:mg "min"=none
 z_range:mg "range"=none
 z_reversed:mg "reversed"=none
 z_sorted:mg "sorted"=none
 z_str:mg "str"=none
 z_tuple:mg "tuple"=none
theorem t_:aD ["letter"] ["letter"] (ar je):=⟨rfl,rfl,rfl,by decide+kernel,rfl,by decide+kernel,by decide+kernel⟩
theorem y9:aD ["word"] ["word"] (ar nk):=⟨rfl,rfl,rfl,by decide+kernel,rfl,by decide+kernel,by decide+kernel⟩
theorem B5:aD ["yard"] ["yard"] (ar rk):=⟨rfl,rfl,rfl,by decide+kernel,rfl,by decide+kernel,by decide+kernel⟩
theorem nz:aD ["yard","start","end"] ["yard","start","end"] (ar fM):=⟨rfl,rfl,rfl,by decide+kernel,rfl,by decide+kernel,by decide+kernel⟩
theorem iV:aD ["yard","drawing","end","order"] ["yard","drawing","end"] (ar gv):=⟨rfl,rfl,rfl,by decide+kernel,rfl,by decide+kernel,by decide+kernel⟩
theorem iL:aD ["yard","drawing","told","end","strand"] ["yard","drawing"] (ar nq):=⟨rfl,rfl,rfl,by decide+kernel,rfl,by decide+kernel,by decide+kernel⟩
theorem gg:aD ["word","cord","place","ahead"] ["word","cord","place"] (ar eG):=⟨rfl,rfl,rfl,by decide+kernel,rfl,by decide+kernel,by decide+kernel⟩
theorem cf:aD ["yard","drawing","numbers","number","point","told","cord","word","place","pair"] ["yard","drawing"] (ar kE):=⟨rfl,rfl,rfl,by decide+kernel,rfl,by decide+kernel,by decide+kernel⟩
theorem cU:aD ["some","starts","corner","first"] ["some"] (ar fj):=⟨rfl,rfl,rfl,by decide+kernel,rfl,by decide+kernel,by decide+kernel⟩
theorem cH:aD ["rising","point","low","high","middle"] ["rising","point"] (ar h_):=⟨rfl,rfl,rfl,by decide+kernel,rfl,by decide+kernel,by decide+kernel⟩
theorem bo:aD ["some","starts","begun","many","point","number"] ["some"] (ar dH):=⟨rfl,rfl,rfl,by decide+kernel,rfl,by decide+kernel,by decide+kernel⟩
theorem cn:aD ["words","band","found","cord","word","place","letter"] ["words","band"] (ar gw):=⟨rfl,rfl,rfl,by decide+kernel,rfl,by decide+kernel,by decide+kernel⟩
theorem nA:aD ["word","place"] ["word","place"] (ar fN):=⟨rfl,rfl,rfl,by decide+kernel,rfl,by decide+kernel,by decide+kernel⟩
theorem gz:aD ["word","kept","letter"] ["word"] (ar ie):=⟨rfl,rfl,rfl,by decide+kernel,rfl,by decide+kernel,by decide+kernel⟩
theorem c_:aD ["word","left","start","end"] ["word"] (ar jf):=⟨rfl,rfl,rfl,by decide+kernel,rfl,by decide+kernel,by decide+kernel⟩
theorem iM:aD ["word","whole","least","start","begun"] ["word"] (ar vV):=⟨rfl,rfl,rfl,by decide+kernel,rfl,by decide+kernel,by decide+kernel⟩
theorem me:aD ["word","whole","size","times"] ["word"] (ar vW):=⟨rfl,rfl,rfl,by decide+kernel,rfl,by decide+kernel,by decide+kernel⟩
theorem gH:aD ["yard","word","place","ends"] ["yard","word","place"] (ar fk):=⟨rfl,rfl,rfl,by decide+kernel,rfl,by decide+kernel,by decide+kernel⟩
theorem ig:aD ["seen","start","end","first"] ["seen","start","end"] (ar fO):=⟨rfl,rfl,rfl,by decide+kernel,rfl,by decide+kernel,by decide+kernel⟩
theorem iW:aD ["seen","start","end","first"] ["seen","start","end"] (ar gx):=⟨rfl,rfl,rfl,by decide+kernel,rfl,by decide+kernel,by decide+kernel⟩
theorem cY:aD ["steps","one","other","enough","many","size"] ["steps","one","other","enough"] (ar kF):=⟨rfl,rfl,rfl,by decide+kernel,rfl,by decide+kernel,by decide+kernel⟩
theorem jh:aD ["seen","way","cord"] ["seen"] (ar kG):=⟨rfl,rfl,rfl,by decide+kernel,rfl,by decide+kernel,by decide+kernel⟩
theorem dy:aD ["one","other","enough","ahead","back"] ["one","other"] (ar fP):=⟨rfl,rfl,rfl,by decide+kernel,rfl,by decide+kernel,by decide+kernel⟩
theorem bM:aD ["order","seen","low","high","middle"] ["order","seen"] (ar fm):=⟨rfl,rfl,rfl,by decide+kernel,rfl,by decide+kernel,by decide+kernel⟩
theorem fq:aD ["words","ways","strand","word","place"] ["words","ways","strand"] (ar fQ):=⟨rfl,rfl,rfl,by decide+kernel,rfl,by decide+kernel,by decide+kernel⟩
theorem dQ:aD ["words","ways","band","order","strand","seen"] ["words","ways","band"] (ar gy):=⟨rfl,rfl,rfl,by decide+kernel,rfl,by decide+kernel,by decide+kernel⟩
theorem rB:aD ["yard","words","longest","ways"] ["yard","words"] (ar vX):=⟨rfl,rfl,rfl,by decide+kernel,rfl,by decide+kernel,by decide+kernel⟩
theorem B6:aD ["yard","words"] ["yard","words"] (ar rm):=⟨rfl,rfl,rfl,by decide+kernel,rfl,by decide+kernel,by decide+kernel⟩
theorem Hs:aD ["yard","word"] ["yard","word"] (ar BW):=⟨rfl,rfl,rfl,by decide+kernel,rfl,by decide+kernel,by decide+kernel⟩
theorem gA:aD ["yard","one","other","every","ones","others"] ["yard","one","other"] (ar kH):=⟨rfl,rfl,rfl,by decide+kernel,rfl,by decide+kernel,by decide+kernel⟩
theorem jU:aD ["_law_script","_law_k","_law_cell","_law_seed"] ["_law_script","_law_k"] (ar vY):=⟨rfl,rfl,rfl,by decide+kernel,rfl,by decide+kernel,by decide+kernel⟩
theorem nB:aD ["_law_box_here","_law_many","_law_digit","_law_one"] ["_law_box_here","_law_many"] (ar rq):=⟨rfl,rfl,rfl,by decide+kernel,rfl,by decide+kernel,by decide+kernel⟩
theorem kK:aD ["_law_letter","_law_small","_law_capital"] ["_law_letter"] (ar nu):=⟨rfl,rfl,rfl,by decide+kernel,rfl,by decide+kernel,by decide+kernel⟩
theorem nC:aD ["_law_p","_law_q"] ["_law_p","_law_q"] (ar kI):=⟨rfl,rfl,rfl,by decide+kernel,rfl,by decide+kernel,by decide+kernel⟩
theorem ik:aD ["_law_box_here","_law_p","_law_q","_law_part"] ["_law_box_here"] (ar rz):=⟨rfl,rfl,rfl,by decide+kernel,rfl,by decide+kernel,by decide+kernel⟩
theorem d_:aD ["_law_x","_law_y","_law_pair_here","_law_p","_law_q","_law_up","_law_found","_law_at","_law_k"] ["_law_x","_law_y","_law_pair_here"] (ar rA):=⟨rfl,rfl,rfl,by decide+kernel,rfl,by decide+kernel,by decide+kernel⟩
theorem ft:aD ["_law_box_here","_law_left","_law_x","_law_y"] ["_law_box_here"] (ar kJ):=⟨rfl,rfl,rfl,by decide+kernel,rfl,by decide+kernel,by decide+kernel⟩
theorem eI:aD ["_law_script","_law_k","_law_box_here","_law_x","_law_y","_law_yard","_law_at","_law_one","_law_other_here","_law_first","_law_second"] ["_law_script"] (ar BX):=⟨rfl,rfl,rfl,by decide+kernel,rfl,by decide+kernel,by decide+kernel⟩
theorem nE:aD ["self","yard","word","longest","steps","rounds"] ["self","yard","word","longest"] (ar iK):=⟨rfl,rfl,rfl,by decide+kernel,rfl,by decide+kernel,by decide+kernel⟩
theorem y_:aD ["self","strand","way","place"] ["self","strand","way","place"] (ar gf):=⟨rfl,rfl,rfl,by decide+kernel,rfl,by decide+kernel,by decide+kernel⟩
section
variable {P:Program} {w:World} {K:PySem.W.Frag} {mg:Str->Option Value} {base:Heap} {f0 f1 f2 f3 f4 f5 f6 f7 f8 f9 Io Ip Iq Ir Iu Iv Iw Iy BY BZ Iz IA IB IC ID IE IF IG IH II IJ IK IL IM IQ IS IT IU aH aP iU fR:Addr} {d0 d1 d2 d3 d4 d5 d6 d7 d8 d9 IV IW IX IZ I0 I_ Ja Jb Jc Jd Je Jf Jg Jh Ji Jj Jk Jl Jm Jn Jo Jp Jq Jr Js Jt Ju Jv t9 ny:FuncData}
variable (T:Txt K mg f0 f1 f2 f3 f4 f5 f6 f7 f8 f9 Io Ip Iq Ir Iu Iv Iw Iy BY BZ Iz IA IB IC ID IE IF IG IH II IJ IK IL IM IQ IS IT IU aH aP iU fR d0 d1 d2 d3 d4 d5 d6 d7 d8 d9 IV IW IX IZ I0 I_ Ja Jb Jc Jd Je Jf Jg Jh Ji Jj Jk Jl Jm Jn Jo Jp Jq Jr Js Jt Ju Jv t9 ny)
include T
theorem il:bC P w K mg base fu 1 BY Jc ["seen","start","end"] (fi K aP aH):=by
 refine T.uo.fn.ok ig (fun vs H Q E h=>lF h) (fun cA A outer s H vs Q E hr h=>?_)
 refine ⟨_,(ag (ay (i:=3) ig.nd rfl (Or.inl rfl) (aB aX (bB K rfl (pv 0) rfl) ai))
   (aj (aK (bO mC (bB K rfl (bB K rfl (pv 0) rfl) rfl) (bI (aB aX (pv 3) (pv 1))) (bI (aB aX (pv 3) (pv 2))))))),?_⟩
 obtain ⟨y,lg,s,x,z,rfl,hz,hs,Ox,q⟩:=h
 obtain ⟨d1,e1⟩:=hs.ob
 obtain ⟨d2,e2⟩:=hs.wy.ob
 have:=hs.wy.uz
 have:=hs.wy.lz
 have h1:1<=s.u.length:=Ua (Ti _) hs.pz
 have rl:=jP (lg:=lg) h1
 have PR:(100000:Nat)<sizeLine:=by decide
 refine ⟨_,rfl,s.a,aH,d1,_,_,rfl,e1,T.cX,T.n_Seen_place,jO,?_⟩
 walk_at "rd"
 refine ⟨s.a,aH,d1,_,_,rfl,e1,T.cX,T.n_Seen_way,kB,s.wy,aP,d2,_,_,rfl,e2,T.fH,T.n_Way_onward,Ls,?_⟩
 walk_at "rd"
 refine ⟨by rw[pT,cG];omega,?_⟩
 rw[show (s.p:Int)+1=((s.p+1:Nat):Int) by omega,xw Ox]
 exact q
theorem iX:bC P w K mg base fu 1 BZ Jd ["seen","start","end"] (fL K aP aH):=by
 refine T.uq.fn.ok iW (fun vs H Q E h=>m4 h) (fun cA A outer s H vs Q E hr h=>?_)
 refine ⟨_,(ag (ay (i:=3) iW.nd rfl (Or.inl rfl) (aB cJ (aB cJ (bB K rfl (bB K rfl (pv 0) rfl) rfl) ai) (bB K rfl (pv 0) rfl)))
   (aj (aK (bO mC (bB K rfl (bB K rfl (pv 0) rfl) rfl) (bI (aB aX (pv 3) (pv 1))) (bI (aB aX (pv 3) (pv 2))))))),?_⟩
 obtain ⟨y,lg,s,x,z,rfl,hz,hs,Ox,q⟩:=h
 obtain ⟨d1,e1⟩:=hs.ob
 obtain ⟨d2,e2⟩:=hs.wy.ob
 have:=hs.wy.uz
 have:=hs.wy.lz
 have hp:=hs.pz
 have h1:1<=s.u.length:=Ua (Ti _) hs.pz
 have rl:=jP (lg:=lg) h1
 have PR:(100000:Nat)<sizeLine:=by decide
 refine ⟨_,rfl,s.a,aH,d1,_,_,rfl,e1,T.cX,T.n_Seen_way,kB,s.wy,aP,d2,_,_,rfl,e2,T.fH,T.n_Way_size,xv,?_⟩
 walk_at "rd"
 refine ⟨s.a,aH,d1,_,_,rfl,e1,T.cX,T.n_Seen_place,jO,?_⟩
 walk_at "rd"
 refine ⟨s.a,aH,d1,_,_,rfl,e1,T.cX,T.n_Seen_way,kB,s.wy,aP,d2,_,_,rfl,e2,T.fH,T.n_Way_backward,DT,?_⟩
 walk_at "rd"
 refine ⟨by rw[pT,Ul,cG];omega,?_⟩
 rw[show (s.u.length:Int) - 1 - s.p=((s.u.length - 1 - s.p:Nat):Int) by omega,xw Ox]
 exact q
theorem vZ:bC P w K mg base fu 2 Iz Je ["steps","one","other","enough"] (m5 K aP aH BY BZ):=by
 have bT:=il (P:=P) (w:=w) (base:=base) T
 have cg:=iX (P:=P) (w:=w) (base:=base) T
 refine T.Hk.fn.ok cY (fun vs H Q E h=>tP h) (fun cA A outer s H vs Q E hr h=>?_)
 refine ⟨_,(ag (ay (i:=4) cY.nd rfl (Or.inl rfl) ai)
   (ag (ay (i:=5) cY.nd rfl (Or.inl rfl) ai)
   (wR (eS PassesOwn.never (PW.pt (uv (a_ oI (pv 4) (pv 3) (ba _)) (p9 (a_ kc (jy (pv 0) bT (hr.mono (by decide)) T.uo.fn.kp T.uo.bd cg (hr.mono (by decide)) T.uq.fn.kp T.uq.bd aC (aa (pv 1) (aa (pv 4) (aa (aB aX (pv 4) (pv 5)) ae)))) (jy (pv 0) bT (hr.mono (by decide)) T.uo.fn.kp T.uo.bd cg (hr.mono (by decide)) T.uq.fn.kp T.uq.bd aC (aa (pv 2) (aa (pv 4) (aa (aB aX (pv 4) (pv 5)) ae)))) (ba _))))) (ag (i0 (i:=4) cY.nd rfl (Or.inl rfl) (pv 5) qa)
   (aj (i0 (i:=5) cY.nd rfl (Or.inl rfl) ai Gw))))
   (wR (eS PassesOwn.never (a_ wB (pv 5) ai (ba _)) (ag (i0 (i:=5) cY.nd rfl (Or.inl rfl) ai Di)
   (aj (cL (a_ kc (jy (pv 0) bT (hr.mono (by decide)) T.uo.fn.kp T.uo.bd cg (hr.mono (by decide)) T.uq.fn.kp T.uq.bd aC (aa (pv 1) (aa (pv 4) (aa (aB aX (pv 4) (pv 5)) ae)))) (jy (pv 0) bT (hr.mono (by decide)) T.uo.fn.kp T.uo.bd cg (hr.mono (by decide)) T.uq.fn.kp T.uq.bd aC (aa (pv 2) (aa (pv 4) (aa (aB aX (pv 4) (pv 5)) ae)))) (ba _)) (aj (i0 (i:=4) cY.nd rfl (Or.inl rfl) (pv 5) qa)) bU))))
   (aj (aK (pv 4))))))),?_⟩
 obtain ⟨y,lg,s1,t1,b,en,rfl,hz,hs,ht,Ts,q⟩:=h
 have call: ∀(u:Sn) (x d:Nat) (t:TA) (σ:L2.St) (Q':VK),σ[0]? =some (some (V.ref (if b=true then BY else BZ)))->hJ H aP aH y lg u->(∀R:List V->Hp->Prop,R [V.ref u.a,V.int x,V.int ((x:Int)+d)] H->t σ H R)->Q' (V.str (S (seg (G7 b y lg u) x (x+d)))) H->Al BY BZ (fi K aP aH) (fL K aP aH) E0 (xY 0) t σ H Q':=by
  intro u x d t σ Q' h0 hu Ow hq
  refine ⟨_,h0,?_⟩
  cases b
  ·exact .inr ⟨rfl,Ow _ ⟨y,lg,u,x,x+d,by rw[Ud],hz,hu,by omega,hq⟩⟩
  ·exact .inl ⟨rfl,Ow _ ⟨y,lg,u,x,x+d,by rw[Ud],hz,hu,by omega,hq⟩⟩
 generalize (if b=true then BY else BZ)=fx at call ⊢
 generalize el:G7 b y lg s1=l at q
 generalize em:G7 b y lg t1=m at q
 walk_at "rd"
 refine ⟨fun σ H'=> ∃(mn sz e:Nat),σ=[some (.ref fx),some (.ref s1.a),some (.ref t1.a),some (.int en),some (.int mn),some (.int sz)]/\H'=H/\sz=2 ^ e/\sz<=1000000/\mn<=1000000/\hU l m mn/\(en<=mn\/ ∃k,mn<=k/\k<mn+sz/\l[k]?≠ m[k]?),?_,?_⟩
 ·refine ⟨fun w σ H'=> ∃(mn sz e:Nat),σ=[some (.ref fx),some (.ref s1.a),some (.ref t1.a),some (.int en),some (.int mn),some (.int sz)]/\H'=H/\w=en - mn/\sz=2 ^ e/\mn+1=sz/\mn<=2*en/\hU l m mn,⟨_,0,1,0,rfl,rfl,rfl,rfl,rfl,Ti _,fun k hk=>absurd hk (VI _)⟩,?_⟩
  rintro w' σ H2 ⟨mn,sz,e,rfl,rfl,rfl,he,Tt,Mv,ha⟩
  walk_at "rd"
  refine dk (fun z=>?_) (fun z=>?_)
  ·have z1:(mn:Int)<en:=of_decide_eq_true z
   refine call s1 mn sz _ _ _ rfl hs (fun R hR=>⟨_,rfl,_,rfl,_,rfl,_,rfl,_,_,rfl,rfl,hR⟩) ?_
   refine call t1 mn sz _ _ _ rfl ht (fun R hR=>⟨_,rfl,_,rfl,_,rfl,_,rfl,_,_,rfl,rfl,hR⟩) ?_
   rw[el,em]
   walk_at "rd"
   refine dk (fun y1=>?_) (fun y1=>?_)
   ·have y2:seg l mn (mn+sz)=seg m mn (mn+sz):=by simpa using of_decide_eq_true y1
    refine ⟨_,rfl,_,rfl,_,_,rfl,rfl,_,rfl,_,_,rfl,rfl, .inl ⟨by omega,by omega⟩,?_⟩
    refine ⟨en - (mn+sz),by omega,mn+sz,sz*2,e+1,by rw[Ud,Int.natCast_mul];rfl,rfl,rfl,by rw[he,Nat.pow_succ],by omega,by omega,ha.more y2⟩
   ·have y2:seg l mn (mn+sz)≠seg m mn (mn+sz):=fun w=>y1 (decide_eq_true (by rw[w]))
    exact ⟨mn,sz,e,rfl,rfl,he,by omega,by omega,ha, .inr (Bo y2)⟩
  ·have z1: ¬(mn:Int)<en:=fun w=>z (decide_eq_true w)
   exact ⟨mn,sz,e,rfl,rfl,he,by omega,by omega,ha, .inl (by omega)⟩
 ·rintro σ H2 ⟨mn,sz,e,rfl,rfl,he,hsz,Mv,ha,hb⟩
  refine ⟨fun σ H'=> ∃mn:Nat,σ=[some (.ref fx),some (.ref s1.a),some (.ref t1.a),some (.int en),some (.int mn),some (.int 1)]/\H'=H2/\hU l m mn/\(en<=mn\/l[mn]?≠ m[mn]?),?_,?_⟩
  ·refine ⟨fun w σ H'=> ∃(mn sz e:Nat),σ=[some (.ref fx),some (.ref s1.a),some (.ref t1.a),some (.int en),some (.int mn),some (.int sz)]/\H'=H2/\sz=w/\sz=2 ^ e/\sz<=1000000/\mn<=3000000 - 2*sz/\hU l m mn/\(en<=mn\/ ∃k,mn<=k/\k<mn+sz/\l[k]?≠ m[k]?),⟨_,mn,sz,e,rfl,rfl,rfl,he,hsz,by omega,ha,hb⟩,?_⟩
   rintro w' σ H3 ⟨mn,sz,e,rfl,rfl,rfl,he,hsz,Mv,ha,hb⟩
   walk_at "rd"
   refine dk (fun z=>?_) (fun z=>?_)
   ·have z1:(1:Int)<sz:=of_decide_eq_true z
    obtain ⟨e',rfl⟩: ∃e',e=e'+1:=⟨e - 1,by
     cases e with
     | zero=>rw[he]at z1;simp at z1
     | succ e=>rfl⟩
    have hh:sz=2*2 ^ e':=by rw[he,Nat.pow_succ,U3]
    have hp:0<2 ^ e':=Nat.pow_pos (by decide)
    generalize LF:2 ^ e'=h2 at hh hp
    have Oy:=LF.symm
    have ed:(sz:Int) / 2=(h2:Nat):=by omega
    refine ⟨_,rfl,_,_,rfl,rfl,⟨by decide,by decide⟩,?_⟩
    refine call s1 mn h2 _ _ _ rfl hs (fun R hR=>⟨_,rfl,_,rfl,_,rfl,_,rfl,_,_,rfl,rfl,by rw[ed];exact hR⟩) ?_
    refine call t1 mn h2 _ _ _ rfl ht (fun R hR=>⟨_,rfl,_,rfl,_,rfl,_,rfl,_,_,rfl,rfl,by rw[ed];exact hR⟩) ?_
    rw[el,em]
    walk_at "rd"
    have LG: ∃e2,h2=2 ^ e2:=⟨e',Oy⟩
    obtain ⟨e2,PU⟩:=LG
    refine dk (fun y1=>?_) (fun y1=>?_)
    ·have y2:seg l mn (mn+h2)=seg m mn (mn+h2):=by simpa using of_decide_eq_true y1
     refine ⟨_,rfl,_,rfl,_,_,rfl,rfl,?_⟩
     refine ⟨h2,by omega,mn+h2,h2,e2,by rw[Ud, <-ed];rfl,rfl,rfl,PU,by omega,by omega,ha.more y2,?_⟩
     rcases hb with hb | ⟨k,k1,k2,k3⟩
     ·exact .inl (by omega)
     ·refine .inr ⟨k,Classical.byContradiction fun w=>k3 (vM.mp y2 k k1 (by omega)),by omega,k3⟩
    ·have y2:seg l mn (mn+h2)≠seg m mn (mn+h2):=fun w=>y1 (decide_eq_true (by rw[w]))
     exact ⟨h2,by omega,mn,h2,e2,by rw[<-ed];rfl,rfl,rfl,PU,by omega,by omega,ha, .inr (Bo y2)⟩
   ·have z1: ¬(1:Int)<sz:=fun w=>z (decide_eq_true w)
    have hp:0<2 ^ e:=Nat.pow_pos (by decide)
    have e1:sz=1:=by omega
    subst e1
    exact ⟨mn,rfl,rfl,ha,hb.imp id fun ⟨k,k1,k2,k3⟩=>by rwa [show k=mn by omega]at k3⟩
  ·rintro σ H3 ⟨mn,rfl,rfl,ha,hb⟩
   exact ⟨_,rfl,q mn ha hb⟩
theorem eh:bC P w K mg base fu 1 f0 d0 ["letter"] (kS K):=by
 refine T.F0.fn.ok t_ (fun vs H Q E h=>qA h) (fun cA A outer s H vs Q E hr h=>?_)
 refine ⟨_,(ag (cL (jZ (dN K rfl T5 VX VW i3 (pv 0))) (aj (aK (dN K rfl T5 PySem.F.slot_str_upper PySem.F.type_str_upper zS (pv 0)))) bU)
   (aj (aK (dN K rfl T5 V5 V3 mE (pv 0))))),?_⟩
 obtain ⟨c,rfl,hc,q⟩:=h
 refine ⟨_,rfl,rfl,c,rfl,rfl,hc,_,rfl,dk (fun e=>?_) (fun e=>?_)⟩
 ·refine ⟨_,rfl,rfl,c,rfl,rfl,hc,?_⟩
  have z:ao c=PyProof.Rows.up1 c:=if_pos e
  rw[<-z]
  exact q
 ·refine ⟨_,rfl,rfl,c,rfl,rfl,hc,?_⟩
  have z:ao c=PyProof.Rows.lo1 c:=if_neg e
  rw[<-z]
  exact q
theorem nF:bC P w K mg base fu 2 Iq IX ["word","place"] (gY K):=by
 have cj:=eh (P:=P) (w:=w) (base:=base) T
 refine T.Mz.fn.ok nA (fun vs H Q E h=>lB h) (fun cA A outer s H vs Q E hr h=>?_)
 refine ⟨_,(aj (aK (cC (aa (ak cj (hr.mono (by decide)) rfl T.F0.mg T.F0.fn.kp T.F0.bd .nil aC (aa (aN qk (pv 0) (aB cJ (pv 1) ai) (fun _ _=>rfl)) ae)) (aa (aN qk (pv 0) (pv 1) (fun _ _=>rfl)) ae))))),?_⟩
 obtain ⟨w,i,rfl,hl,hz,hi,q⟩:=h
 have hs:(100000:Nat)<sizeLine:=by decide
 have fD:w≠[]:=fun z=>by rw[z]at hi;simp at hi
 refine ⟨_,rfl,_,rfl,_,_,rfl,rfl,w,_,_,rfl,rfl,by omega,AA (by omega) (by omega),_,rfl,(hl _ (qD fD _)).lt,?_⟩
 refine ⟨_,rfl,_,rfl,w,_,_,rfl,rfl,by omega,AA (by omega) (by omega),by show 2<=sizeLine;decide,fun t nt=>?_⟩
 exact q t _ nt ah (au.upd nt)
theorem nG:bC P w K mg base fu 1 f3 d3 ["yard","start","end"] (gX K):=by
 refine T.F3.fn.ok nz (fun vs H Q E h=>lA h) (fun cA A outer s H vs Q E hr h=>?_)
 refine ⟨_,(aj (aK (aB dB (aB cJ (cq K rfl T5 PySem.F.slot_str_find PySem.F.type_str_find sk (pv 0) (aa (pv 2) ae)) (cq K rfl T5 PySem.F.slot_str_find PySem.F.type_str_find sk (pv 0) (aa (pv 1) ae))) (aL bp rfl T.z_len Ub (aa (pv 0) ae))))),?_⟩
 obtain ⟨y,a,b,rfl,ha,hb,hz,q⟩:=h
 have hs:(1000:Nat)<sizeLine:=by decide
 have hp:(0:Int)<(y.length:Int):=by have:=List.length_pos_of_mem ha;omega
 refine ⟨_,rfl,rfl,_,rfl,y,b,rfl,rfl,?_⟩
 rw[if_pos hb]
 refine ⟨_,rfl,rfl,_,rfl,y,a,rfl,rfl,?_⟩
 rw[if_pos ha]
 exact ⟨_,_,rfl,rfl,_,rfl,y,rfl,by omega,_,_,rfl,rfl,hp,q⟩
theorem lI:bC P w K mg base fu 3 Iy Jb ["yard","word","place"] (gF K):=by
 have oq:=nF (P:=P) (w:=w) (base:=base) T
 have ou:=nG (P:=P) (w:=w) (base:=base) T
 refine T.MD.fn.ok gH (fun vs H Q E h=>kC h) (fun cA A outer s H vs Q E hr h=>?_)
 refine ⟨_,(ag (ay (i:=3) gH.nd rfl (Or.inl rfl) (ak oq (hr.mono (by decide)) rfl T.Mz.mg T.Mz.fn.kp T.Mz.bd .nil aC (aa (pv 1) (aa (pv 2) ae))))
   (aj (aK (ak ou (hr.mono (by decide)) rfl T.F3.mg T.F3.fn.kp T.F3.bd .nil aC (aa (pv 0) (aa (aN (aU K rfl) (pv 3) ai (fun _ _=>rfl)) (aa (aN (aU K rfl) (pv 3) ai (fun _ _=>rfl)) ae))))))),?_⟩
 obtain ⟨y,w,i,rfl,hy,hz,hw,Cz,hi,q⟩:=h
 refine ⟨_,rfl,_,rfl,w,i,rfl,fun c hc=>hy.lt c (hw.bH c hc),Cz,hi,fun p H1 np hp s1=>?_⟩
 refine ⟨_,rfl,_,rfl,p,_,0,_,rfl,rfl,cy.of hp,rfl,_,rfl,p,_,1,_,rfl,rfl,cy.of hp,rfl,y,_,_,rfl,hy.cl _ (hw.rd _),hw.rd _,by omega,?_⟩
 have rg:=dG (hy.cl _ (hw.rd ((i:Int) - 1))) (hw.rd i) (Ne.symm (hw.red i))
 obtain ⟨n,hn⟩: ∃n:Nat,cst y w i=n:=⟨(cst y w i).toNat,by have:=rg.1;unfold cst;omega⟩
 have:=rg.2.1
 have e:tf y (ao (rd w ((i:Int) - 1))) (rd w i)=n:=hn
 have key:=q n H1 hn (by omega) s1
 rw[<-e]at key
 exact key
theorem za:bC P w K mg base fu 1 fR ny ["self","strand","way","place"] (pR K aH):=by
 refine T.Hr.ok y_ (fun vs H Q E h=>vL h) (fun cA A outer s H vs Q E hr h=>?_)
 refine ⟨_,(ag (gQ (pv 0) (pv 1) rfl)
   (ag (gQ (pv 0) (pv 2) rfl)
   (aj (gQ (pv 0) (pv 3) rfl)))),?_⟩
 obtain ⟨x,dx,t,w',p,rfl,hx,q⟩:=h
 refine ⟨_,rfl,_,rfl,x,aH,dx,_,rfl,hx,T.cX,T.n_Seen_strand,by show 0<1000;decide,?_⟩
 refine ⟨_,rfl,_,rfl,x,aH,dx,_,rfl,ah,T.cX,T.n_Seen_way,Ua (cE _ _ _) (by show 0+1<1000;decide),?_⟩
 refine ⟨_,rfl,_,rfl,x,aH,dx,_,rfl,ah,T.cX,T.n_Seen_place,Ua (cE _ _ _) (Ua (UU (cE _ _ _)) (by show 0+1+1<1000;decide)),?_⟩
 exact q _ ah fun b o e z=>by rw[az z,az z,az z];exact e
theorem nH:bC P w K mg base fu 3 ID Ji ["words","ways","strand"] (hZ K aP aH):=by
 have ua:=za (P:=P) (w:=w) (base:=base) T
 refine T.MG.fn.ok fq (fun vs H Q E h=>lH h) (fun cA A outer s H vs Q E hr h=>?_)
 refine ⟨_,(ag (ay (i:=3) fq.nd rfl (Or.inl rfl) (aN (aU K rfl) (pv 0) (aN (aU K rfl) (pv 2) ai (fun _ _=>rfl)) (fun _ _=>rfl)))
   (ag (ay (i:=4) fq.nd rfl (Or.inl rfl) (aN (aU K rfl) (pv 2) ai (fun _ _=>rfl)))
   (ag (cL (jZ (dN K rfl T5 VX VW i3 (aN qk (pv 3) (pv 4) (fun _ _=>rfl)))) (aj (aK (lM T.B3 ua (hr.mono (by decide)) rfl T.B2 T.B4 .nil aC (aa (pv 2) (aa (aN (aU K rfl) (aN (bf K rfl) (pv 1) (aN (aU K rfl) (pv 2) ai (fun _ _=>rfl)) (fun _ _=>rfl)) ai (fun _ _=>rfl)) (aa (pv 4) ae)))))) bU)
   (aj (aK (lM T.B3 ua (hr.mono (by decide)) rfl T.B2 T.B4 .nil aC (aa (pv 2) (aa (aN (aU K rfl) (aN (bf K rfl) (pv 1) (aN (aU K rfl) (pv 2) ai (fun _ _=>rfl)) (fun _ _=>rfl)) ai (fun _ _=>rfl)) (aa (aB cJ (aB cJ (aL bp rfl T.z_len Ub (aa (pv 3) ae)) ai) (pv 4)) ae))))))))),?_⟩
 obtain ⟨y,lg,wt,vt,st,w',ws,jX,p,c,i,rfl,hy,ub,MN,kN,hw,hp,ok,hi,q⟩:=h
 have hs:(100000:Nat)<sizeLine:=by decide
 have Cz:=ok.on.uz
 have PV:=ok.on.lz
 have RT:=ok.on.sw
 have h8:(rd w' i)<128:=(hy.lt _ (RT.rd _)).lt
 have hc:(ve ws)[c]? =some (V.str (S w')):=by
  have hl:=(FX.mp hw).1
  rw[mQ hl,(FX.mp hw).2]
 refine ⟨_,rfl,_,rfl,st,_,0,_,rfl,rfl,cy.of kN,rfl,wt,_,_,_,rfl,rfl,cy.of ub,cR hc,?_⟩
 refine ⟨_,rfl,st,_,1,_,rfl,rfl,cy.of kN,rfl,?_⟩
 refine ⟨_,rfl,_,rfl,w',_,_,rfl,rfl,by omega,by rw[AA (by omega) (by omega)],?_⟩
 have made: ∀(x dx:Addr) (H':Hp) (t w2:Addr) (pl:Nat),H x=none->H dx=none->dx≠x->aW x (L2.upd (L2.upd H dx (.own x)) x (.ins aH dx [])) H'->au H H':=fun x dx H' t w2 pl nx Ha ne sm a o e=>by
  refine sm a o ?_ (aq e nx)
  rw[az (aq e nx),az (aq e Ha)]
  exact e
 refine ⟨rfl,_,rfl,rfl,h8,?_⟩
 walk_at "rd"
 refine dk (fun z=>?_) (fun z=>?_)
 ·refine ⟨_,rfl,_,rfl,_,rfl,st,_,0,_,rfl,rfl,cy.of kN,rfl,vt,_,_,_,rfl,rfl,bK.of MN,cR (Bt hp),p.t,_,0,_,rfl,rfl,cy.of ok.tp,rfl,_,rfl,fun x dx nx Ha ne=>⟨x,dx,st,p.a,i,rfl,ah,fun H' hx sm=>⟨rfl,?_⟩⟩⟩
  have Ht:=made x dx H' st p.a i nx Ha ne sm
  exact q ⟨x,st,p.a,c,i,w',i,p.r⟩ H' ⟨rfl,rfl,by rw[if_pos z],by rw[if_pos z]⟩ rfl ⟨⟨dx,hx⟩,Ht _ _ kN,ok.on.same Ht,hi⟩ nx Ht
 ·have ei:(w'.length:Int) - 1 - i=((w'.length - 1 - i:Nat):Int):=by omega
  refine ⟨_,rfl,_,rfl,_,rfl,st,_,0,_,rfl,rfl,cy.of kN,rfl,vt,_,_,_,rfl,rfl,bK.of MN,cR (Bt hp),p.t,_,1,_,rfl,rfl,cy.of ok.tp,rfl,_,rfl,w',rfl,by omega,_,_,rfl,rfl,_,rfl,_,_,rfl,rfl,fun x dx nx Ha ne=>⟨x,dx,st,p.b,w'.length - 1 - i,by rw[<-ei];rfl,ah,fun H' hx sm=>⟨rfl,?_⟩⟩⟩
  have Ht:=made x dx H' st p.b 0 nx Ha ne sm
  exact q ⟨x,st,p.b,c,i,gm w',w'.length - 1 - i,p.q⟩ H' ⟨rfl,rfl,by rw[if_neg z],by rw[if_neg z]⟩ rfl ⟨⟨dx,hx⟩,Ht _ _ kN,ok.bk.same Ht,by show w'.length - 1 - i<(gm w').length;rw[b7];omega⟩ nx Ht
theorem rC:bC P w K mg base fu 2 Ir IZ ["word"] (jC K):=by
 have cj:=eh (P:=P) (w:=w) (base:=base) T
 refine T.MA.fn.ok gz (fun vs H Q E h=>oe h) (fun cA A outer s H vs Q E hr h=>?_)
 refine ⟨_,(ag (ay (i:=1) gz.nd rfl (Or.inl rfl) (dj ae))
   (ag (cW PassesOwn.never rfl (ql (pv 0)) (aT (i:=2) gz.nd rfl (Or.inl rfl)) (aj (cL (PW.pt (uv (C5 K rfl (pv 1)) (p9 (a_ kc (aN (bf K rfl) (pv 1) (rZ mj ai) (fun _ _=>rfl)) (ak cj (hr.mono (by decide)) rfl T.F0.mg T.F0.fn.kp T.F0.bd .nil aC (aa (pv 2) ae)) (ba _))))) (aj (eM (dN K rfl Ui VA Vy FR (pv 1)))) (aj (eM (cq K rfl Ui U6 U5 fU (pv 1) (aa (pv 2) ae)))))))
   (aj (aK (cq K rfl T5 Vz Vx (jw K rfl) (qj [] (by decide+kernel)) (aa (pv 1) ae)))))),?_⟩
 obtain ⟨l,rfl,hl,hz,q⟩:=h
 have hs:(100000:Nat)<sizeLine:=by decide
 walk_at "rd"
 intro p1 n1
 refine ⟨_,rfl,l,rfl,?_⟩
 refine wK (xs:=dz l) (fun i σ H'=> ∃lv,σ=[some (.str (S l)),some (.ref p1),lv]/\H' p1=some (.lst (dz (red (l.take i))))/\aW p1 H H') ⟨none,rfl,ah,aW.of (au.upd n1)⟩ ?_ ?_
 ·rintro i x σ H1 hx ⟨lv,rfl,hp,s1⟩
  obtain ⟨c,hc,rfl⟩:=jv hx
  have hi:i<l.length:=(FX.mp hc).1
  have h8:c<128:=(hl c (TU hc)).lt
  have PX:(red (l.take i)).length<=1000:=Ug (jA _) (by rw[T4];omega)
  have fin: ∀st,st=eJ (red (l.take i)) c-> ∃lv,[some (V.str (S l)),some (V.ref p1),some (V.str (S [c]))]=[some (V.str (S l)),some (.ref p1),lv]/\(upd H1 p1 (.lst (dz st))) p1=some (.lst (dz (red (l.take (i+1)))))/\aW p1 H (upd H1 p1 (.lst (dz st))):=fun st e=>
   ⟨_,rfl,by rw[ah,Ar hc,e],fun b o e z=>by rw[az z];exact s1 b o e z⟩
  refine ⟨_,rfl,p1,_,rfl,bK.of hp,?_⟩
  rcases snoc_cases (red (l.take i)) with e | ⟨m,a,e⟩
  ·rw[e]at hp ⊢
   refine Dp rfl ?_
   refine Ks ?_
   refine ⟨_,rfl, .inl ⟨rfl,_,bK.of hp⟩,_,rfl,p1,_,_,rfl,rfl,hp,by rw[bP];exact (by decide:(0:Nat)<sizeLine),?_⟩
   rw[eY]
   refine fin _ ?_
   rw[e]
   unfold eJ
   rw[if_neg (by simp)]
  ·rw[e]at hp PX ⊢
   have RU:m.length<=1000:=by simp at PX;omega
   rw[<-eY]at hp ⊢
   refine Oc (by simp) ?_
   refine ⟨_,rfl,_,rfl,p1,_,_,_,rfl,rfl,bK.of hp,zJ _ _,_,rfl,c,rfl,h8,[a],[ao c],rfl,rfl,_,rfl,dk (fun z=>?_) (fun z=>?_)⟩
   ·have ea:a=ao c:=by simpa using of_decide_eq_true z
    refine ⟨_,rfl, .inl ⟨rfl,_,bK.of hp⟩,p1,_,V.str (S [a]),rfl,rfl,hp,by simp,?_⟩
    rw[Wm]
    refine fin _ ?_
    rw[e]
    unfold eJ
    rw[if_pos (by simp[ea]),Wm]
   ·have ea:a≠ao c:=fun w=>z (decide_eq_true (by rw[w]))
    refine ⟨_,rfl, .inl ⟨rfl,_,bK.of hp⟩,_,rfl,p1,_,_,rfl,rfl,hp,by rw[Tn,bP];show m.length+1<sizeLine;omega,?_⟩
    rw[eY,eY]
    refine fin _ ?_
    rw[e]
    unfold eJ
    rw[if_neg (by simpa using ea)]
 ·rintro σ H1 ⟨lv,rfl,hp,s1⟩
  rw[sS]at hp
  refine ⟨rfl,_,rfl,p1,(red l).map fun c=>[c],rfl,rfl,bK.of (by rw[<-iu];exact hp),?_,?_⟩
  ·rw[Ao]
   have:=jA l
   omega
  ·rw[sR]
   exact q _ (fun b o e=>s1 b o e (aq e n1))
theorem uc:bC P w K mg base fu 3 Iu I0 ["word"] (kT K):=by
 have ud:=rC (P:=P) (w:=w) (base:=base) T
 have cj:=eh (P:=P) (w:=w) (base:=base) T
 refine T.MB.fn.ok c_ (fun vs H Q E h=>qB h) (fun cA A outer s H vs Q E hr h=>?_)
 refine ⟨_,(ag (ay (i:=1) c_.nd rfl (Or.inl rfl) (ak ud (hr.mono (by decide)) rfl T.MA.mg T.MA.fn.kp T.MA.bd .nil aC (aa (pv 0) ae)))
   (ag (ay (i:=2) c_.nd rfl (Or.inl rfl) ai)
   (ag (ay (i:=3) c_.nd rfl (Or.inl rfl) (aL bp rfl T.z_len Ub (aa (pv 1) ae)))
   (ag (eS PassesOwn.never (PW.pt (uv (a_ wC (aB cJ (pv 3) (pv 2)) ai (ba _)) (p9 (a_ kc (aN qk (pv 1) (pv 2) (fun _ _=>rfl)) (ak cj (hr.mono (by decide)) rfl T.F0.mg T.F0.fn.kp T.F0.bd .nil aC (aa (aN qk (pv 1) (aB cJ (pv 3) ai) (fun _ _=>rfl)) ae)) (ba _))))) (ag (i0 (i:=2) c_.nd rfl (Or.inl rfl) ai qa)
   (aj (i0 (i:=3) c_.nd rfl (Or.inl rfl) ai Fv))))
   (aj (aK (bO mC (pv 1) (bI (pv 2)) (bI (pv 3))))))))),?_⟩
 obtain ⟨l,rfl,hl,hz,q⟩:=h
 have hs:(100000:Nat)<sizeLine:=by decide
 refine ⟨_,rfl,l,rfl,hl,hz,fun H1 s1=>?_⟩
 have EL:=jA l
 have dc:=Gx hl
 generalize red l=r at EL dc q ⊢
 have PY:r.length<=sizeLine:=by omega
 walk_at "rd"
 refine ⟨fun m σ H'=> ∃(a e:Nat),σ=[some (.str (S l)),some (.str (S r)),some (.int a),some (.int e)]/\m=e - a/\a<=e/\e<=r.length/\core (zp r a e)=core r/\H'=H1,⟨_,0,r.length,rfl,rfl,Ti _,Mj _,by rw[Ds],rfl⟩,?_⟩
 rintro m σ H2 ⟨a,e,rfl,rfl,h1,h2,hc,rfl⟩
 have fin:core (zp r a e)=zp r a e->Q (.str (S (cut r (some (a:Int)) (some (e:Int))))) H2:=fun z=>by
  have e1:cut r (some (a:Int)) (some (e:Int))=zp r a e:=by
   unfold cut zp
   rw[HT.fz,HT.fz]
   have e1:min a r.length=a:=by omega
   have e2:min e r.length=e:=by omega
   rw[e1,e2]
  rw[e1, <-z,hc]
  exact q H2 s1
 walk_at "rd"
 refine dk (fun z=>?_) (fun z=>?_)
 ·have z1:(2:Int)<=(e:Int) - (a:Int):=of_decide_eq_true z
  have ha:a<r.length:=by omega
  have he:e - 1<r.length:=by omega
  have g0:j6 r (a:Int)=some r[a]:=cR (FW ha)
  have g1:j6 r ((e:Int) - 1)=some r[e - 1]:=by
   have:(e:Int) - 1=((e - 1:Nat):Int):=by omega
   rw[this];exact cR (FW he)
  have h8:r[e - 1]<128:=(dc _ (Uy he)).lt
  have hw:=Gy (l:=r) (s:=a) (e:=e) (by omega) h2
  refine ⟨_,rfl,_,rfl,r,_,_,rfl,rfl,PY,g0,?_⟩
  walk_at "rd"
  refine ⟨r,_,_,rfl,rfl,PY,g1,?_⟩
  walk_at "rd"
  refine dk (fun y=>?_) (fun y=>?_)
  ·have ey:r[a]=ao r[e - 1]:=by simpa using of_decide_eq_true y
   walk_at "rd"
   refine ⟨(e - 1) - (a+1),by omega,a+1,e - 1,?_,rfl,by omega,by omega,?_,rfl⟩
   ·have e1:(a:Int)+1=((a+1:Nat):Int):=by omega
    have e2:(e:Int) - 1=((e - 1:Nat):Int):=by omega
    rw[<-e1, <-e2]
    rfl
   ·rw[<-hc,hw,wY ey]
  ·have ey:r[a]≠ao r[e - 1]:=fun w=>y (decide_eq_true (by rw[w]))
   walk_at "rd"
   exact fin (by rw[hw,ke ey])
 ·have z1: ¬(2:Int)<=(e:Int) - (a:Int):=fun w=>z (decide_eq_true w)
  walk_at "rd"
  exact fin (gn (by rw[Dr h2];omega))
theorem ow:bC P w K mg base fu 1 Ip IW ["words","band"] (iS K):=by
 refine T.Mx.fn.ok cn (fun vs H Q E h=>m7 h) (fun cA A outer s H vs Q E hr h=>?_)
 refine ⟨_,(ag (ay (i:=2) cn.nd rfl (Or.inl rfl) (dj ae))
   (ag (cW PassesOwn.never rfl (sG K rfl rfl T.z_enumerate (aa (pv 0) ae)) (jx (n:=2) K rfl rfl (cB (aT (i:=3) cn.nd rfl (Or.inl rfl)) (cB (aT (i:=4) cn.nd rfl (Or.inl rfl)) jk))) (aj (cW PassesOwn.never rfl (z7 rfl T.z_enumerate (aa (pv 4) ae)) (jx (n:=2) K rfl rfl (cB (aT (i:=5) cn.nd rfl (Or.inl rfl)) (cB (aT (i:=6) cn.nd rfl (Or.inl rfl)) jk))) (aj (cL (a_ kc (dN K rfl T5 V5 V3 mE (pv 6)) (pv 1) (ba _)) (aj (eM (cq K rfl Ui U6 U5 fU (pv 2) (aa (cC (aa (pv 3) (aa (pv 5) ae))) ae)))) bU)))))
   (aj (aK (pv 2))))),?_⟩
 obtain ⟨wt,ws,band,rfl,ub,hf,hw,hb,q⟩:=h
 have hs:(100000:Nat)<sizeLine:=by decide
 walk_at "wk"
 intro p1 n1
 refine ⟨_,rfl,wt,rfl,⟨_,cy.of ((au.upd n1) _ _ ub)⟩,?_⟩
 refine o4 (K:=K) (a:=wt) (xs:=ve ws) (fun j σ H'=> ∃(ps:List Pr) (cv wv pv lv:Option V),σ=[some (.ref wt),some (.str (S [band])),some (.ref p1),cv,wv,pv,lv]/\H' p1=some (.lst (pJ ps))/\(∀p∈ps,lD H' p)/\ps.map Pr.pair=cD band ws j/\ps.length<=12*j/\au H H')
  ⟨[],none,none,none,none,rfl,ah,fun _ h=>absurd h Uh,rfl,Ti _,au.upd n1⟩ (fun j σ H' _ ⟨_,_,_,_,_,_,_,_,_,_,h⟩=>cy.of (h _ _ ub)) ?_ ?_
 ·rintro j x σ H1 T hx ⟨ps,cv,wv,pv,lv,rfl,hp,xJ,rQ,jV,s1⟩ nT
  have hj:j<ws.length:=by
   have:=(FX.mp hx).1
   rwa [dP]at this
  rw[mQ hj]at hx
  cases hx
  have Hu:ws[j]? =some ws[j]:=FW hj
  obtain ⟨uN,Cz⟩:=hw _ (Uy hj)
  generalize ws[j]=w at Hu uN Cz ⊢
  refine ⟨T,_,rfl,cy.of ah,rfl,_,_,rfl,_,_,rfl,rfl,?_⟩
  have sT:=au.upd (o:= .tup [.int j, .str (S w)]) nT
  refine ⟨_,rfl,w,rfl,?_⟩
  refine z8 (l:=w) (fun m σ H'=> ∃(us:List Pr) (pv lv:Option V),σ=[some (.ref wt),some (.str (S [band])),some (.ref p1),some (.int j),some (.str (S w)),pv,lv]/\H' p1=some (.lst (pJ us))/\(∀p∈us,lD H' p)/\us.map Pr.pair=cD band ws j++gD band j w m/\us.length<=12*j+m/\au H H')
   ⟨ps,pv,lv,rfl,sT _ _ hp,fun p vn=>(xJ p vn).same sT,by rw[rQ];show _=_++[];rw[UH],by omega,s1.trans sT⟩ ?_ ?_
  ·rintro m l σ H2 T2 hm ⟨us,RV,RW,rfl,wO,zl,zc,Jw,s2⟩ RX
   have Tu:m<w.length:=(FX.mp hm).1
   have PZ:=uN l (TU hm)
   have es:=vF (band:=band) (c:=j) hm
   have MO:=au.upd (o:= .tup [.int m, .str (S [l])]) RX
   refine ⟨T2,_,rfl,cy.of ah,rfl,_,_,rfl,_,_,rfl,rfl,?_⟩
   refine ⟨_,rfl,rfl,l,rfl,rfl,PZ.lt,_,rfl,[PyProof.Rows.lo1 l],[band],rfl,rfl,_,rfl,?_⟩
   have ev:decide ([PyProof.Rows.lo1 l]=[band])=vE band l:=by rw[<-A3 hb PZ];simp
   rw[ev]
   have Hv:=MO _ _ wO
   refine dk (fun z=>?_) (fun z=>?_)
   ·rw[if_pos z]at es
    refine ⟨_,rfl, .inl ⟨rfl,_,bK.of Hv⟩,_,rfl,_,rfl,by show 2<=sizeLine;decide,fun t nt=>?_⟩
    have ze:=(au.upd (o:= .tup [.int j, .int m]) nt) _ _ Hv
    have s3:=MO.trans (au.upd (o:= .tup [.int j, .int m]) nt)
    refine ⟨p1,_,_,rfl,rfl,ze,by rw[qZ];omega,?_⟩
    refine ⟨us++[⟨t,j,m⟩],_,_,rfl,by rw[ah];exact congrArg (fun x=>some (HO.lst x)) (AZ us ⟨t,j,m⟩),fun p vn=>?_,by rw[QT,zc,es,Vi];rfl,by rw[Tn];show us.length+1<=_;omega,fun a o ea=>by rw[az (aq ea n1)];exact s3 _ _ (s2 a o ea)⟩
    rcases T9.mp vn with g | g
    ·exact ((zl p g).same s3).ts (dq.C9 ze)
    ·have e2:=QU.mp g
     subst e2
     exact lD.ts (H:=upd (upd H2 T2 (.tup [.int m, .str (S [l])])) t (.tup [.int j, .int m])) ⟨ah,by show j<1000;omega,by show m<1000;omega⟩ (dq.C9 ze)
   ·rw[if_neg z,UH]at es
    exact ⟨us,_,_,rfl,Hv,fun p vn=>(zl p vn).same MO,by rw[zc,es],by omega,s2.trans MO⟩
  ·rintro σ H2 ⟨us,RV,RW,rfl,wO,zl,zc,Jw,s2⟩
   exact ⟨us,_,_,_,_,rfl,wO,zl,by rw[zc,tG Hu],by omega,s2⟩
 ·rintro σ H1 ⟨ps,cv,wv,pv,lv,rfl,hp,xJ,rQ,jV,s1⟩
  rw[dP]at rQ
  exact ⟨_,rfl,q p1 ps H1 n1 hp xJ rQ s1⟩
theorem v_:bC P w K mg base fu 1 IA Jf ["seen"] (m6 K aP aH):=by
 refine T.Hl.fn.ok jh (fun vs H Q E h=>tQ h) (fun cA A outer s H vs Q E hr h=>?_)
 refine ⟨_,(ag (ay (i:=1) jh.nd rfl (Or.inl rfl) (bB K rfl (pv 0) rfl))
   (ag (ay (i:=2) jh.nd rfl (Or.inl rfl) (aN (aU K rfl) (bB K rfl (pv 0) rfl) ai (fun _ _=>rfl)))
   (ag (cL (jZ (bB K rfl (pv 1) rfl)) (aj (aK (cC (aa (pv 2) (aa (aB cO (bB K rfl (pv 0) rfl) (bB K rfl (pv 1) rfl)) ae))))) bU)
   (aj (aK (cC (aa (rZ mj (pv 2)) (aa (rZ mj (aB cO (aB cJ (aB cJ (bB K rfl (pv 1) rfl) ai) (bB K rfl (pv 0) rfl)) (bB K rfl (pv 1) rfl))) ae)))))))),?_⟩
 obtain ⟨y,lg,s1,rfl,hs,q⟩:=h
 obtain ⟨d1,e1⟩:=hs.ob
 obtain ⟨d2,e2⟩:=hs.wy.ob
 have hp:=hs.pz
 have rp:=hX hs.wy.sw.ne hs.wy.rt
 have u1:=hs.wy.uz
 have u2:=hs.wy.lz
 refine ⟨_,rfl,s1.a,aH,d1,_,_,rfl,e1,T.cX,T.n_Seen_way,kB,?_⟩
 refine ⟨_,rfl,s1.a,aH,d1,_,_,rfl,e1,T.cX,T.n_Seen_strand,pQ,s1.t,_,0,_,rfl,rfl,cy.of hs.st,rfl,?_⟩
 refine ⟨_,rfl,s1.wy,aP,d2,_,_,rfl,e2,T.fH,T.n_Way_leads,Bn,?_⟩
 walk_at "rd"
 have RY:(s1.p:Int) / (s1.r:Int)=((s1.p / s1.r:Nat):Int):=(Vn _ _).symm
 have RZ:((s1.u.length:Int) - 1 - s1.p) / (s1.r:Int)=(((s1.u.length - 1 - s1.p) / s1.r:Nat):Int):=by
  rw[Vn];congr 1;omega
 refine dk (fun z=>?_) (fun z=>?_)
 ·refine ⟨_,rfl,_,rfl,s1.a,aH,d1,_,_,rfl,e1,T.cX,T.n_Seen_place,jO,_,rfl,s1.wy,aP,d2,_,_,rfl,e2,T.fH,T.n_Way_root_size,lX,_,_,rfl,rfl,⟨by omega,by omega⟩,by show 2<=sizeLine;decide,fun p np=>?_⟩
  refine q p _ np ?_ (au.upd np)
  rw[ah]
  unfold vN
  rw[if_pos z, <-RY]
 ·refine ⟨_,rfl,_,rfl,_,rfl,s1.wy,aP,d2,_,_,rfl,e2,T.fH,T.n_Way_size,xv,_,_,rfl,rfl,_,rfl,s1.a,aH,d1,_,_,rfl,e1,T.cX,T.n_Seen_place,jO,_,_,rfl,rfl,_,rfl,s1.wy,aP,d2,_,_,rfl,e2,T.fH,T.n_Way_root_size,lX,_,_,rfl,rfl,⟨by omega,by omega⟩,_,rfl,by show 2<=sizeLine;decide,fun p np=>?_⟩
  refine q p _ np ?_ (au.upd np)
  rw[ah]
  unfold vN
  rw[if_neg z, <-RZ]
theorem nI:bC P w K mg base fu 3 IB Jg ["one","other"] (hV K aP aH):=by
 have pX:=vZ (P:=P) (w:=w) (base:=base) T
 have pY:=v_ (P:=P) (w:=w) (base:=base) T
 have bT:=il (P:=P) (w:=w) (base:=base) T
 have cg:=iX (P:=P) (w:=w) (base:=base) T
 refine T.ME.fn.ok dy (fun vs H Q E h=>lG h) (fun cA A outer s H vs Q E hr h=>?_)
 refine ⟨_,(ag (ay (i:=2) dy.nd rfl (Or.inl rfl) (aB aX (bB K rfl (bB K rfl (pv 0) rfl) rfl) (bB K rfl (bB K rfl (pv 1) rfl) rfl)))
   (ag (ay (i:=3) dy.nd rfl (Or.inl rfl) (ak pX (hr.mono (by decide)) rfl T.Hk.mg T.Hk.fn.kp T.Hk.bd .nil aC (aa (wu (v:= .ref BY) rfl T.uo.mg rfl) (aa (pv 0) (aa (pv 1) (aa (pv 2) ae))))))
   (ag (ay (i:=4) dy.nd rfl (Or.inl rfl) (ak pX (hr.mono (by decide)) rfl T.Hk.mg T.Hk.fn.kp T.Hk.bd .nil aC (aa (wu (v:= .ref BZ) rfl T.uq.mg rfl) (aa (pv 0) (aa (pv 1) (aa (pv 2) ae))))))
   (ag (cL (a_ wC (aL (oK rfl) rfl T.z_min boot_min (aa (pv 3) (aa (pv 4) ae))) (pv 2) (ba _)) (aj (aK (gk (Gu K rfl hr) (ak pY (hr.mono (by decide)) rfl T.Hl.mg T.Hl.fn.kp T.Hl.bd .nil aC (aa (pv 0) ae)) (ak pY (hr.mono (by decide)) rfl T.Hl.mg T.Hl.fn.kp T.Hl.bd .nil aC (aa (pv 1) ae)) (ba _)))) bU)
   (ag (cL (a_ J5 (pv 3) (pv 4) (ba _)) (aj (aK (gk qp (ak bT (hr.mono (by decide)) rfl T.uo.mg T.uo.fn.kp T.uo.bd .nil aC (aa (pv 0) (aa (pv 3) (aa (aB aX (pv 3) ai) ae)))) (ak bT (hr.mono (by decide)) rfl T.uo.mg T.uo.fn.kp T.uo.bd .nil aC (aa (pv 1) (aa (pv 3) (aa (aB aX (pv 3) ai) ae)))) (ba _)))) bU)
   (aj (aK (gk qp (ak cg (hr.mono (by decide)) rfl T.uq.mg T.uq.fn.kp T.uq.bd .nil aC (aa (pv 0) (aa (pv 4) (aa (aB aX (pv 4) ai) ae)))) (ak cg (hr.mono (by decide)) rfl T.uq.mg T.uq.fn.kp T.uq.bd .nil aC (aa (pv 1) (aa (pv 4) (aa (aB aX (pv 4) ai) ae)))) (ba _))))))))),?_⟩
 obtain ⟨y,lg,s1,t1,rfl,hy,hz,hs,ht,h0,q⟩:=h
 obtain ⟨d1,e1⟩:=hs.ob
 obtain ⟨d2,e2⟩:=hs.wy.ob
 obtain ⟨d3,e3⟩:=ht.ob
 obtain ⟨d4,e4⟩:=ht.wy.ob
 have rp:=hX hs.wy.sw.ne hs.wy.rt
 have Tv:=hX ht.wy.sw.ne ht.wy.rt
 have u1:=hs.wy.uz
 have Tw:=ht.wy.uz
 have u2:=hs.wy.lz
 have ns:=hs.wy.sw.ne
 have nt:=ht.wy.sw.ne
 have lf:=aQ hs.wy.sw (s1.p:Int)
 have MP:=aQ ht.wy.sw (t1.p:Int)
 have as:=pU (lg:=lg) (s:=s1) (en:=s1.r+t1.r) hs.pz (by omega)
 have at':=pU (lg:=lg) (s:=t1) (en:=s1.r+t1.r) ht.pz (by omega)
 refine ⟨_,rfl,s1.a,aH,d1,_,_,rfl,e1,T.cX,T.n_Seen_way,kB,s1.wy,aP,d2,_,_,rfl,e2,T.fH,T.n_Way_root_size,lX,_,rfl,t1.a,aH,d3,_,_,rfl,e3,T.cX,T.n_Seen_way,kB,t1.wy,aP,d4,_,_,rfl,e4,T.fH,T.n_Way_root_size,lX,_,_,rfl,rfl,?_⟩
 refine ⟨_,rfl,_,rfl,_,rfl,y,lg,s1,t1,true,s1.r+t1.r,by rw[Ud];rfl,hz,hs,ht,by omega,fun m K6 Dd=>?_⟩
 refine ⟨_,rfl,_,rfl,_,rfl,y,lg,s1,t1,false,s1.r+t1.r,by rw[Ud];rfl,hz,hs,ht,by omega,fun n R0 wD=>?_⟩
 have Oz:hU (zr y lg s1) (zr y lg t1) m:=K6
 have LH:s1.r+t1.r<=m\/(zr y lg s1)[m]?≠ (zr y lg t1)[m]?:= Dd
 have OA:hU (zt y lg s1) (zt y lg t1) n:=R0
 have LI:s1.r+t1.r<=n\/(zt y lg s1)[n]?≠ (zt y lg t1)[n]?:= wD
 have ga: ∀k,k<s1.r+t1.r->(zr y lg s1)[k]? =some (um (dF y (sq s1.u s1.p) (k+1)))/\(zr y lg t1)[k]? =some (um (dF y (sq t1.u t1.p) (k+1))):=fun k hk=>⟨Bp ns (by omega),Bp nt (by omega)⟩
 have gb: ∀k,k<s1.r+t1.r->(zt y lg s1)[k]? =some (um (dF y (sq s1.u s1.p) (-(k:Int))))/\(zt y lg t1)[k]? =some (um (dF y (sq t1.u t1.p) (-(k:Int)))):=fun k hk=>⟨Bq ns hs.pz (by omega),Bq nt ht.pz (by omega)⟩
 refine ⟨_,rfl,_,rfl,_,_,rfl,?_⟩
 walk_at "rd"
 by_cases par: ∀k,sq s1.u s1.p k=sq t1.u t1.p k
 ·have ef:sq s1.u s1.p=sq t1.u t1.p:=funext par
  have m1:s1.r+t1.r<=m:=xE (fun k hk=>by rw[(ga k hk).1,(ga k hk).2,ef]) LH
  have n1:s1.r+t1.r<=n:=xE (fun k hk=>by rw[(gb k hk).1,(gb k hk).2,ef]) LI
  refine dk (fun z=>?_) (fun z=>absurd (decide_eq_true (show ((s1.r:Int)+t1.r)<=(if (n:Int)<m then (n:Int) else m) by split<;>omega)) z)
  refine ⟨_,rfl,y,lg,s1,rfl,hs,fun p1 H1 Tx Cu LJ=>⟨_,rfl,y,lg,t1,rfl,ht.same LJ,fun p2 H2 Tz wO b4=>?_⟩⟩
  refine ⟨p1,p2,_,_,_,_,rfl,rfl,cy.of (b4 _ _ Cu),cy.of wO,?_⟩
  have e:Cq (vN s1).1 (vN s1).2 (vN t1).1 (vN t1).2=bu (iO y (2*lg) s1) (iO y (2*lg) t1):=by
   unfold iO
   rw[ef,dZ,DV]
  have kq:=q H2 (LJ.trans b4)
  rw[<-e]at kq
  exact kq
 ·have fD: ∃k,sq s1.u s1.p k≠sq t1.u t1.p k:=Classical.byContradiction fun z=>par fun k=>Classical.byContradiction fun w=>z ⟨k,w⟩
  have z0:sq s1.u s1.p 0=sq t1.u t1.p 0:=by unfold sq;rw[Vw,Vw];exact h0
  obtain ⟨a,b,rn,ha,hb⟩:=cP (p:=s1.r) (q:=t1.r) (by omega) (by omega) (xA ns hs.wy.rt s1.p) (xA nt ht.wy.rt t1.p) z0 fD
  have pf:=xC hy lf
  have pg:=xC hy MP
  have key:=ko hy lf MP rn [(vN s1).1,(vN s1).2] [(vN t1).1,(vN t1).2] (2*lg) 0 (Ti _) (Ti _) (by omega) (by omega)
  have sa:dF y (sq s1.u s1.p) (a+1)≠dF y (sq t1.u t1.p) (a+1):=fun w=>rn.hi (by
   unfold dF at w
   rw[show (a:Int)+1 - 1=a by omega, <-rn.kj a (by omega) (by omega)]at w
   exact jH (hy.cl _ (lf.bH _)) (lf.bH _) (MP.bH _) w)
  have sb:dF y (sq s1.u s1.p) (-(b:Int))≠dF y (sq t1.u t1.p) (-(b:Int)):=fun w=>by
   have c:=vy hy lf MP (rn.kj (-(b:Int)) (by omega) (by omega)) rn.lo
   unfold fK at c
   rw[w]at c
   simp at c
  have em:m=a:=xD ha (fun k hk=>by
   rw[(ga k (by omega)).1,(ga k (by omega)).2]
   unfold dF
   rw[show (k:Int)+1 - 1=k by omega,rn.kj k (by omega) (by omega),rn.kj (k+1) (by omega) (by omega)]) (fun w=>sa (xB (pf _) (pg _) (by rw[(ga a ha).1,(ga a ha).2]at w;exact TZ w))) Oz LH
  have en:n=b:=xD hb (fun k hk=>by
   rw[(gb k (by omega)).1,(gb k (by omega)).2]
   unfold dF
   rw[rn.kj (-(k:Int)) (by omega) (by omega),rn.kj (-(k:Int) - 1) (by omega) (by omega)]) (fun w=>sb (xB (pf _) (pg _) (by rw[(gb b hb).1,(gb b hb).2]at w;exact TZ w))) OA LI
  subst em
  subst en
  refine dk (fun z=>absurd (show ((s1.r:Int)+t1.r)<=(if (n:Int)<m then (n:Int) else m) from of_decide_eq_true z) (by split<;>omega)) (fun z=>?_)
  walk_at "rd"
  have zX:(m:Int)+1=((m+1:Nat):Int):=by omega
  have GY:(n:Int)+1=((n+1:Nat):Int):=by omega
  refine dk (fun z2=>?_) (fun z2=>?_)
  ·have z3:m<=n:=by have:=of_decide_eq_true z2;omega
   refine ⟨_,rfl,_,rfl,_,rfl,_,_,rfl,rfl,y,lg,s1,m,m+1,by rw[<-zX];rfl,hz,hs,by omega,?_⟩
   refine ⟨_,rfl,_,rfl,_,rfl,_,_,rfl,rfl,y,lg,t1,m,m+1,by rw[<-zX];rfl,hz,ht,by omega,?_⟩
   refine ⟨_,_,rfl,rfl,?_⟩
   rw[if_pos z3]at key
   have e:decide (seg (zr y lg s1) m (m+1)<seg (zr y lg t1) m (m+1))=bu (iO y (2*lg) s1) (iO y (2*lg) t1):=by
    rw[lY (ga m ha).1,lY (ga m ha).2,Bs]
    exact (decide_eq_decide.mpr (Br (pf _) (pg _))).trans key.symm
   have kq:=q H (au.refl H)
   rw[<-e]at kq
   exact kq
  ·have z3: ¬m<=n:=fun w=>z2 (decide_eq_true (by omega))
   refine ⟨_,rfl,_,rfl,_,rfl,_,_,rfl,rfl,y,lg,s1,n,n+1,by rw[<-GY];rfl,hz,hs,by omega,?_⟩
   refine ⟨_,rfl,_,rfl,_,rfl,_,_,rfl,rfl,y,lg,t1,n,n+1,by rw[<-GY];rfl,hz,ht,by omega,?_⟩
   refine ⟨_,_,rfl,rfl,?_⟩
   rw[if_neg z3]at key
   have e:decide (seg (zt y lg s1) n (n+1)<seg (zt y lg t1) n (n+1))=bu (iO y (2*lg) s1) (iO y (2*lg) t1):=by
    rw[lY (gb n hb).1,lY (gb n hb).2,Bs]
    exact (decide_eq_decide.mpr (Br (pf _) (pg _))).trans key.symm
   have kq:=q H (au.refl H)
   rw[<-e]at kq
   exact kq
theorem lJ:bC P w K mg base fu 4 IC Jh ["order","seen"] (gG K aP aH):=by
 have oz:=nI (P:=P) (w:=w) (base:=base) T
 refine T.MF.fn.ok bM (fun vs H Q E h=>kD h) (fun cA A outer s H vs Q E hr h=>?_)
 refine ⟨_,(ag (ay (i:=2) bM.nd rfl (Or.inl rfl) ai)
   (ag (ay (i:=3) bM.nd rfl (Or.inl rfl) (aL (bS K rfl) rfl T.z_len Ub (aa (pv 0) ae)))
   (ag (eS PassesOwn.never (a_ oI (pv 2) (pv 3) (ba _)) (ag (ay (i:=4) bM.nd rfl (Or.inl rfl) (aB cO (aB aX (pv 2) (pv 3)) ai))
   (aj (cL (jZ (ak oz (hr.mono (by decide)) rfl T.ME.mg T.ME.fn.kp T.ME.bd .nil aC (aa (aN (bf K rfl) (pv 0) (pv 4) (fun _ _=>rfl)) (aa (pv 1) ae)))) (aj (ay (i:=2) bM.nd rfl (Or.inl rfl) (aB aX (pv 4) ai))) (aj (ay (i:=3) bM.nd rfl (Or.inl rfl) (pv 4)))))))
   (aj (aK (pv 2)))))),?_⟩
 obtain ⟨y,lg,a,ss,t1,rfl,hy,hz,ha,B7,ht,up,hn,q⟩:=h
 have hs:(100000:Nat)<sizeLine:=by decide
 have key:=Vo.mp up
 refine ⟨_,rfl,a,_,rfl, .inl (bK.of ha),?_⟩
 walk_at "rd"
 refine ⟨fun m σ H'=> ∃(lo hi:Nat) (mv:Option V),σ=[some (.ref a),some (.ref t1.a),some (.int lo),some (.int hi),mv]/\m=hi - lo/\lo<=hi/\hi<=ss.length/\(∀k s,ss[k]? =some s->k<lo->bu (iO y (2*lg) s) (iO y (2*lg) t1)=true)/\(∀k s,ss[k]? =some s->hi<=k->bu (iO y (2*lg) s) (iO y (2*lg) t1)=false)/\au H H',⟨_,0,ss.length,none,by rw[jQ];rfl,rfl,Ti _,Mj _,fun k s _ hk=>absurd hk (VI _),(fun k s e hk=>by rw[U0 hk]at e;cases e),au.refl H⟩,?_⟩
 rintro m σ H2 ⟨lo,hi,mv,rfl,rfl,h1,h2,h3,h4,s2⟩
 walk_at "rd"
 refine dk (fun z=>?_) (fun z=>?_)
 ·have z1:(lo:Int)<hi:=of_decide_eq_true z
  have em:(((lo:Int)+hi) / 2)=(((lo+hi) / 2:Nat):Int):=by omega
  have hm:(lo+hi) / 2<ss.length:=by omega
  have hg:ss[(lo+hi) / 2]? =some ss[(lo+hi) / 2]:=FW hm
  obtain ⟨ok,e0⟩:=B7 _ (Uy hm)
  walk_at "rd"
  refine ⟨a,_,((lo:Int)+hi) / 2,_,rfl,rfl,bK.of (s2 _ _ ha),by rw[em];exact cR (G8 hg),_,rfl,y,lg,ss[(lo+hi) / 2],t1,rfl,hy,hz,ok.same s2,ht.same s2,e0,fun H3 s3=>?_⟩
  walk_at "rd"
  refine dk (fun y1=>?_) (fun y1=>?_)
  ·walk_at "rd"
   have e1:((lo:Int)+hi) / 2+1=(((lo+hi) / 2+1:Nat):Int):=by omega
   refine ⟨hi - ((lo+hi) / 2+1),by omega,(lo+hi) / 2+1,hi,_,by rw[<-e1];rfl,rfl,by omega,h2,fun k s e hk=>?_,h4,s2.trans s3⟩
   by_cases q1:k=(lo+hi) / 2
   ·subst q1
    rw[hg]at e
    cases e
    exact y1
   ·obtain ⟨Kt,ek⟩:=FX.mp e
    have LK:=key k ((lo+hi) / 2) Kt hm (by omega)
    rw[ek]at LK
    cases r:bu (iO y (2*lg) s) (iO y (2*lg) t1)
    ·have:=L2.qx _ _ _ r LK
     rw[this]at y1
     cases y1
    ·rfl
  ·walk_at "rd"
   have y2:bu (iO y (2*lg) ss[(lo+hi) / 2]) (iO y (2*lg) t1)=false:=by simpa using y1
   refine ⟨(lo+hi) / 2 - lo,by omega,lo,(lo+hi) / 2,_,by rw[<-em];rfl,rfl,by omega,by omega,h3,fun k s e hk=>?_,s2.trans s3⟩
   by_cases q1:k=(lo+hi) / 2
   ·subst q1
    rw[hg]at e
    cases e
    exact y2
   ·obtain ⟨Kt,ek⟩:=FX.mp e
    have LK:=key ((lo+hi) / 2) k hm Kt (by omega)
    rw[ek]at LK
    exact L2.qx _ _ _ y2 LK
 ·have z1: ¬(lo:Int)<hi:=fun w=>z (decide_eq_true w)
  walk_at "rd"
  have e:hi=lo:=by omega
  subst e
  exact q hi H2 h2 h3 h4 s2
theorem oA:bC P w K mg base fu 5 IE Jj ["words","ways","band"] (iT K aP aH):=by
 have rD:=ow (P:=P) (w:=w) (base:=base) T
 have oB:=nH (P:=P) (w:=w) (base:=base) T
 have nJ:=lJ (P:=P) (w:=w) (base:=base) T
 refine T.MH.fn.ok dQ (fun vs H Q E h=>m9 h) (fun cA A outer s H vs Q E hr h=>?_)
 refine ⟨_,(ag (ay (i:=3) dQ.nd rfl (Or.inl rfl) (dj ae))
   (ag (cW PassesOwn.never rfl (gT K rfl (ak rD (hr.mono (by decide)) rfl T.Mx.mg T.Mx.fn.kp T.Mx.bd .nil aC (aa (pv 0) (aa (pv 2) ae)))) (aT (i:=4) dQ.nd rfl (Or.inl rfl)) (ag (ay (i:=5) dQ.nd rfl (Or.inl rfl) (ak oB (hr.mono (by decide)) rfl T.MG.mg T.MG.fn.kp T.MG.bd .nil aC (aa (pv 0) (aa (pv 1) (aa (pv 4) ae)))))
   (aj (eM (cq K rfl Ui PySem.F.slot_list_insert PySem.F.type_list_insert yy (pv 3) (aa (ak nJ (hr.mono (by decide)) rfl T.MF.mg T.MF.fn.kp T.MF.bd .nil aC (aa (pv 3) (aa (pv 5) ae))) (aa (pv 5) ae)))))))
   (aj (aK (cF (eW K rfl) rfl T.z_tuple boot_tuple (aa (eV ["seen"] [none] (gT K rfl (pv 3)) trivial (fun _ _ _ _=>(aT (i:=0) (by decide+kernel:List.Nodup (["seen"]:List Str)) rfl (Or.inl rfl))) (fun _ _ _ _=>j9) (fun _ _ _ _=>(bB K rfl (pv 0) rfl))) ae)))))),?_⟩
 obtain ⟨y,lg,wt,vt,ws,jX,band,rfl,hy,hz,ub,OB,ur,hb,MN,uN,LL,q⟩:=h
 have hs:(100000:Nat)<sizeLine:=by decide
 walk_at "rd"
 intro a na
 have s0:=au.upd (o:= .lst []) na
 refine ⟨_,rfl,_,rfl,wt,ws,band,rfl,s0 _ _ ub,OB,fun w hw=>⟨fun c hc=>hy.lt c ((ur w hw).1.bH c hc),(ur w hw).2⟩,hb,fun b ps H1 nb Cr xJ rQ s1=>?_⟩
 have Hw:=s0.trans s1
 have R1:b≠a:=fun z=>by rw[z,ah]at nb;cases nb
 have R3:ps.length<=48:=by
  have h1:(ps.map Pr.pair).length<=48:=by
   rw[rQ]
   have:=h7 band (fun w hw=>(ur w hw).2) ws.length (Mj _)
   omega
  rwa [HX]at h1
 have pin: ∀p∈ps, ∃w,ws[p.c]? =some w/\p.i<w.length/\vE band (rd w p.i)=true:=fun p hp=>by
  have hm:p.pair∈cD band ws ws.length:=by rw[<-rQ];exact T3.mpr ⟨p,hp,rfl⟩
  exact vP hm
 refine ⟨b,rfl,⟨_,bK.of Cr⟩,?_⟩
 refine jm (K:=K) (a:=b) (xs:=pJ ps) (fun k σ H'=> ∃(ss:List Sn) (sv nv:Option V),σ=[some (.ref wt),some (.ref vt),some (.str (S [band])),some (.ref a),sv,nv]/\H' a=some (.lst (xF ss))/\(∀s∈ss,hJ H' aP aH y lg s/\rd s.u s.p=band/\ ∃w,ws[s.c]? =some w/\vO w s.c s.i s/\s.i<w.length)/\(ss.map fun s=>(s.c,s.i)).Perm ((ps.take k).map Pr.pair)/\yY y (2*lg) ss/\aW a H1 H')
  ⟨[],none,none,rfl,s1 _ _ ah,fun _ h=>absurd h Uh, .nil,List.Pairwise.nil,aW.refl _ _⟩ (fun k σ H' _ ⟨_,_,_,_,_,_,_,_,h⟩=>bK.of (h _ _ Cr R1)) ?_ ?_
 ·rintro k x σ H2 hx ⟨ss,sv,nv,rfl,ha,B7,zf,Jx,s2⟩
  obtain ⟨p,hp,rfl⟩:=A0 hx
  have hk:k<ps.length:=(FX.mp hp).1
  have LM:=TU hp
  obtain ⟨w,hw,hi,ho⟩:=pin p LM
  have R4:=TU hw
  have P0:p.c<jX.length:=by rw[uN];exact (FX.mp hw).1
  have bR:=LL p.c w jX[p.c] hw (FW P0)
  have go: ∀c o,H c=some o->H2 c=some o:=fun c o e=>s2 _ _ (Hw c o e) (aq e na)
  have OC:=(xJ p LM).tp
  have R5:p.t≠a:=fun z=>by rw[z,s1 _ _ ah]at OC;cases OC
  have OD:=s2 _ _ OC R5
  have R6:ss.length=k:=by
   have:=zf.length_eq
   rw[HX,HX,T4]at this
   omega
  refine ⟨_,rfl,_,rfl,_,rfl,y,lg,wt,vt,p.t,w,ws,jX,jX[p.c],p.c,p.i,rfl,hy,go _ _ ub,go _ _ MN,OD,hw,FW P0,bR.same go,hi,fun s H3 E9 kN P4 TB s3=>?_⟩
  have P5:=E9.band hy (ur w R4).1 hi hb ho
  refine ⟨_,rfl, .inl ⟨rfl,_,bK.of (s3 _ _ ha)⟩,_,rfl,_,rfl,y,lg,a,ss,s,rfl,hy,hz,s3 _ _ ha,fun t ht=>⟨(B7 t ht).1.same s3,by rw[(B7 t ht).2.1,P5]⟩,P4,Jx,by omega,fun n H4 hn h1 h2 s4=>?_⟩
  have P6:=s4 _ _ (s3 _ _ ha)
  refine ⟨_,rfl,a,_,n,_,rfl,rfl,P6,by rw[jQ];exact hn,by rw[jQ];omega,?_⟩
  have e1:(xF ss).take n++V.ref s.a::(xF ss).drop n=xF (ss.take n++s::ss.drop n):=by
   unfold xF
   rw[QT,Wr,TV,Ws]
  rw[e1]
  have su: ∀t,hJ H4 aP aH y lg t->hJ (L2.upd H4 a (.lst (xF (ss.take n++s::ss.drop n)))) aP aH y lg t:=fun t ot=>by
   have ne: ∀{c:Addr} {o:HO},H4 c=some o->(∀l,o≠ .lst l)->c≠a:=fun {c o} e no z=>by rw[z,P6]at e;exact no _ (TZ e).symm
   obtain ⟨dx,eo⟩:=ot.ob
   obtain ⟨dw,ew⟩:=ot.wy.ob
   exact ⟨⟨dx,by rw[az (ne eo (fun l z=>by cases z))];exact eo⟩,by rw[az (ne ot.st (fun l z=>by cases z))];exact ot.st,⟨⟨dw,by rw[az (ne ew (fun l z=>by cases z))];exact ew⟩,ot.wy.sw,ot.wy.uz,ot.wy.lz,ot.wy.rt⟩,ot.pz⟩
  refine ⟨ss.take n++s::ss.drop n,_,_,rfl,ah,fun t ht=>?_,?_,G_ Jx h1 h2,fun c o e z=>by rw[az z];exact s4 _ _ (s3 _ _ (s2 c o e z))⟩
  ·have:t=s\/t∈ss:=by
    rcases T9.mp ht with r | r
    ·exact .inr (Wj r)
    ·rcases QS.mp r with r | r
     ·exact .inl r
     ·exact .inr (Wl r)
   rcases this with r | r
   ·subst r
    refine ⟨su _ (P4.same s4),P5,w,?_,?_,?_⟩
    ·rw[E9.ec];exact hw
    ·rw[E9.ec,E9.ei];exact E9
    ·rw[E9.ei];exact hi
   ·exact ⟨su _ (((B7 t r).1.same s3).same s4),(B7 t r).2⟩
  ·rw[QT,TV, <-take_snoc hp,QT,E9.ec,E9.ei]
   have p1:(ss.take n).map (fun s=>(s.c,s.i))++(p.c,p.i)::(ss.drop n).map (fun s=>(s.c,s.i)) |>.Perm ((p.c,p.i)::ss.map fun s=>(s.c,s.i)):=by
    refine List.perm_middle.trans (List.Perm.cons _ ?_)
    rw[<-QT,UK]
   exact p1.trans ((List.Perm.cons _ zf).trans (List.perm_append_singleton _ _).symm)
 ·rintro σ H2 ⟨ss,sv,nv,rfl,ha,B7,zf,Jx,s2⟩
  rw[qZ,UT,rQ]at zf
  have R6:ss.length<=48:=by
   have:=zf.length_eq
   rw[HX, <-rQ,HX]at this
   omega
  have B8:au H H2:=fun c o e=>s2 _ _ (Hw c o e) (aq e na)
  refine ⟨_,rfl,a,rfl,⟨_,bK.of ha⟩,?_⟩
  refine yn (K:=K) (a:=a) (xs:=xF ss) (fun i acc H'=>H'=H2/\acc=(ss.take i).map fun s=>V.ref s.t) (by rw[jQ];omega) (fun i acc H' h=>by rw[h.1];exact bK.of ha) ⟨rfl,rfl⟩ ?_ ?_
  ·rintro i x acc H3 Nx hi hx hl ⟨rfl,rfl⟩ nx
   obtain ⟨t,ht,rfl⟩:=DW hx
   obtain ⟨dx,e⟩:=(B7 t (TU ht)).1.ob
   refine ⟨trivial,iw ⟨_,rfl,t.a,aH,dx,_,_,rfl,e,T.cX,T.n_Seen_strand,pQ,nx _ _ (by simpa using hl) ⟨rfl,?_⟩⟩⟩
   rw[<-take_snoc ht,QT]
   rfl
  ·rintro acc H3 D hl ⟨rfl,rfl⟩ hD
   rw[jQ,UT]
   refine ⟨D,_,rfl, .inl ⟨bK.of ah,fun t nt=>?_⟩⟩
   have sA:=(au.upd (o:= .lst (ss.map fun s=>V.ref s.t)) hD).trans (au.upd (o:= .tup (ss.map fun s=>V.ref s.t)) nt)
   have ep:(ss.map fun s=>(⟨s.t,s.c,s.i⟩:Pr)).map Pr.pair=ss.map fun s=>(s.c,s.i):=by rw[Us];rfl
   refine q t (ss.map fun s=>(⟨s.t,s.c,s.i⟩:Pr)) _ (au.free (B8.trans (au.upd hD)) nt) (by rw[ah];unfold pJ;rw[Us];rfl) (fun p hp=>?_) (by rw[ep];exact zf) ?_ (B8.trans sA)
   ·obtain ⟨s,NQ,rfl⟩:=T3.mp hp
    obtain ⟨ok,_,w,hw,_,hi⟩:=B7 s NQ
    have h1:=(FX.mp hw).1
    have h2:=(ur w (TU hw)).2
    exact ⟨sA _ _ ok.st,by show s.c<1000;omega,by show s.i<1000;omega⟩
   ·rw[ep]
    unfold Bz
    rw[UC]
    refine Vq (fun {s t} h1 h2 h=>?_) Jx
    obtain ⟨o1,_,w1,e1,i1,l1⟩:=B7 s h1
    obtain ⟨o2,_,w2,e2,i2,l2⟩:=B7 t h2
    have g1:ws.getD s.c []=w1:=by rw[QQ,e1];rfl
    have g2:ws.getD t.c []=w2:=by rw[QQ,e2];rfl
    rw[<-xG hy (ur w1 (TU e1)).1 l1 g1 i1 o1.wy.rt, <-xG hy (ur w2 (TU e2)).1 l2 g2 i2 o2.wy.rt]
    exact h
theorem lK:bC P w K mg base fu 1 f8 d8 ["some"] (gE K):=by
 refine T.F8.fn.ok cU (fun vs H Q E h=>kz h) (fun cA A outer s H vs Q E hr h=>?_)
 refine ⟨_,(ag (ay (i:=1) cU.nd rfl (Or.inl rfl) Ah)
   (ag (cW PassesOwn.never rfl (gT K rfl (pv 0)) (aT (i:=2) cU.nd rfl (Or.inl rfl)) (ag (ay (i:=3) cU.nd rfl (Or.inl rfl) (aL (oK rfl) rfl T.z_min boot_min (aa (aN (aU K rfl) (pv 2) ai (fun _ _=>rfl)) (aa (aN (aU K rfl) (pv 2) ai (fun _ _=>rfl)) ae))))
   (ag (qv (mz hr) (pv 1) (aN (aU K rfl) (pv 2) ai (fun _ _=>rfl)) (pv 3) rfl)
   (aj (qv (mz hr) (pv 1) (aN (aU K rfl) (pv 2) ai (fun _ _=>rfl)) (pv 3) rfl)))))
   (aj (aK (pv 1))))),?_⟩
 obtain ⟨a,qs,rfl,ha,hq,hn,nd,q⟩:=h
 have hs:(100000:Nat)<sizeLine:=by decide
 walk_at "wk"
 intro d MQ
 have P7:a≠d:=aq ha MQ
 refine ⟨_,rfl,a,rfl,⟨_,bK.of (by rw[az P7];exact ha)⟩,?_⟩
 refine jm (K:=K) (a:=a) (xs:=lE qs) (fun k σ H'=> ∃(cv fv:Option V),σ=[some (.ref a),some (.ref d),cv,fv]/\H' d=some (.dK (fy ((qs.take k).map Q4.v)))/\aW d H H')
  ⟨none,none,rfl,ah,fun b o e z=>by rw[az z];exact e⟩ (fun k σ H' _ ⟨_,_,_,_,h⟩=>bK.of (h _ _ ha P7)) ?_ ?_
 ·rintro k x σ H1 hx ⟨cv,fv,rfl,hd,s1⟩
  obtain ⟨c,hc,rfl⟩:=GX hx
  have hk:k<qs.length:=(FX.mp hc).1
  have tc:=hq c (TU hc)
  have kY:c.t≠d:=fun z=>by have h9:H c.t=_:=tc;rw[z,MQ]at h9;cases h9
  have MR:oh H1 c:=s1 _ _ tc kY
  have lc:(fy ((qs.take k).map Q4.v)).length<=2000:=by rw[tM,HX,T4];omega
  have e:(qs.take (k+1)).map Q4.v=(qs.take k).map Q4.v++[c.v]:=by rw[<-take_snoc hc,QT];rfl
  have P8:(cQ ((qs.take k).map Q4.v++[c.v])).Nodup:=by
   rw[<-e]
   have:qs.map Q4.v=(qs.take (k+1)).map Q4.v++(qs.drop (k+1)).map Q4.v:=by rw[<-QT,UK]
   rw[this]at nd
   unfold cQ at nd ⊢
   rw[Uw,UP]at nd
   exact nd.1
  refine ⟨_,rfl,c.t,_,2,_,rfl,rfl,cy.of MR,rfl,_,rfl,c.t,_,3,_,rfl,rfl,cy.of MR,rfl,_,_,rfl,?_⟩
  refine ⟨_,rfl,_,rfl,_,rfl,c.t,_,2,_,rfl,rfl,cy.of MR,rfl,d,_,rfl,qu.k (k:=Sum.inl (c.v.2.2.1:Int)) hd (by omega),?_⟩
  have R7: ∀o,oh (L2.upd H1 d o) c:=fun o=>by show L2.upd H1 d o c.t=_;rw[az kY];exact MR
  refine ⟨_,rfl,_,rfl,_,rfl,c.t,_,3,_,rfl,rfl,cy.of (R7 _),rfl,d,_,rfl,qu.k (k:=Sum.inl (c.v.2.2.2:Int)) ah (Ua (fA _ _ _) (by omega)),?_⟩
  refine ⟨_,_,rfl,?_,fun b o eb z=>by rw[az z,az z];exact s1 b o eb z⟩
  rw[ah,e, <-DR P8]
  rfl
 ·rintro σ H1 ⟨cv,fv,rfl,hd,s1⟩
  rw[xr,UT]at hd
  exact ⟨_,rfl,q d H1 MQ hd fun b o eb=>s1 b o eb (aq eb MQ)⟩
theorem rE:bC P w K mg base fu 1 f9 d9 ["rising","point"] (jN K):=by
 refine T.F9.fn.ok cH (fun vs H Q E h=>oj h) (fun cA A outer s H vs Q E hr h=>?_)
 refine ⟨_,(ag (ay (i:=2) cH.nd rfl (Or.inl rfl) ai)
   (ag (ay (i:=3) cH.nd rfl (Or.inl rfl) (aB cJ (aL (bS K rfl) rfl T.z_len Ub (aa (pv 0) ae)) ai))
   (ag (eS PassesOwn.never (a_ oI (pv 2) (pv 3) (ba _)) (ag (ay (i:=4) cH.nd rfl (Or.inl rfl) (aB cO (aB aX (pv 2) (pv 3)) ai))
   (aj (cL (a_ oI (aN (bf K rfl) (pv 0) (pv 4) (fun _ _=>rfl)) (pv 1) (ba _)) (aj (ay (i:=2) cH.nd rfl (Or.inl rfl) (aB aX (pv 4) ai))) (aj (ay (i:=3) cH.nd rfl (Or.inl rfl) (pv 4)))))))
   (aj (aK (pv 2)))))),?_⟩
 obtain ⟨a,l,p,rfl,ha,up,hp,hn,q⟩:=h
 have hs:(100000:Nat)<sizeLine:=by decide
 have hi:=Ph hp
 have OE:l[l.idxOf p]=p:=UL hi
 have key:=Vo.mp up
 refine ⟨_,rfl,a,_,rfl, .inl (bK.of ha),?_⟩
 rw[jM]
 walk_at "wk"
 refine ⟨fun m σ H'=> ∃(lo hi:Nat) (mv:Option V),σ=[some (.ref a),some (.int p),some (.int lo),some (.int hi),mv]/\m=hi - lo/\lo<=l.idxOf p/\l.idxOf p<=hi/\hi<l.length/\H'=H,⟨_,0,l.length - 1,none,?_,rfl,Ti _,by omega,by omega,rfl⟩,?_⟩
 ·have:((l.length:Int) - 1)=((l.length - 1:Nat):Int):=by omega
  rw[<-this];rfl
 rintro m σ H2 ⟨lo,lN,mv,rfl,rfl,h1,h2,h3,rfl⟩
 walk_at "wk"
 refine dk (fun z=>?_) (fun z=>?_)
 ·have z1:(lo:Int)<lN:=of_decide_eq_true z
  have em:(((lo:Int)+lN) / 2)=(((lo+lN) / 2:Nat):Int):=by omega
  have hm:(lo+lN) / 2<l.length:=by omega
  walk_at "rd"
  refine ⟨a,_,((lo:Int)+lN) / 2,_,rfl,rfl,bK.of ha,by rw[em];exact cR (Bh (FW hm)),?_⟩
  walk_at "rd"
  refine dk (fun y=>?_) (fun y=>?_)
  ·have y1:((l[(lo+lN) / 2]:Nat):Int)<p:=of_decide_eq_true y
   have lt:(lo+lN) / 2<l.idxOf p:=by
    refine Classical.byContradiction fun w=>?_
    by_cases e:(lo+lN) / 2=l.idxOf p
    ·have:l[(lo+lN) / 2]=p:=by simp only[e];exact OE
     omega
    ·have:=key (l.idxOf p) ((lo+lN) / 2) hi hm (by omega)
     rw[OE]at this
     omega
   walk_at "rd"
   have e1:((lo:Int)+lN) / 2+1=(((lo+lN) / 2+1:Nat):Int):=by omega
   refine ⟨lN - ((lo+lN) / 2+1),by omega,(lo+lN) / 2+1,lN,_,by rw[<-e1];rfl,rfl,by omega,h2,h3,rfl⟩
  ·have y1: ¬((l[(lo+lN) / 2]:Nat):Int)<p:=fun w=>y (decide_eq_true w)
   have le:l.idxOf p<=(lo+lN) / 2:=by
    refine Classical.byContradiction fun w=>?_
    have:=key ((lo+lN) / 2) (l.idxOf p) hm hi (by omega)
    rw[OE]at this
    omega
   walk_at "rd"
   refine ⟨(lo+lN) / 2 - lo,by omega,lo,(lo+lN) / 2,_,by rw[<-em];rfl,rfl,h1,le,by omega,rfl⟩
 ·have z1: ¬(lo:Int)<lN:=fun w=>z (decide_eq_true w)
  have e:lo=l.idxOf p:=by omega
  walk_at "rd"
  rw[e]
  exact q
theorem fI:bC P w K mg base fu 2 Io IV ["some"] (fG K):=by
 have nK:=lK (P:=P) (w:=w) (base:=base) T
 have ue:=rE (P:=P) (w:=w) (base:=base) T
 refine T.y8.fn.ok bo (fun vs H Q E h=>jb h) (fun cA A outer s H vs Q E hr h=>?_)
 refine ⟨_,(ag (ay (i:=1) bo.nd rfl (Or.inl rfl) (ak nK (hr.mono (by decide)) rfl T.F8.mg T.F8.fn.kp T.F8.bd .nil aC (aa (pv 0) ae)))
   (ag (ay (i:=2) bo.nd rfl (Or.inl rfl) (dj ae))
   (ag (ay (i:=3) bo.nd rfl (Or.inl rfl) ai)
   (ag (cW PassesOwn.never rfl (gT K rfl (aL (oa rfl) rfl T.z_sorted boot_sorted (aa (pv 1) ae))) (aT (i:=4) bo.nd rfl (Or.inl rfl)) (aj (cL (a_ z5 (lQ (mz hr) (pv 1) (pv 4) (fun _ _=>rfl)) (pv 4) (ba _)) (aj (eM (cq K rfl Ui U6 U5 fU (pv 2) (aa (pv 4) ae)))) (ag (ay (i:=5) bo.nd rfl (Or.inl rfl) (ak ue (hr.mono (by decide)) rfl T.F9.mg T.F9.fn.kp T.F9.bd .nil aC (aa (pv 2) (aa (lQ (mz hr) (pv 1) (pv 4) (fun _ _=>rfl)) ae))))
   (ag (eM (cq K rfl Ui VA Vy mw (pv 2) (aa (pv 5) ae)))
   (aj (i0 (i:=3) bo.nd rfl (Or.inl rfl) (aB cJ (aL (bS K rfl) rfl T.z_len Ub (aa (pv 2) ae)) (pv 5)) qa)))))))
   (aj (aK (pv 3))))))),?_⟩
 obtain ⟨a,qs,rfl,ha,hq,hn,nd,q⟩:=h
 have hs:(100000:Nat)<sizeLine:=by decide
 refine ⟨_,rfl,a,qs,rfl,ha,hq,by omega,nd,fun d H1 P8 hd s1=>?_⟩
 have R8:(qs.map Q4.v).length<=24:=by rw[HX];exact hn
 generalize qs.map Q4.v=cs at nd hd q R8
 have kl:=tM cs
 have TC:(cQ cs).length=2*cs.length:=by
  have:=congrArg List.length (gc cs)
  rw[HX,HX]at this
  omega
 walk_at "wk"
 intro b nb
 have P9:d≠b:=aq hd nb
 have hd2:L2.upd H1 b (.lst []) d=some (.dK (fy cs)):=by rw[az P9];exact hd
 have sb:=au.upd (o:= .lst []) nb
 refine ⟨_,rfl,d,_,(cQ cs).map fun n:Nat=>(n:Int),rfl,hd2,by rw[gc,Us];rfl,by rw[HX];omega,fun p2 ms n2 zf LG=>?_⟩
 obtain ⟨P,eP,pP,uP⟩:=vK nd zf LG
 rw[eP]
 have ch:=G3 nd pP uP
 have lP:P.length<=2000:=by rw[pP.length_eq];omega
 have P_:p2≠b:=fun z=>by rw[z,ah]at n2;cases n2
 have s2:=sb.trans (au.upd (o:= .lst (ins P)) n2)
 refine ⟨p2,rfl,⟨_,bK.of ah⟩,?_⟩
 refine jm (K:=K) (a:=p2) (xs:=ins P) (fun k σ H'=> ∃(m:Nat) (pv nv:Option V),σ=[some (.ref a),some (.ref d),some (.ref b),some (.int m),pv,nv]/\H' b=some (.lst (ins (lW (cb cs) (P.take k) (P.drop k))))/\m+Cv (cb cs) (P.take k) (P.drop k)=Cv (cb cs) [] P/\aW b (L2.upd (L2.upd H1 b (.lst [])) p2 (.lst (ins P))) H')
  ⟨0,none,none,rfl,by rw[az (Ne.symm P_),ah];rfl,by rw[VP];rfl,aW.refl _ _⟩ (fun k σ H' _ ⟨_,_,_,_,_,_,h⟩=>bK.of (h _ _ ah P_)) ?_ ?_
 ·rintro k x σ H3 hx ⟨m,pv,nv,rfl,hb,hm,s3⟩
  obtain ⟨p,hp,rfl⟩: ∃p,P[k]? =some p/\x=V.int (p:Nat):=by
   unfold ins at hx
   rw[TQ]at hx
   cases e:P[k]? with
   | none=>rw[e]at hx;cases hx
   | some p=>rw[e]at hx;cases hx;exact ⟨p,rfl,rfl⟩
  have hk:k<P.length:=(FX.mp hp).1
  have R9:p∈cQ cs:=pP.mem_iff.mp (TU hp)
  have Qa:=G5 nd R9
  have Qb:H3 d=some (.dK (fy cs)):=s3 _ _ (s2 _ _ hd) P9
  have Qc:P=P.take k++p::P.drop (k+1):=by
   have:=UK k P
   rw[Uz hk,(FX.mp hp).2]at this
   exact this.symm
  have OF:P.drop k=p::P.drop (k+1):=by rw[Uz hk,(FX.mp hp).2]
  have LN:P.take (k+1)=P.take k++[p]:=(take_snoc hp).symm
  have bl:(lW (cb cs) (P.take k) (P.drop k)).length<=2000:=Ug DS (by rw[T4];omega)
  have tf:=Bk (st:=cb cs) hp
  refine ⟨_,rfl,_,rfl,d,_,rfl,by rw[<-Qa];exact mO.k (k:=Sum.inl (p:Int)) Qb,?_⟩
  walk_at "rd"
  refine dk (fun z=>?_) (fun z=>?_)
  ·have z1:cb cs p=p:=by have:=of_decide_eq_true z;omega
   refine ⟨_,rfl, .inl ⟨rfl,_,bK.of hb⟩,_,rfl,b,_,_,rfl,rfl,hb,by rw[jM];omega,?_⟩
   refine ⟨m,_,_,rfl,?_,?_,s3.trans (aW.upd _ _ _)⟩
   ·rw[ah,Bg,LN,Bc ch Qc z1, <-OF]
   ·have e0:yS (cb cs) (P.take k) (P.drop (k+1)) p=0:=by unfold yS;rw[if_pos z1]
    omega
  ·have z1:cb cs p≠p:=fun w=>z (decide_eq_true (by rw[w]))
   obtain ⟨en,em⟩:=G0 ch Qc z1
   rw[<-OF]at en em
   have up:=G4 (st:=cb cs) uP (UK k P).symm (P.drop k)
   have zQ:=Ph em
   refine ⟨_,rfl,_,rfl,_,rfl,d,_,rfl,by rw[<-Qa];exact mO.k (k:=Sum.inl (p:Int)) Qb,b,_,cb cs p,rfl,hb,up,em,by omega,?_⟩
   refine ⟨_,rfl, .inl ⟨rfl,_,bK.of hb⟩,_,rfl,b,_,_,_,_,rfl,rfl,hb,by omega,by omega,?_,Bh (FW zQ),?_⟩
   ·rw[jM]
    exact Bl zQ
   have ee:(ins (lW (cb cs) (P.take k) (P.drop k))).eraseIdx ((lW (cb cs) (P.take k) (P.drop k)).idxOf (cb cs p))=ins (lW (cb cs) (P.take (k+1)) (P.drop (k+1))):=by
    rw[LN,en, <-Bj em]
    exact pN _ _
   rw[ee]
   refine ⟨_,rfl,_,rfl,b,_,rfl, .inl (bK.of ah),?_⟩
   walk_at "rd"
   have bh:=behind up em
   have lb:(lW (cb cs) (P.take (k+1)) (P.drop (k+1))).length=((lW (cb cs) (P.take k) (P.drop k)).erase (cb cs p)).length:=by rw[LN,en]
   have le:((lW (cb cs) (P.take k) (P.drop k)).erase (cb cs p)).length+1=(lW (cb cs) (P.take k) (P.drop k)).length:=by rw[List.length_erase_of_mem em];omega
   have ec:yS (cb cs) (P.take k) (P.drop (k+1)) p=((lW (cb cs) (P.take k) (P.drop k)).filter fun x=>decide (cb cs p<x)).length:=by unfold yS;rw[if_neg z1,OF]
   have ei:(m:Int)+(((ins (lW (cb cs) (P.take (k+1)) (P.drop (k+1)))).length:Nat) - ((lW (cb cs) (P.take k) (P.drop k)).idxOf (cb cs p):Nat))=((m+yS (cb cs) (P.take k) (P.drop (k+1)) p:Nat):Int):=by rw[jM];omega
   exact ⟨m+yS (cb cs) (P.take k) (P.drop (k+1)) p,some (.int p),some (.int ((lW (cb cs) (P.take k) (P.drop k)).idxOf (cb cs p):Nat)),by rw[<-ei];rfl,ah,by omega,s3.trans (aW.upd _ _ _)⟩
 ·rintro σ H3 ⟨m,pv,nv,rfl,hb,hm,s3⟩
  rw[jM,List.drop_length,UT]at hm
  have Dd:m=Cv (cb cs) [] P:=hm
  refine ⟨_,rfl,?_⟩
  rw[Dd,Lr ch]
  exact q H3 fun c o e=>s3 c o (s2 c o (s1 c o e)) (aq e (au.free s1 nb))
theorem uf:bC P w K mg base fu 1 f2 d2 ["yard"] (sY K):=by
 refine T.F2.fn.ok B5 (fun vs H Q E h=>yK h) (fun cA A outer s H vs Q E hr h=>?_)
 refine ⟨_,(aj (aK (cq K rfl T5 Vz Vx (jw K rfl) (qj [] (by decide+kernel)) (aa (aL (qt K rfl) rfl T.z_sorted boot_sorted (aa (eV ["letter"] [none] (ql (pv 0)) trivial (fun _ _ _ _=>(aT (i:=0) (by decide+kernel:List.Nodup (["letter"]:List Str)) rfl (Or.inl rfl))) (fun _ _ _ _=>(FZ (jZ (dN K rfl T5 VX VW i3 (pv 0))))) (fun _ _ _ _=>(pv 0))) ae)) ae)))),?_⟩
 obtain ⟨l,rfl,hl,hz,q⟩:=h
 have hs:(1000:Nat)<sizeLine:=by decide
 refine ⟨rfl,_,rfl,l,rfl,?_⟩
 refine mL (xs:=dz l) (fun i acc H'=>au H H'/\acc=dz ((l.take i).filter aA)) (by rw[bP];omega) ⟨au.refl H,rfl⟩ ?_ ?_
 ·rintro i x acc H1 Nx hi hx Jy ⟨s1,rfl⟩ nx
  obtain ⟨c,hc,rfl⟩:=jv hx
  have e:=sZ (p:=aA) hc
  refine ⟨trivial,?_⟩
  refine ⟨_,rfl,rfl,c,rfl,rfl,hl c (TU hc),_,rfl,?_⟩
  refine dk (fun z=>?_) (fun z=>?_)
  ·rw[if_pos z]at e
   exact ⟨_,rfl,nx _ _ (by simpa using Jy) ⟨s1,by rw[e, <-eY]⟩⟩
  ·rw[if_neg z,UH]at e
   exact nx _ _ (Nat.le_succ_of_le Jy) ⟨s1,by rw[e]⟩
 ·rintro acc H1 D Jy ⟨s1,rfl⟩ hD
  rw[sS,iu]
  have TF:(l.filter aA).length<=l.length:=Wg _ _
  refine ⟨D,(l.filter aA).map fun c=>[c],rfl,bK.of ah,by rw[HX];omega,fun p ls hp zf LG=>?_⟩
  obtain ⟨l',rfl,pl⟩:=C7 zf
  have wo:=pl.length_eq
  refine ⟨p,l'.map fun c=>[c],rfl,rfl,bK.of ah,by rw[Ao];omega,?_⟩
  rw[sR]
  exact q l' _ pl (C8 LG) ((s1.trans (au.upd hD)).trans (au.upd hp))
theorem oE:bC P w K mg base fu 2 f4 d4 ["yard","drawing","end"] (iQ K):=by
 have rF:=uf (P:=P) (w:=w) (base:=base) T
 refine T.F4.fn.ok iV (fun vs H Q E h=>mY h) (fun cA A outer s H vs Q E hr h=>?_)
 refine ⟨_,(ag (ay (i:=3) iV.nd rfl (Or.inl rfl) (cF (n_ K rfl) rfl T.z_list boot_list (aa (aN (aU K rfl) (aN (aU K rfl) (pv 1) ai (fun _ _=>rfl)) (cq K rfl T5 V6 V4 ka (ak rF (hr.mono (by decide)) rfl T.F2.mg T.F2.fn.kp T.F2.bd .nil aC (aa (pv 0) ae)) (aa (dN K rfl T5 V5 V3 mE (pv 2)) ae)) (fun _ _=>rfl)) ae)))
   (ag (cL (jZ (dN K rfl T5 PySem.F.slot_str_isupper PySem.F.type_str_isupper uU (pv 2))) (aj (eM (dN K rfl Ui PySem.F.slot_list_reverse PySem.F.type_list_reverse uM (pv 3)))) bU)
   (aj (aK (pv 3))))),?_⟩
 obtain ⟨y,dr,ws,os,e,rfl,hy,hz,he,ho,hd,q⟩:=h
 have hs:(100000:Nat)<sizeLine:=by decide
 have MS: ∀c∈y,c<128:=EM hy.lt
 have Qd:=MS e he
 obtain ⟨⟨wt,ot,d1,d2,d3⟩,dO⟩:=hd
 obtain ⟨o,o1,o2,o3⟩:=g9 hy he ho
 refine ⟨_,rfl,dr,_,1,_,rfl,rfl,cy.of d1,rfl,?_⟩
 refine ⟨_,rfl,y,rfl,MS,by omega,fun l' H1 wo Ii s1=>?_⟩
 have el:=xo wo Ii
 subst el
 refine ⟨rfl,_,rfl,rfl,e,rfl,rfl,Qd,?_⟩
 refine ⟨eR y,_,rfl,rfl,AY hy he,?_⟩
 refine ⟨ot,_,_,_,rfl,rfl,cy.of (s1 _ _ d3),cR (GU o2),?_⟩
 refine ⟨o.o,_,rfl, .inr (cy.of (s1 _ _ (dO o o1).tp)),fun p1 n1=>?_⟩
 refine ⟨_,rfl,rfl,e,rfl,rfl,Qd,_,rfl,dk (fun z=>?_) (fun z=>?_)⟩
 ·refine ⟨_,rfl, .inl ⟨rfl,_,bK.of ah⟩,p1,_,rfl,rfl,ah,?_⟩
  refine ⟨_,rfl,q p1 _ (au.free s1 n1) ?_ ?_⟩
  ·rw[ah,DM]
   unfold lV
   rw[if_pos z,o3]
  ·exact fun a u ea=>by rw[az (aq ea (au.free s1 n1)),az (aq ea (au.free s1 n1))];exact s1 a u ea
 ·refine ⟨_,rfl,q p1 _ (au.free s1 n1) ?_ (s1.trans (au.upd n1))⟩
  rw[ah]
  unfold lV
  rw[if_neg z,o3]
theorem zg:bC P w K mg base fu 3 f5 d5 ["yard","drawing"] (pK K):=by
 have rG:=oE (P:=P) (w:=w) (base:=base) T
 refine T.F5.fn.ok iL (fun vs H Q E h=>vG h) (fun cA A outer s H vs Q E hr h=>?_)
 refine ⟨_,(ag (ay (i:=2) iL.nd rfl (Or.inl rfl) (dj ae))
   (ag (cW PassesOwn.never rfl (ql (pv 0)) (aT (i:=3) iL.nd rfl (Or.inl rfl)) (aj (cW PassesOwn.never rfl (gT K rfl (ak rG (hr.mono (by decide)) rfl T.F4.mg T.F4.fn.kp T.F4.bd .nil aC (aa (pv 0) (aa (pv 1) (aa (pv 3) ae))))) (aT (i:=4) iL.nd rfl (Or.inl rfl)) (aj (eM (cq K rfl Ui U6 U5 fU (pv 2) (aa (cC (aa (aN (aU K rfl) (pv 4) ai (fun _ _=>rfl)) (aa (aN (aU K rfl) (pv 4) ai (fun _ _=>rfl)) (aa (pv 3) ae)))) ae)))))))
   (aj (aK (pv 2))))),?_⟩
 obtain ⟨y,dr,ws,os,rfl,hy,hz,ho,hd,q⟩:=h
 have hs:(100000:Nat)<sizeLine:=by decide
 walk_at "wk"
 intro p1 n1
 refine ⟨_,rfl,y,rfl,?_⟩
 refine wK (xs:=dz y) (fun i σ H'=> ∃(ps:List Pt) (ev sv:Option V),σ=[some (.str (S y)),some (.ref dr),some (.ref p1),ev,sv]/\H' p1=some (.lst (Ct ps))/\(∀p∈ps,og H' p/\p.t≠p1)/\ps.map Pt.is=(y.take i).flatMap (eL y os)/\ps.length<=100*i/\aW p1 H H') ⟨[],none,none,rfl,ah,fun _ h=>absurd h Uh,rfl,Ti _,aW.of (au.upd n1)⟩ ?_ ?_
 ·rintro i x σ H1 hx ⟨ps,ev,sv,rfl,hp,xJ,rQ,jV,s1⟩
  obtain ⟨e,he,rfl⟩:=jv hx
  have GW:=TU he
  have hi:i<y.length:=(FX.mp he).1
  have Hw:au H H1:=fun a u ea=>s1 a u ea (aq ea n1)
  refine ⟨_,rfl,_,rfl,_,rfl,y,dr,ws,os,e,rfl,hy,hz,GW,ho,hd.same Hw,fun p2 H2 n2 wO s2=>?_⟩
  have PR:=DP (H:=H) hy GW ho hd.od
  refine ⟨p2,rfl,⟨_,bK.of wO⟩,?_⟩
  have R_:p2≠p1:=fun z=>by rw[z,hp]at n2;cases n2
  refine jm (K:=K) (a:=p2) (xs:=pJ (lV y os e)) (fun j σ H'=> ∃(us:List Pt) (sv:Option V),σ=[some (.str (S y)),some (.ref dr),some (.ref p1),some (.str (S [e])),sv]/\H' p1=some (.lst (Ct us))/\H' p2=some (.lst (pJ (lV y os e)))/\(∀p∈us,og H' p/\p.t≠p1)/\us.map Pt.is=ps.map Pt.is++((lV y os e).take j).map (fun p=>(p.c,p.i,e))/\us.length<=100*i+j/\aW p1 H1 H')
   ⟨ps,sv,rfl,s2 _ _ hp,wO,fun p vn=>⟨(xJ p vn).1.same s2,(xJ p vn).2⟩,by simp,by omega,aW.of s2⟩ (fun j σ H' _ ⟨_,_,_,_,h,_⟩=>bK.of h) ?_ ?_
  ·rintro j x σ H3 OG ⟨us,Sa,rfl,ze,LO,LP,zc,Jw,s3⟩
   obtain ⟨p,OH,rfl⟩:=A0 OG
   obtain ⟨o,oo,po⟩:=DO hy GW ho (TU OH)
   have hj:j<(lV y os e).length:=(FX.mp OH).1
   have MT:au H H3:=fun a u ea=>s3 a u (Hw a u ea) (aq ea n1)
   have pk:=(hd.od o oo).pr p po
   have tp:=MT _ _ pk.tp
   refine ⟨_,rfl, .inl ⟨rfl,_,bK.of ze⟩,?_⟩
   refine ⟨_,rfl,p.t,_,0,_,rfl,rfl,cy.of tp,rfl,_,rfl,p.t,_,1,_,rfl,rfl,cy.of tp,rfl,?_⟩
   walk_at "wk"
   intro t nt
   have Jz:t≠p1:=fun z=>by rw[z,ze]at nt;cases nt
   refine ⟨p1,_,_,rfl,rfl,(au.upd nt) _ _ ze,by rw[xp];omega,?_⟩
   refine ⟨us++[⟨t,p.c,p.i,e⟩],_,rfl,by rw[ah];exact congrArg (fun x=>some (HO.lst x)) (A2 us ⟨t,p.c,p.i,e⟩),by rw[az R_];exact (au.upd nt) _ _ LO,fun r hr=>?_,?_,by rw[Tn];show us.length+1<=_;omega,fun a u ea z=>by rw[az z];exact (au.upd nt) _ _ (s3 a u ea z)⟩
   ·rcases T9.mp hr with z | z
    ·exact ⟨((LP r z).1.same (au.upd nt)).upd (LP r z).2,(LP r z).2⟩
    ·have e2:=QU.mp z
     subst e2
     exact ⟨og.upd ⟨ah,pk.cz,pk.iz,(hy.lt e GW).lt⟩ Jz,Jz⟩
   ·rw[QT,zc, <-take_snoc OH,QT,Vi]
    rfl
  ·rintro σ H3 ⟨us,Sa,rfl,ze,LO,LP,zc,Jw,s3⟩
   rw[qZ]at Jw zc
   refine ⟨us,_,_,rfl,ze,LP,?_,by omega,fun a u ea z=>s3 a u (s1 a u ea z) z⟩
   rw[zc,rQ, <-take_snoc he,Uw,UT,Uj,WK,UH]
   rfl
 ·rintro σ H1 ⟨ps,ev,sv,rfl,hp,xJ,rQ,jV,s1⟩
  rw[bP]at jV rQ
  rw[UT]at rQ
  exact ⟨_,rfl,q p1 ps H1 n1 hp xJ rQ (by omega) (fun a u ea=>s1 a u ea (aq ea n1))⟩
theorem kL:bC P w K mg base fu 2 f6 d6 ["word","cord","place"] (f_ K):=by
 have cj:=eh (P:=P) (w:=w) (base:=base) T
 refine T.F6.fn.ok gg (fun vs H Q E h=>jL h) (fun cA A outer s H vs Q E hr h=>?_)
 refine ⟨_,(ag (ay (i:=3) gg.nd rfl (Or.inl rfl) (aB dB (aB cJ (pv 2) ai) (aL bp rfl T.z_len Ub (aa (pv 0) ae))))
   (aj (aK (cC (aa (cC (aa (pv 1) (aa (pv 3) (aa (ak cj (hr.mono (by decide)) rfl T.F0.mg T.F0.fn.kp T.F0.bd .nil aC (aa (aN qk (pv 0) (pv 3) (fun _ _=>rfl)) ae)) ae)))) (aa (cC (aa (pv 1) (aa (pv 2) (aa (aN qk (pv 0) (pv 2) (fun _ _=>rfl)) ae)))) ae)))))),?_⟩
 obtain ⟨w,c,i,rfl,OI,hi,hz,q⟩:=h
 have hs:(100000:Nat)<sizeLine:=by decide
 have hp:(0:Int)<(w.length:Int):=by omega
 have Sb:=xq hi
 have jV:=vI hi
 have e1:w.getD (uk w.length i) 0=w[uk w.length i]:=by rw[QQ,FW jV];rfl
 have e2:w.getD i 0=w[i]:=by rw[QQ,FW hi];rfl
 rw[e1,e2]at q
 refine ⟨_,rfl,_,_,rfl,rfl,_,rfl,w,rfl,by omega,_,_,rfl,rfl,hp,?_⟩
 show zA 3 (V.int (((i:Int) - 1)%(w.length:Int))) _ _ _
 rw[Sb]
 refine ⟨_,rfl,_,rfl,_,rfl,_,rfl,w,_,_,rfl,rfl,by omega,cR (FW jV),_,rfl,OI _ (Uy jV),by show 3<=sizeLine;decide,fun t1 n1=>?_⟩
 refine ⟨_,rfl,_,rfl,_,rfl,_,rfl,w,_,_,rfl,rfl,by omega,cR (FW hi),by show 3<=sizeLine;decide,fun t2 n2=>?_⟩
 refine ⟨by show 2<=sizeLine;decide,fun t nt=>?_⟩
 have OJ:=(au.upd (o:= .tup [.ref t1, .ref t2]) nt)
 refine q t t1 t2 _ ah (OJ _ _ ((au.upd n2) _ _ ah)) (OJ _ _ ah) ((au.upd n1).trans ((au.upd n2).trans OJ))
theorem nM:bC P w K mg base fu 4 f7 d7 ["yard","drawing"] (m3 K):=by
 have B9:=zg (P:=P) (w:=w) (base:=base) T
 have lL:=kL (P:=P) (w:=w) (base:=base) T
 refine T.F7.fn.ok cf (fun vs H Q E h=>tJ h) (fun cA A outer s H vs Q E hr h=>?_)
 refine ⟨_,(ag (ay (i:=2) cf.nd rfl (Or.inl rfl) Ai)
   (ag (cW PassesOwn.never rfl (Aa K rfl rfl T.z_enumerate (aa (ak B9 (hr.mono (by decide)) rfl T.F5.mg T.F5.fn.kp T.F5.bd .nil aC (aa (pv 0) (aa (pv 1) ae))) ae)) (jx (n:=2) K rfl rfl (cB (aT (i:=3) cf.nd rfl (Or.inl rfl)) (cB (aT (i:=4) cf.nd rfl (Or.inl rfl)) jk))) (aj (qv (mz hr) (pv 2) (pv 4) (pv 3) rfl)))
   (ag (ay (i:=5) cf.nd rfl (Or.inl rfl) (dj ae))
   (ag (cW PassesOwn.never rfl (sG K rfl rfl T.z_enumerate (aa (aN (aU K rfl) (pv 1) ai (fun _ _=>rfl)) ae)) (jx (n:=2) K rfl rfl (cB (aT (i:=6) cf.nd rfl (Or.inl rfl)) (cB (aT (i:=7) cf.nd rfl (Or.inl rfl)) jk))) (aj (cW PassesOwn.never rfl (iq rfl T.z_range (aa (aL bp rfl T.z_len Ub (aa (pv 7) ae)) ae)) (aT (i:=8) cf.nd rfl (Or.inl rfl)) (ag (ay (i:=9) cf.nd rfl (Or.inl rfl) (ak lL (hr.mono (by decide)) rfl T.F6.mg T.F6.fn.kp T.F6.bd .nil aC (aa (pv 7) (aa (pv 6) (aa (pv 8) ae)))))
   (aj (eM (cq K rfl Ui U6 U5 fU (pv 5) (aa (cC (aa (pv 6) (aa (pv 8) (aa (lQ (mz hr) (pv 2) (aN (aU K rfl) (pv 9) ai (fun _ _=>rfl)) (fun _ _=>rfl)) (aa (lQ (mz hr) (pv 2) (aN (aU K rfl) (pv 9) ai (fun _ _=>rfl)) (fun _ _=>rfl)) ae))))) ae))))))))
   (aj (aK (pv 5))))))),?_⟩
 obtain ⟨y,dr,ws,os,rfl,hy,hz,ur,MU,hd,q⟩:=h
 have hs:(100000:Nat)<sizeLine:=by decide
 have Sd:=A5 hy MU
 have Se:=g8 hy
 have GV:=MU.1
 have TH:=ur.Lg
 obtain ⟨⟨wt,ot,d1,d2,d3⟩,dO⟩:=id hd
 walk_at "wk"
 intro d nd
 refine ⟨_,rfl,_,rfl,y,dr,ws,os,rfl,hy,hz,by omega,hd.same (au.upd nd),fun p1 ps H1 n1 Cu xJ rQ Oi s1=>?_⟩
 have Lz:=s1 _ _ (ah (H:=H) (a:=d) (o:=HO.dT []))
 have Hw:au H H1:=(au.upd nd).trans s1
 have jV:ps.length=(ji y os).length:=by rw[<-rQ,HX]
 refine ⟨p1,rfl,⟨_,bK.of Cu⟩,?_⟩
 have Sf:p1≠d:=fun z=>by rw[z,ah]at n1;cases n1
 refine yq (K:=K) (a:=p1) (xs:=Ct ps) (fun i σ H'=> ∃(aI:List (List Key×V)) (nv pv:Option V),σ=[some (.str (S y)),some (.ref dr),some (.ref d),nv,pv,none,none,none,none,none]/\H' d=some (.dT aI)/\Nums (ji y os) aI i/\aI.length<=i/\aW d H1 H')
  ⟨[],none,none,rfl,Lz,fun p hp=>absurd hp (by simp),Ti _,aW.refl _ _⟩ (fun i σ H' _ ⟨_,_,_,_,_,_,_,h⟩=>bK.of (h _ _ Cu Sf)) ?_ ?_
 ·rintro i x σ H2 T hx ⟨aI,nv,pv,rfl,hd2,Ef,Sg,s2⟩ nT
  obtain ⟨p,hp,rfl⟩: ∃p,ps[i]? =some p/\x=V.ref p.t:=by
   unfold Ct at hx
   rw[TQ]at hx
   cases e:ps[i]? with
   | none=>rw[e]at hx;cases hx
   | some p=>rw[e]at hx;cases hx;exact ⟨p,rfl,rfl⟩
  have hi:i<ps.length:=(FX.mp hp).1
  have pk:=(xJ p (TU hp)).1.tp
  have Sh:p.t≠d:=fun z=>by rw[z,Lz]at pk;cases pk
  have Si:d≠T:=aq hd2 nT
  refine ⟨T,_,rfl,cy.of ah,rfl,_,_,rfl,_,_,rfl,rfl,?_⟩
  refine ⟨_,rfl,_,rfl,_,rfl,d,_,rfl,qu.t (k:=q0 p.is) (by rw[az Si];exact hd2) ((au.upd nT) _ _ (s2 _ _ pk Sh)) (by omega),?_⟩
  exact ⟨_,_,_,rfl,ah,Ef.put Sd (Lq rQ hp),Ug (fA _ _ _) (by omega),fun a o ea z=>by rw[az z];exact (au.upd nT) _ _ (s2 a o ea z)⟩
 ·rintro σ H2 ⟨aI,nv,pv,rfl,hd2,Ef,Sg,s2⟩
  rw[xp,jV]at Ef
  have E_: ∀p∈ji y os,cN aI (q0 p)=some (.int ((ji y os).idxOf p:Nat)):=fun p hp=>Ef p (by rw[UT];exact hp)
  have B8:au H H2:=fun a o ea=>s2 a o (Hw a o ea) (aq ea nd)
  walk_at "wk"
  intro p2 n2
  have OK:=au.upd (o:= .lst []) n2
  have Sj:H p2=none:=au.free B8 n2
  refine ⟨_,rfl,dr,_,0,_,rfl,rfl,cy.of (OK _ _ (B8 _ _ d1)),rfl,?_⟩
  refine ⟨wt,rfl,⟨_,cy.of (OK _ _ (B8 _ _ d2))⟩,?_⟩
  refine o4 (K:=K) (a:=wt) (xs:=ve ws) (fun j σ H'=> ∃(qs:List Q4) (cv wv iv av:Option V),σ=[some (.str (S y)),some (.ref dr),some (.ref d),nv,pv,some (.ref p2),cv,wv,iv,av]/\H' p2=some (.lst (lE qs))/\(∀x∈qs,oh H' x)/\qs.map Q4.v=fF (ji y os) ws j/\qs.length<=12*j/\au H2 H')
   ⟨[],none,none,none,none,rfl,ah,fun _ h=>absurd h Uh,rfl,Ti _,OK⟩ (fun j σ H' _ ⟨_,_,_,_,_,_,_,_,_,_,h⟩=>cy.of (h _ _ (B8 _ _ d2))) ?_ ?_
  ·rintro j x σ H3 T hx ⟨qs,cv,wv,iv,av,rfl,ze,Eg,xK,MV,s3⟩ nT
   have hj:j<ws.length:=by
    have:=(FX.mp hx).1
    rwa [dP]at this
   rw[mQ hj]at hx
   cases hx
   have Hu:ws[j]? =some ws[j]:=FW hj
   obtain ⟨MW,Cz⟩:=ur.all _ (Uy hj)
   generalize ws[j]=w at Hu MW Cz ⊢
   have OI: ∀l∈w,l<128:=fun l hl=>(hy.lt l (MW l hl)).lt
   have sT:=au.upd (o:= .tup [.int j, .str (S w)]) nT
   refine ⟨T,_,rfl,cy.of ah,rfl,_,_,rfl,_,_,rfl,rfl,?_⟩
   refine ⟨_,rfl,w,rfl,by omega,_,rfl,by omega,by omega,?_⟩
   rw[Pj]
   refine fT (fun i σ H'=> ∃(us:List Q4) (iv av:Option V),σ=[some (.str (S y)),some (.ref dr),some (.ref d),nv,pv,some (.ref p2),some (.int j),some (.str (S w)),iv,av]/\H' p2=some (.lst (lE us))/\(∀x∈us,oh H' x)/\us.map Q4.v=fF (ji y os) ws j++kx (ji y os) j w i/\us.length<=12*j+i/\au H2 H')
    ⟨qs,iv,av,rfl,sT _ _ ze,fun x hx=>(Eg x hx).ts (dq.of sT),by rw[xK];show _=_++[];rw[UH],by omega,s3.trans sT⟩ ?_ ?_
   ·rintro i σ H4 hi ⟨us,Sk,Sl,rfl,MX,zl,zc,Jw,s4⟩
    have e1:w[uk w.length i]? =some (w.getD (uk w.length i) 0):=by rw[QQ,FW (vI hi)];rfl
    have e2:w[i]? =some (w.getD i 0):=by rw[QQ,FW hi];rfl
    have m1:=E_ _ (A6 hy MU Hu e1 (MW _ (TU e1)) (.inr rfl))
    have m2:=E_ _ (A6 hy MU Hu e2 (MW _ (TU e2)) (.inl rfl))
    refine ⟨_,rfl,_,rfl,_,rfl,w,j,i,by rw[Vc];rfl,OI,hi,by omega,fun t t1 t2 H5 ht Jz Fb s5=>?_⟩
    have Sm:=s5 _ _ MX
    have Qe:=s5 _ _ (s4 _ _ hd2)
    refine ⟨_,rfl, .inl ⟨rfl,_,bK.of Sm⟩,_,rfl,_,rfl,?_⟩
    refine ⟨_,rfl,_,rfl,t,_,0,_,rfl,rfl,cy.of ht,rfl,d,_,rfl,by rw[<-m1];exact mO.t Qe Jz,?_⟩
    refine ⟨_,rfl,_,rfl,t,_,1,_,rfl,rfl,cy.of ht,rfl,d,_,rfl,by rw[<-m2];exact mO.t Qe Fb,?_⟩
    rw[Vc]
    refine ⟨by show 4<=sizeLine;decide,fun tq So=>?_⟩
    have s6:=s5.trans (au.upd (o:= .tup [.int j, .int i, .int ((ji y os).idxOf (j,uk w.length i,ao (w.getD (uk w.length i) 0)):Nat), .int ((ji y os).idxOf (j,i,w.getD i 0):Nat)]) So)
    have OL:=s6 _ _ MX
    refine ⟨p2,_,_,rfl,rfl,OL,by rw[xr];omega,?_⟩
    refine ⟨us++[⟨tq,fZ (ji y os) j w i⟩],_,_,rfl,by rw[ah];exact congrArg (fun x=>some (HO.lst x)) (A8 us ⟨tq,fZ (ji y os) j w i⟩),fun x hx=>?_,by rw[QT,zc,tI,Vi];rfl,by rw[Tn];show us.length+1<=_;omega,fun a o ea=>by rw[az (aq ea n2)];exact s6 _ _ (s4 a o ea)⟩
    rcases T9.mp hx with g | g
    ·exact (zl x g).ts ((dq.of s6).trans (dq.C9 OL))
    ·have e3:=QU.mp g
     subst e3
     exact (dq.C9 OL) _ _ ah
   ·rintro σ H4 ⟨us,Sk,Sl,rfl,MX,zl,zc,Jw,s4⟩
    exact ⟨us,_,_,_,_,rfl,MX,zl,by rw[zc,q5 Hu],by omega,s4⟩
  ·rintro σ H3 ⟨qs,cv,wv,iv,av,rfl,ze,Eg,xK,MV,s3⟩
   rw[dP]at xK
   exact ⟨_,rfl,q p2 qs H3 Sj ze Eg xK (B8.trans s3)⟩
theorem pZ:bC P w K mg base fu 2 f1 d1 ["word"] (o8 K):=by
 have cj:=eh (P:=P) (w:=w) (base:=base) T
 refine T.F1.fn.ok y9 (fun vs H Q E h=>vc h) (fun cA A outer s H vs Q E hr h=>?_)
 refine ⟨_,(aj (aK (cq K rfl T5 Vz Vx (jw K rfl) (qj [] (by decide+kernel)) (aa (eV ["letter"] [none] (Gh rfl T.z_reversed (aa (pv 0) ae)) trivial (fun _ _ _ _=>(aT (i:=0) (by decide+kernel:List.Nodup (["letter"]:List Str)) rfl (Or.inl rfl))) (fun _ _ _ _=>j9) (fun _ _ _ _=>(ak cj (hr.mono (by decide)) rfl T.F0.mg T.F0.fn.kp T.F0.bd .nil aC (aa (pv 0) ae)))) ae)))),?_⟩
 obtain ⟨l,rfl,hc,hz,q⟩:=h
 have hs:(1000:Nat)<sizeLine:=by decide
 refine ⟨rfl,_,rfl,l,rfl,by omega,?_⟩
 rw[Dm]
 refine mL (xs:=dz l.reverse) (fun i acc H'=>au H H'/\acc=dz ((l.reverse.take i).map ao)) (by rw[bP,Ul];omega) ⟨au.refl H,rfl⟩ ?_ ?_
 ·rintro i x acc H1 Nx hi hx hl ⟨s1,rfl⟩ nx
  obtain ⟨c,rK,rfl⟩:=jv hx
  refine ⟨trivial,iw ⟨_,rfl,c,rfl,hc c (WJ.mp (TU rK)),nx _ _ (by simpa using hl) ⟨s1,?_⟩⟩⟩
  rw[eY, <-take_snoc rK,QT]
  rfl
 ·rintro acc H1 D hl ⟨s1,rfl⟩ hD
  refine ⟨D,(gm l).map fun c=>[c],rfl,rfl,bK.of ?_,?_,?_⟩
  ·rw[ah, <-iu,bP,Uc (Mj _),VD]
   rfl
  ·rw[Ao]
   unfold gm
   rw[Ul,HX]
   omega
  ·rw[sR]
   exact q _ (s1.trans (au.upd hD))
theorem xM:bC P w K mg base fu 4 Iv I_ ["word"] (wZ K):=by
 have wa:=uc (P:=P) (w:=w) (base:=base) T
 refine T.Cy.fn.ok iM (fun vs H Q E h=>Av h) (fun cA A outer s H vs Q E hr h=>?_)
 refine ⟨_,(ag (ay (i:=1) iM.nd rfl (Or.inl rfl) (ak wa (hr.mono (by decide)) rfl T.MB.mg T.MB.fn.kp T.MB.bd .nil aC (aa (pv 0) ae)))
   (ag (ay (i:=2) iM.nd rfl (Or.inl rfl) (pv 1))
   (ag (cW PassesOwn.never rfl (oH rfl T.z_range (aa ai (aa (aL bp rfl T.z_len Ub (aa (pv 1) ae)) ae))) (aT (i:=3) iM.nd rfl (Or.inl rfl)) (ag (ay (i:=4) iM.nd rfl (Or.inl rfl) (aB dM (bO mC (pv 1) (bI (pv 3)) dI) (bO mC (pv 1) dI (bI (pv 3)))))
   (aj (cL (a_ qp (pv 4) (pv 2) (ba _)) (aj (ay (i:=2) iM.nd rfl (Or.inl rfl) (pv 4))) bU))))
   (aj (aK (pv 2)))))),?_⟩
 obtain ⟨l,rfl,hl,hz,q⟩:=h
 have hs:(100000:Nat)<sizeLine:=by decide
 refine ⟨_,rfl,l,rfl,hl,hz,fun H1 s1=>?_⟩
 have Hx:(core (red l)).length<=1000:=Ug (sW _) (Ug (jA l) hz)
 unfold cZ eK at q
 generalize core (red l)=c at Hx q ⊢
 have Sq:c.length<=sizeLine:=by omega
 walk_at "rd"
 refine ⟨_,_,rfl,⟨by decide,by decide,by omega,by omega⟩,?_⟩
 refine fT (fun i σ H'=>H'=H1/\ ∃sv bv,σ=[some (.str (S l)),some (.str (S c)),some (.str (S (bQ c (jD c i)))),sv,bv]) ⟨rfl,none,none,rfl⟩ ?_ ?_
 ·rintro i σ H2 hi ⟨rfl,sv,bv,rfl⟩
  have e1:(1:Int)+(i:Int)=((i+1:Nat):Int):=by omega
  rw[e1]
  have hlen:(cut c (some ((i+1:Nat):Int)) none).length+(cut c none (some ((i+1:Nat):Int))).length<=sizeLine:=by rw[eZ,e_,T6,T4];omega
  have Hy:cut c (some ((i+1:Nat):Int)) none++cut c none (some ((i+1:Nat):Int))=da c (i+1):=by rw[eZ,e_];rfl
  walk_at "rd"
  rw[Hy]
  refine dk (fun z=>?_) (fun z=>?_)
  ·have z':da c (i+1)<bQ c (jD c i):=of_decide_eq_true z
   have hle:bQ c (jD c (i+1))=da c (i+1):=by rw[o_,gp];unfold cu;rw[if_pos z']
   refine ⟨_,rfl,?_⟩
   rw[hle]
   exact ⟨rfl,_,_,rfl⟩
  ·have z': ¬da c (i+1)<bQ c (jD c i):=fun y=>z (decide_eq_true y)
   have hle:bQ c (jD c (i+1))=bQ c (jD c i):=by rw[o_,gp];unfold cu;rw[if_neg z']
   rw[hle]
   exact ⟨rfl,_,_,rfl⟩
 ·rintro σ H2 ⟨rfl,sv,bv,rfl⟩
  have e:((c.length:Int) - 1).toNat=c.length - 1:=by omega
  rw[e]
  exact ⟨_,rfl,q _ s1⟩
theorem Eh:bC P w K mg base fu 5 Iw Ja ["word"] (w4 K):=by
 have rH:=xM (P:=P) (w:=w) (base:=base) T
 refine T.MC.fn.ok me (fun vs H Q E h=>Ax h) (fun cA A outer s H vs Q E hr h=>?_)
 refine ⟨_,(ag (ay (i:=1) me.nd rfl (Or.inl rfl) (ak rH (hr.mono (by decide)) rfl T.Cy.mg T.Cy.fn.kp T.Cy.bd .nil aC (aa (pv 0) ae)))
   (ag (cW PassesOwn.never rfl (oH rfl T.z_range (aa ai (aa (aB aX (aL bp rfl T.z_len Ub (aa (pv 1) ae)) ai) ae))) (aT (i:=2) me.nd rfl (Or.inl rfl)) (ag (ay (i:=3) me.nd rfl (Or.inl rfl) (aB cO (aL bp rfl T.z_len Ub (aa (pv 1) ae)) (pv 2)))
   (aj (cL (a_ kc (aB qq (bO mC (pv 1) dI (bI (pv 2))) (pv 3)) (pv 1) (ba _)) (aj (aK (cC (aa (bO mC (pv 1) dI (bI (pv 2))) (aa (pv 3) ae))))) bU))))
   (aj (aK (cC (aa (qj [] (by decide+kernel)) (aa ai ae))))))),?_⟩
 obtain ⟨l,rfl,hl,hz,q⟩:=h
 have hs:(100000:Nat)<sizeLine:=by decide
 walk_at "wk"
 intro H1 s1
 have hw:(cZ l).length<=1000:=Ug (yG l) hz
 generalize cZ l=c at hw q ⊢
 have Sq:c.length<=sizeLine:=by omega
 walk_at "wk"
 refine ⟨_,_,rfl,⟨by decide,by decide,by omega,by omega⟩,?_⟩
 refine fT (fun i σ H'=>H'=H1/\(∀j,1<=j->j<=i-> ¬fV c j)/\ ∃sv tv,σ=[some (.str (S l)),some (.str (S c)),sv,tv]) ⟨rfl,fun j h1 h2=>by omega,none,none,rfl⟩ ?_ ?_
 ·rintro i σ H2 hi ⟨rfl,MY,sv,tv,rfl⟩
  have e1:(1:Int)+(i:Int)=((i+1:Nat):Int):=by omega
  rw[e1]
  have e2:(c.length:Int) / ((i+1:Nat):Int)=((c.length / (i+1):Nat):Int):=(Vn _ _).symm
  have hd:=Wc c.length (i+1)
  have hmul:(c.take (i+1)).length*(c.length / (i+1))<=sizeLine:=by
   have h1:(c.take (i+1)).length<=i+1:=by rw[T4];omega
   have h2:=Nat.mul_div_le c.length (i+1)
   have h3:=Nat.mul_le_mul_right (c.length / (i+1)) h1
   omega
  walk_at "wk"
  refine ⟨⟨by rw[e2];exact Ww _,by rw[e2];exact Int.ofNat_le.mpr (Ug hd (by omega:c.length<=1000000))⟩,by rw[e2,eZ,Pj];exact hmul,?_⟩
  walk_at "wk"
  refine dk (fun z=>?_) (fun z=>?_)
  ·have z1:fV c (i+1):=by
    have:=of_decide_eq_true z
    rw[e2,eZ,Pj]at this
    exact this
   walk_at "wk"
   intro p np
   refine q p (i+1) _ (au.free s1 np) ?_ (.inr ⟨by omega,by omega,z1,fun j j1 j2=>MY j j1 (by omega)⟩) (s1.trans (au.upd np))
   rw[ah]
   unfold EO
   rw[<-eZ, <-e2]
  ·have z1: ¬fV c (i+1):=fun y=>z (decide_eq_true (by
    rw[e2,eZ,Pj]
    exact y))
   refine ⟨rfl,fun j j1 j2=>?_,_,_,rfl⟩
   by_cases y:j=i+1
   ·rw[y];exact z1
   ·exact MY j j1 (by omega)
 ·rintro σ H2 ⟨rfl,MY,sv,tv,rfl⟩
  have hc:c=[]:=by
   by_cases z:c=[]
   ·exact z
   ·have hl:0<c.length:=Pe.mpr z
    exact absurd (yH c z) (MY _ hl (by omega))
  subst hc
  walk_at "wk"
  intro p np
  exact q p 0 _ (au.free s1 np) (by rw[ah];rfl) (.inl ⟨rfl,rfl⟩) (s1.trans (au.upd np))
theorem B_:bC P w K mg base fu 6 iU t9 ["self","yard","word","longest"] (tN K aP):=by
 have Hz:=Eh (P:=P) (w:=w) (base:=base) T
 have rH:=xM (P:=P) (w:=w) (base:=base) T
 have nN:=pZ (P:=P) (w:=w) (base:=base) T
 have nP:=lI (P:=P) (w:=w) (base:=base) T
 refine T.LD.ok nE (fun vs H Q E h=>yX h) (fun cA A outer s H vs Q E hr h=>?_)
 refine ⟨_,(ag (gQ (pv 0) (aL bp rfl T.z_len Ub (aa (pv 2) ae)) rfl)
   (ag (gQ (pv 0) (aL bp rfl T.z_len Ub (aa (aN (aU K rfl) (ak Hz (hr.mono (by decide)) rfl T.MC.mg T.MC.fn.kp T.MC.bd .nil aC (aa (pv 2) ae)) ai (fun _ _=>rfl)) ae)) rfl)
   (ag (gQ (pv 0) (gk qp (ak rH (hr.mono (by decide)) rfl T.Cy.mg T.Cy.fn.kp T.Cy.bd .nil aC (aa (pv 2) ae)) (ak rH (hr.mono (by decide)) rfl T.Cy.mg T.Cy.fn.kp T.Cy.bd .nil aC (aa (ak nN (hr.mono (by decide)) rfl T.F1.mg T.F1.fn.kp T.F1.bd .nil aC (aa (pv 2) ae)) ae)) (ba _)) rfl)
   (ag (ay (i:=4) nE.nd rfl (Or.inl rfl) (cq K rfl T5 Vz Vx (jw K rfl) (qj [] (by decide+kernel)) (aa (eV ["place","yard","word"] [none,some 1,some 2] (iq rfl T.z_range (aa (aL bp rfl T.z_len Ub (aa (pv 2) ae)) ae)) ⟨⟨rfl,rfl,by first | exact .inl rfl | exact .inr rfl⟩,⟨⟨rfl,rfl,by first | exact .inl rfl | exact .inr rfl⟩,trivial⟩⟩ (fun _ _ _ _=>(aT (i:=0) (by decide+kernel:List.Nodup (["place","yard","word"]:List Str)) rfl (Or.inl rfl))) (fun _ _ _ _=>j9) (fun _ _ _ _=>(cF yw rfl T.z_str boot_str (aa (ak nP (hr.mono (by decide)) rfl T.MD.mg T.MD.fn.kp T.MD.bd .nil aC (aa (pv 1) (aa (pv 2) (aa (pv 0) ae)))) ae)))) ae)))
   (ag (ay (i:=5) nE.nd rfl (Or.inl rfl) (aB aX ai (aB cO (pv 3) (aL (oJ rfl) rfl T.z_max boot_max (aa (aL bp rfl T.z_len Ub (aa (pv 2) ae)) (aa ai ae))))))
   (ag (gQ (pv 0) (aB qq (pv 4) (pv 5)) rfl)
   (aj (gQ (pv 0) (aB qq (Df (pv 4) (bI (rZ mj ai))) (pv 5)) rfl)))))))),?_⟩
 obtain ⟨x,dx,y,w',lg,rfl,hx,hy,hz,hw,uN,MZ,q⟩:=h
 have hs:(100000:Nat)<sizeLine:=by decide
 have dc: ∀c∈w',Lt c:=fun c hc=>hy.lt c (hw.bH c hc)
 have h8: ∀c∈w',c<128:=fun c hc=>(dc c hc).lt
 have ht:=hw.gm hy
 have Sr: ∀c∈gm w',Lt c:=fun c hc=>hy.lt c (ht.bH c hc)
 have h1:1<=w'.length:=Pe.mpr hw.ne
 have rl:=jP (lg:=lg) h1
 obtain ⟨rt,M0⟩:=w_ hw.ne
 refine ⟨_,rfl,w',rfl,by omega,_,rfl,x,aP,dx,_,rfl,hx,T.fH,T.n_Way_size,by show 0<1000;decide,?_⟩
 refine ⟨_,rfl,w',rfl,dc,by omega,fun p1 s1 H1 n1 Cu EL LJ=>?_⟩
 obtain ⟨er,el⟩:=yM hy hw EL M0
 subst er
 have et:((cZ w').take s1).length=s1:=by
  rw[T4,el]
  rcases M0 with ⟨z,_⟩ | ⟨_,h2,_⟩
  ·exact absurd z hw.ne
  ·omega
 have Ss:s1<=w'.length:=by
  rcases M0 with ⟨z,_⟩ | ⟨_,h2,_⟩
  ·exact absurd z hw.ne
  ·exact h2
 have Su:=LJ _ _ (ah (H:=H) (a:=x))
 refine ⟨p1,_,0,_,rfl,rfl,cy.of Cu,rfl,_,rfl,by rw[et];omega,_,rfl,x,aP,dx,_,rfl,Su,T.fH,T.n_Way_root_size,Ua (cE _ _ _) (by show 0+1<1000;decide),?_⟩
 rw[et]
 refine ⟨_,rfl,w',rfl,dc,by omega,fun H2 s2=>⟨_,rfl,w',rfl,h8,by omega,fun H3 s3=>⟨gm w',rfl,Sr,by rw[b7];omega,fun H4 s4=>?_⟩⟩⟩
 have Qf:=s2.trans (s3.trans s4)
 have Sv:=Qf _ _ (ah (a:=x))
 refine ⟨_,_,rfl,rfl,_,rfl,x,aP,dx,_,rfl,Sv,T.fH,T.n_Way_leads,Ua (cE _ _ _) (Ua (UU (cE _ _ _)) (by show 0+1+1<1000;decide)),?_⟩
 have Sw:decide (cZ w'<cZ (gm w'))=leads w':=by
  unfold leads
  rw[hw.cZ hy,ht.cZ hy]
 refine ⟨rfl,_,rfl,w',rfl,by omega,_,rfl,by omega,by omega,?_⟩
 rw[Pj]
 refine zZ (fun i acc H'=>au _ H'/\acc=dz ((stx y w').take i)) (by omega) ⟨au.refl _,rfl⟩ ?_ ?_
 ·rintro i acc H5 Nx hi hl ⟨s5,rfl⟩ nx
  refine ⟨⟨rfl,rfl,trivial⟩,iw ⟨_,rfl,_,rfl,_,rfl,y,w',i,by rw[Vc];rfl,hy,hz,hw,by omega,hi,fun n H6 hn TJ s6=>⟨n,rfl,by omega,nx _ _ (by simpa using hl) ⟨s5.trans s6,?_⟩⟩⟩⟩
  have eg:(stx y w')[i]? =some (48+n):=by
   unfold stx
   rw[TQ,List.getElem?_range hi]
   show some (um (cst y w' i))=_
   rw[hn]
   unfold um
   congr 1
  rw[G6 n (by omega),eY,take_snoc eg]
 ·rintro acc H5 D hl ⟨s5,rfl⟩ hD
  have LN:(stx y w').take w'.length=stx y w':=Uc (by rw[cG];exact Mj _)
  rw[LN]at hl ⊢
  refine ⟨D,(stx y w').map fun c=>[c],rfl,rfl,bK.of (by rw[ah, <-iu]),by rw[Ao,cG];omega,?_⟩
  rw[sR]
  have Qg:=s5.trans (au.upd (o:= .lst (dz (stx y w'))) hD)
  have OM:=Qg _ _ (ah (a:=x))
  have ON:(if (1:Int)>(w'.length:Int) then (1:Int) else (w'.length:Int))=(max w'.length 1:Nat):=by split<;>omega
  have HA:(3:Int)+(lg:Int) / (if (1:Int)>(w'.length:Int) then (1:Int) else (w'.length:Int))=(g_ lg w'.length:Nat):=by
   rw[ON]
   unfold g_
   rw[Ud,Vn]
   rfl
  have rb:g_ lg w'.length<=1003:=by unfold g_;have:=Wc lg (max w'.length 1);omega
  refine ⟨_,rfl,_,rfl,w',rfl,by omega,_,_,rfl,_,_,rfl,rfl,⟨by rw[ON];omega,by rw[ON];omega⟩,_,_,rfl,rfl,?_⟩
  have l3: ∀(a b c:V),(dh "leads" a (dh "root_size" b (dh "size" c []))).length<=3:=fun a b c=>Ug (cE _ _ _) (UU (Ug (cE _ _ _) (UU (cE _ _ _))))
  refine ⟨_,rfl,_,rfl,stx y w',_,rfl,rfl,⟨by rw[HA];omega,by rw[HA];omega⟩,by rw[HA,Pj,cG];omega,_,rfl,x,aP,dx,_,rfl,OM,T.fH,T.n_Way_onward,Ua (l3 _ _ _) (by decide),?_⟩
  refine ⟨_,rfl,1,rfl,_,rfl,rfl,stx y w',rfl,by rw[cG];omega,_,rfl,(stx y w').reverse,_,rfl,rfl,⟨by rw[HA];omega,by rw[HA];omega⟩,by rw[HA,Pj,Ul,cG];omega,_,rfl,x,aP,dx,_,rfl,ah,T.fH,T.n_Way_backward,Ua (cE _ _ _) (Ua (UU (l3 _ _ _)) (by decide)),?_⟩
  refine q s1 _ M0 ?_ fun b o eb zb=>?_
  ·rw[ah]
   unfold kA
   rw[<-Sw,HA,Pj]
  ·rw[az zb,az zb]
   refine Qg _ _ ?_
   rw[az zb]
   refine Qf _ _ ?_
   rw[az zb]
   refine LJ _ _ ?_
   rw[az zb]
   exact eb
theorem xN:bC P w K mg base fu 8 IF Jk ["yard","words"] (xH K):=by
 have nN:=pZ (P:=P) (w:=w) (base:=base) T
 have rF:=uf (P:=P) (w:=w) (base:=base) T
 have rJ:=oA (P:=P) (w:=w) (base:=base) T
 have xO:=B_ (P:=P) (w:=w) (base:=base) T
 refine T.Hm.fn.ok rB (fun vs H Q E h=>BA h) (fun cA A outer s H vs Q E hr h=>?_)
 refine ⟨_,(ag (ay (i:=2) rB.nd rfl (Or.inr rfl) (Dh K rfl rfl rfl T.z_max (aa (eV ["word"] [none] (wL K rfl (pv 1)) trivial (fun _ _ _ _=>(aT (i:=0) (by decide+kernel:List.Nodup (["word"]:List Str)) rfl (Or.inl rfl))) (fun _ _ _ _=>j9) (fun _ _ _ _=>(aL bp rfl T.z_len Ub (aa (pv 0) ae)))) ae)))
   (ag (ay (i:=3) rB.nd rfl (Or.inr rfl) (eV ["word","yard","longest"] [none,some 0,some 2] (wL K rfl (pv 1)) ⟨⟨rfl,rfl,by first | exact .inl rfl | exact .inr rfl⟩,⟨⟨rfl,rfl,by first | exact .inl rfl | exact .inr rfl⟩,trivial⟩⟩ (fun _ _ _ _=>(aT (i:=0) (by decide+kernel:List.Nodup (["word","yard","longest"]:List Str)) rfl (Or.inl rfl))) (fun _ _ _ _=>j9) (fun _ _ _ _=>(cC (aa (lM T.E7 xO (hr.mono (by decide)) rfl T.E6 T.E8 .nil aC (aa (pv 1) (aa (pv 0) (aa (pv 2) ae)))) (aa (lM T.E7 xO (hr.mono (by decide)) rfl T.E6 T.E8 .nil aC (aa (pv 1) (aa (ak nN (hr.mono (by decide)) rfl T.F1.mg T.F1.fn.kp T.F1.bd .nil aC (aa (pv 0) ae)) (aa (pv 2) ae)))) ae))))))
   (aj (aK (cC (aa (cF (eW K rfl) rfl T.z_tuple boot_tuple (aa (pv 1) ae)) (aa (cF (eW K rfl) rfl T.z_tuple boot_tuple (aa (eV ["band","words","ways"] [none,some 1,some 3] (ql (ak rF (hr.mono (by decide)) rfl T.F2.mg T.F2.fn.kp T.F2.bd .nil aC (aa (pv 0) ae))) ⟨⟨rfl,rfl,by first | exact .inl rfl | exact .inr rfl⟩,⟨⟨rfl,rfl,by first | exact .inl rfl | exact .inr rfl⟩,trivial⟩⟩ (fun _ _ _ _=>(aT (i:=0) (by decide+kernel:List.Nodup (["band","words","ways"]:List Str)) rfl (Or.inl rfl))) (fun _ _ _ _=>j9) (fun _ _ _ _=>(ak rJ (hr.mono (by decide)) rfl T.MH.mg T.MH.fn.kp T.MH.bd .nil aC (aa (pv 1) (aa (pv 2) (aa (pv 0) ae)))))) ae)) ae))))))),?_⟩
 obtain ⟨y,wt,ws,rfl,hy,hz,ub,OB,ur,q⟩:=h
 have hs:(100000:Nat)<sizeLine:=by decide
 have MS: ∀c∈y,c<128:=EM hy.lt
 have Se:=g8 hy
 obtain ⟨lg,Sx,Sy,MZ⟩:=vQ fun w hw=>(ur w hw).2
 refine ⟨_,rfl,wt,rfl,⟨_,cy.of ub⟩,?_⟩
 refine sH (K:=K) (a:=wt) (xs:=ve ws) (fun i acc H'=>H'=H/\acc=(DX (ws.take i)).map V.int) (by rw[dP];omega) (fun i acc H' h=>by rw[h.1];exact cy.of ub) ⟨rfl,rfl⟩ ?_ ?_
 ·rintro i x acc H1 Nx hi hx hl ⟨rfl,rfl⟩ nx
  rw[dP]at hi
  rw[mQ hi]at hx
  cases hx
  have HB:=ur ws[i] (Uy hi)
  refine ⟨trivial,iw ⟨_,rfl,ws[i],rfl,by omega,nx _ _ (by simpa using hl) ⟨rfl,?_⟩⟩⟩
  rw[<-take_snoc (FW hi)]
  unfold DX
  rw[QT,QT]
  rfl
 ·rintro acc H1 D hl ⟨rfl,rfl⟩ hD
  rw[dP,UT]
  refine ⟨D,DX ws,rfl,bK.of ah,?_⟩
  rw[Sx]
  have sD:=au.upd (o:= .lst ((DX ws).map V.int)) hD
  refine ⟨_,rfl,wt,rfl,⟨_,cy.of (sD _ _ ub)⟩,?_⟩
  refine sH (K:=K) (a:=wt) (xs:=ve ws) (fun i acc H'=>au H1 H'/\ ∃jX:List Wp,acc=Cw jX/\jX.length=i/\ ∀(c:Nat) (w:List Nat) (p:Wp),ws[c]? =some w->jX[c]? =some p->q_ H' aP y lg w p) (by rw[dP];omega) (fun i acc H' h=>cy.of (h.1 _ _ ub)) ⟨sD,[],rfl,rfl,fun c w p _ h=>by simp at h⟩ ?_ ?_
  ·rintro i x acc H2 Nx hi hx Mm ⟨s2,jX,rfl,uN,LL⟩ nx
   rw[dP]at hi
   rw[mQ hi]at hx
   cases hx
   have HB:=ur ws[i] (Uy hi)
   have Qh:ws[i]? =some ws[i]:=FW hi
   have LQ:=MZ ws[i] (Uy hi)
   generalize ws[i]=w' at HB Qh LQ ⊢
   have h8: ∀c∈w',c<128:=fun c hc=>(hy.lt c (HB.1.bH c hc)).lt
   refine ⟨⟨rfl,rfl,trivial⟩,iw ?_⟩
   refine ⟨_,rfl,_,rfl,_,rfl,fun x1 Qi Sz OO ne1=>⟨x1,Qi,y,w',lg,rfl,ah,hy,hz,HB.1,LQ,by omega,fun r H3 hr OG SA=>⟨rfl,?_⟩⟩⟩
   have SD:=pV Sz OO SA
   refine ⟨_,rfl,_,rfl,w',rfl,h8,by omega,fun H4 LR=>⟨_,rfl,fun x2 Qj SE OP ne2=>⟨x2,Qj,y,gm w',lg,rfl,ah,hy,hz,HB.1.gm hy,by rw[b7];exact LQ,by omega,fun r2 H5 HZ OM SF=>⟨rfl,?_⟩⟩⟩⟩
   have SG:=pV SE OP SF
   refine ⟨by show 2<=sizeLine;decide,fun t nt=>?_⟩
   have Qk:=au.upd (o:= .tup [.ref x1, .ref x2]) nt
   have JA:=LR.trans (SG.trans Qk)
   have all:=SD.trans JA
   refine nx _ _ (by simpa using Mm) ⟨s2.trans all,jX++[⟨t,x1,x2,r,r2⟩],Bu jX ⟨t,x1,x2,r,r2⟩,by rw[Tn,uN];rfl,DZ uN (fun c w p a b=>(LL c w p a b).same all) Qh ⟨ah,⟨⟨Qi,JA _ _ OG⟩,HB.1,LQ,by omega,hr⟩,⟨⟨Qj,Qk _ _ OM⟩,HB.1.gm hy,by rw[b7];exact LQ,by omega,HZ⟩⟩⟩
  ·rintro acc H2 D2 Mm ⟨s2,jX,rfl,uN,LL⟩ SH
   rw[dP]at uN
   have Ql:=au.upd (o:= .lst (Cw jX)) SH
   have B8:=s2.trans Ql
   refine ⟨_,rfl,wt,_,rfl, .inr ⟨cy.of (B8 _ _ ub),?_⟩⟩
   refine ⟨_,rfl,y,rfl,MS,by omega,fun l' H3 wo Ii s3=>?_⟩
   have el:=xo wo Ii
   subst el
   refine ⟨_,rfl,?_⟩
   have MT:=B8.trans s3
   have SI:=s3 _ _ (ah (H:=H2) (a:=D2) (o:=HO.lst (Cw jX)))
   refine mL (xs:=dz (eR y)) (fun i acc H'=>au H3 H'/\ ∃os:List Od,acc=DN os/\(∀o∈os,yQ H' o)/\os.length=i/\(∀(j:Nat) (o:Od) (b:Nat),os[j]? =some o->(eR y)[j]? =some b->(o.ps.map Pr.pair).Perm (cD b ws ws.length))/\ ∀o∈os,Bz y ws (2*lg) (o.ps.map Pr.pair)) (by rw[bP];omega) ⟨au.refl _,[],rfl,fun _ h=>absurd h Uh,rfl,fun j o b h=>by simp at h,fun _ h=>absurd h Uh⟩ ?_ ?_
   ·rintro i x acc H4 Nx hi hx Jy ⟨s4,os,rfl,K4,GV,OQ,OR⟩ nx
    obtain ⟨b,hb,rfl⟩:=jv hx
    have SJ:=tR hy (TU hb)
    refine ⟨⟨rfl,rfl,trivial⟩,iw ?_⟩
    refine ⟨_,rfl,_,rfl,_,rfl,y,lg,wt,D2,ws,jX,b,rfl,hy,hz,s4 _ _ (MT _ _ ub),OB,ur,SJ,s4 _ _ SI,uN,fun c w p a1 a2=>(LL c w p a1 a2).same (Ql.trans (s3.trans s4)),fun t ps H5 nt ht xJ zf Jx s5=>?_⟩
    have PV:ps.length<=100:=by
     have h1:=zf.length_eq
     have h2:=h7 b (fun w hw=>(ur w hw).2) ws.length (Mj _)
     rw[HX]at h1
     omega
    refine nx _ _ (by simpa using Jy) ⟨s4.trans s5,os++[⟨t,ps⟩],A1 os ⟨t,ps⟩,fun o ho=>?_,by rw[Tn,GV];rfl,fun j o b' ho ET=>?_,fun o ho=>?_⟩
    ·rcases T9.mp ho with g | g
     ·exact (K4 o g).same s5
     ·rw[QU.mp g]
      exact ⟨ht,xJ,PV⟩
    ·by_cases z:j<os.length
     ·rw[U1 z]at ho
      exact OQ j o b' ho ET
     ·rw[UZ (by omega)]at ho
      have:j=i:=by
       have:=(FX.mp ho).1
       simp at this
       omega
      subst this
      rw[GV,Nat.sub_self]at ho
      cases ho
      rw[hb]at ET
      cases ET
      exact zf
    ·rcases T9.mp ho with g | g
     ·exact OR o g
     ·rw[QU.mp g]
      exact Jx
   ·rintro acc H4 D3 Jy ⟨s4,os,rfl,K4,GV,OQ,OR⟩ SK
    rw[bP]at GV
    refine ⟨D3,_,rfl, .inl ⟨bK.of ah,fun t nt=>?_⟩⟩
    refine ⟨by show 2<=sizeLine;decide,fun dr OS=>?_⟩
    have sA:=(au.upd (o:= .lst (DN os)) SK).trans ((au.upd (o:= .tup (DN os)) nt).trans (au.upd (o:= .tup [.ref wt, .ref t]) OS))
    have SM:t≠dr:=fun z=>by rw[<-z,ah]at OS;cases OS
    have Qm:=MT.trans s4
    exact q dr os _ ⟨⟨wt,t,ah,sA _ _ (Qm _ _ ub),by rw[az SM,ah]⟩,fun o ho=>(K4 o ho).same sA⟩ ⟨2*lg,fun w hw v hv=>by have:=MZ w hw;have:=MZ v hv;omega,⟨GV,OQ⟩,OR⟩ (Qm.trans sA)
theorem Ca:bC P w K mg base fu 9 IG Jl ["yard","words"] (tW K):=by
 have bY:=fI (P:=P) (w:=w) (base:=base) T
 have kM:=nM (P:=P) (w:=w) (base:=base) T
 have wb:=xN (P:=P) (w:=w) (base:=base) T
 refine T.MI.fn.ok B6 (fun vs H Q E h=>y0 h) (fun cA A outer s H vs Q E hr h=>?_)
 refine ⟨_,(aj (aK (ak bY (hr.mono (by decide)) rfl T.y8.mg T.y8.fn.kp T.y8.bd .nil aC (aa (ak kM (hr.mono (by decide)) rfl T.F7.mg T.F7.fn.kp T.F7.bd .nil aC (aa (pv 0) (aa (ak wb (hr.mono (by decide)) rfl T.Hm.mg T.Hm.fn.kp T.Hm.bd .nil aC (aa (pv 0) (aa (pv 1) ae))) ae))) ae)))),?_⟩
 obtain ⟨y,wt,ws,rfl,hy,hz,hk,ub,q⟩:=h
 refine ⟨_,rfl,_,rfl,_,rfl,y,wt,ws,rfl,hy,hz,ub,hk.Lg,hk.sw,fun dr os H1 Ia ht s1=>?_⟩
 obtain ⟨nd,e⟩:=yZ hy (fun w hw=>(hk.sw w hw).1) ht
 obtain ⟨M,_,ok,_⟩:=id ht
 refine ⟨y,dr,ws,os,rfl,hy,hz,hk.ok,ok,Ia,fun p qs H2 np hp Eg xK s2=>?_⟩
 have hl:=pW (os:=os) hk
 have MV:qs.length<=24:=by rw[<-xK,HX]at hl;omega
 refine ⟨p,qs,rfl,hp,Eg,MV,by rw[xK];exact nd,fun H3 s3=>?_⟩
 rw[xK]
 exact q _ H3 (s1.trans (s2.trans s3)) e
theorem nQ:bC P w K mg base fu 1 IK Jp ["_law_box_here","_law_many"] (mP K):=by
 refine T.jg.fn.ok nB (fun vs H Q E h=>yC h) (fun cA A outer s H vs Q E hr h=>?_)
 refine ⟨_,(ag (cL (a_ wB (aN (bf K rfl) (pv 0) ai (fun _ _=>rfl)) ai (ba _)) (ag (ay (i:=2) nB.nd rfl (Or.inl rfl) (aB dB (aN (bf K rfl) (pv 0) ai (fun _ _=>rfl)) (pv 1)))
   (ag (uw (aB cO (aN (bf K rfl) (pv 0) ai (fun _ _=>rfl)) (pv 1)) (zB (pv 0) ai set_list))
   (aj (aK (pv 2))))) bU)
   (ag (ay (i:=3) nB.nd rfl (Or.inl rfl) (aB dB (aB gj (aN (bf K rfl) (pv 0) ai (fun _ _=>rfl)) ai) ai))
   (ag (uw (aB aX (aB dB (aB aX (aB gj (pv 3) ai) ai) ai) ai) (zB (pv 0) ai set_list))
   (aj (aK (aB dB (aB cO (aB aX (aB gj (pv 3) ai) (aN (bf K rfl) (pv 0) ai (fun _ _=>rfl))) ai) (pv 1))))))),?_⟩
 obtain ⟨b,m,rfl,⟨x,y,hb⟩,h1,h2,q⟩:=h
 have fin: ∀(r x' y':Int),0<=r->r<m->Q (.int r) (upd H b (.lst [.int x', .int y'])):=fun r x' y' h3 h4=>by
  have e:r=((r.toNat:Nat):Int):=by omega
  rw[e]
  exact q r.toNat _ (by omega) ⟨x',y',ah⟩ (aW.upd b H _)
 refine ⟨_,rfl,b,_,0,_,rfl,rfl,bK.of hb,rfl,_,_,rfl,rfl,_,rfl,dk (fun e=>?_) (fun e=>?_)⟩
 ·refine ⟨_,rfl,b,_,0,_,rfl,rfl,bK.of hb,rfl,_,rfl,_,_,rfl,rfl,(by omega:0<m),?_⟩
  refine ⟨_,rfl,b,_,0,_,rfl,rfl,bK.of hb,rfl,_,rfl,_,_,rfl,rfl,⟨by omega,by omega⟩,_,rfl,b,_,0,0,rfl,rfl,hb,rfl,_,rfl,?_⟩
  exact fin (x%m) (x / m) y (US _ (by omega)) (UM _ (by omega))
 ·refine ⟨_,rfl,b,_,1,_,rfl,rfl,bK.of hb,rfl,_,_,rfl,rfl, .inr ⟨by decide,by decide⟩,_,_,rfl,rfl,(by decide:(0:Int)<2147483647),?_⟩
  refine ⟨_,rfl,_,_,rfl,rfl, .inr ⟨by decide,by decide⟩,_,_,rfl,rfl,_,_,rfl,rfl,(by decide:(0:Int)<2147483629),_,_,rfl,rfl,_,rfl,b,_,1,1,rfl,rfl,hb,rfl,?_⟩
  refine ⟨_,rfl,_,_,rfl,rfl, .inr ⟨by decide,by decide⟩,_,rfl,b,_,1,_,rfl,rfl,bK.of ah,rfl,_,_,rfl,rfl,_,_,rfl,rfl,⟨by decide,by decide⟩,_,rfl,_,_,rfl,rfl,(by omega:0<m),?_⟩
  exact fin _ _ _ (US _ (by omega)) (UM _ (by omega))
theorem p5:bC P w K mg base fu 1 IL Jq ["_law_letter"] (o7 K):=by
 refine T.nR.fn.ok kK (fun vs H Q E h=>vb h) (fun cA A outer s H vs Q E hr h=>?_)
 refine ⟨_,(ag (ay (i:=1) kK.nd rfl (Or.inl rfl) (qj [97,98,99,100,101,102,103,104,105,106,107,108,109,110,111,112,113,114,115,116,117,118,119,120,121,122] (by decide+kernel)))
   (ag (ay (i:=2) kK.nd rfl (Or.inl rfl) (qj [65,66,67,68,69,70,71,72,73,74,75,76,77,78,79,80,81,82,83,84,85,86,87,88,89,90] (by decide+kernel)))
   (ag (cL (a_ Gd (pv 0) (pv 1) (by with_unfolding_all rfl)) (aj (aK (aN qk (pv 2) (cq K rfl T5 V6 V4 ka (pv 1) (aa (pv 0) ae)) (fun _ _=>rfl)))) bU)
   (aj (aK (aN qk (pv 1) (cq K rfl T5 V6 V4 ka (pv 2) (aa (pv 0) ae)) (fun _ _=>rfl))))))),?_⟩
 obtain ⟨c,rfl,hc,q⟩:=h
 refine ⟨_,rfl,_,rfl,c,aM,rfl,rfl,_,rfl,dk (fun e=>?_) (fun e=>?_)⟩
 ·have hm:c∈aM:=of_decide_eq_true e
  exact ⟨_,rfl,_,rfl,rfl,_,rfl,aM,c,rfl,rfl,hm,i4,_,ao c,rfl,rfl,by decide,sQ c hm,q⟩
 ·have hm:c∈i4:=hc.resolve_left fun z=>e (decide_eq_true z)
  exact ⟨_,rfl,_,rfl,rfl,_,rfl,i4,c,rfl,rfl,hm,aM,_,ao c,rfl,rfl,by decide,yB c hm,q⟩
theorem wc:bC P w K mg base fu 2 IT Ju ["_law_box_here"] (nj K):=by
 have cV:=nQ (P:=P) (w:=w) (base:=base) T
 have eA:=p5 (P:=P) (w:=w) (base:=base) T
 refine T.MM.fn.ok ft (fun vs H Q E h=>t6 h) (fun cA A outer s H vs Q E hr h=>?_)
 refine ⟨_,(ag (ay (i:=1) ft.nd rfl (Or.inl rfl) (cF (uT rfl) rfl T.z_list boot_list (aa (qj [97,98,99,100,101,102,103,104,105,106,107,108,109,110,111,112,113,114,115,116,117,118,119,120,121,122] (by decide+kernel)) ae)))
   (ag (ay (i:=2) ft.nd rfl (Or.inl rfl) (cq K rfl Ui VA Vy mw (pv 1) (aa (ak cV (hr.mono (by decide)) rfl T.jg.mg T.jg.fn.kp T.jg.bd .nil aC (aa (pv 0) (aa ai ae))) ae)))
   (ag (ay (i:=3) ft.nd rfl (Or.inl rfl) (cq K rfl Ui VA Vy mw (pv 1) (aa (ak cV (hr.mono (by decide)) rfl T.jg.mg T.jg.fn.kp T.jg.bd .nil aC (aa (pv 0) (aa ai ae))) ae)))
   (ag (iZ (i:=2) (j:=3) rfl ft.nd rfl rfl (by decide) rfl rfl (aa (aN (bf K rfl) (dj (aa (pv 2) (aa (ak eA (hr.mono (by decide)) rfl T.nR.mg T.nR.fn.kp T.nR.bd .nil aC (aa (pv 2) ae)) ae))) (ak cV (hr.mono (by decide)) rfl T.jg.mg T.jg.fn.kp T.jg.bd .nil aC (aa (pv 0) (aa ai ae))) (fun _ _=>rfl)) (aa (aN (bf K rfl) (dj (aa (pv 3) (aa (ak eA (hr.mono (by decide)) rfl T.nR.mg T.nR.fn.kp T.nR.bd .nil aC (aa (pv 3) ae)) ae))) (ak cV (hr.mono (by decide)) rfl T.jg.mg T.jg.fn.kp T.jg.bd .nil aC (aa (pv 0) (aa ai ae))) (fun _ _=>rfl)) ae)) rfl)
   (aj (aK (cC (aa (pv 2) (aa (pv 3) (aa (aN (bf K rfl) (dj (aa (aB dM (aB dM (aB dM (pv 2) (pv 3)) (ak eA (hr.mono (by decide)) rfl T.nR.mg T.nR.fn.kp T.nR.bd .nil aC (aa (pv 2) ae))) (ak eA (hr.mono (by decide)) rfl T.nR.mg T.nR.fn.kp T.nR.bd .nil aC (aa (pv 3) ae))) (aa (aB dM (aB dM (aB dM (pv 3) (pv 2)) (ak eA (hr.mono (by decide)) rfl T.nR.mg T.nR.fn.kp T.nR.bd .nil aC (aa (pv 3) ae))) (ak eA (hr.mono (by decide)) rfl T.nR.mg T.nR.fn.kp T.nR.bd .nil aC (aa (pv 2) ae))) ae))) (ak cV (hr.mono (by decide)) rfl T.jg.mg T.jg.fn.kp T.jg.bd .nil aC (aa (pv 0) (aa ai ae))) (fun _ _=>rfl)) ae)))))))))),?_⟩
 obtain ⟨b,rfl,hb,q⟩:=h
 have hs:(100000:Nat)<sizeLine:=by decide
 have SN:aM.length=26:=rfl
 refine ⟨aM,rfl,by rw[SN];omega,fun L0 nL=>?_⟩
 have Lb:=hb.ne nL
 have Cr:=hb.lq (o:= .lst (dz aM)) Lb
 have M1:upd H L0 (.lst (dz aM)) L0=some (.lst (dz aM)):=ah
 have s1:aW b H (upd H L0 (.lst (dz aM))):=aW.of (au.upd nL)
 generalize upd H L0 (.lst (dz aM))=H1 at Cr M1 s1 ⊢
 refine ⟨_,rfl, .inl ⟨rfl,_,bK.of M1⟩,_,rfl,b,26,rfl,Cr,by decide,by decide,fun r H2 hr rM s2=>?_⟩
 have LS:r<aM.length:=by omega
 have Qn:=s2 _ _ M1 Lb
 refine ⟨L0,_,_,r,_,rfl,rfl,Qn,by omega,by omega,Bl (by rw[bP];exact LS),Ap LS,?_⟩
 rw[yD]
 have x1:aM[r]∈aM:=Uy LS
 have el:(aM.eraseIdx r).length=25:=by rw[List.length_eraseIdx_of_lt LS];rfl
 have es: ∀d∈aM.eraseIdx r,d∈aM/\d≠aM[r]:=fun d hd=>by
  refine ⟨List.mem_of_mem_eraseIdx hd,fun q=>?_⟩
  rw[<-List.erase_eq_eraseIdx_of_idxOf (o9.idxOf_getElem r LS)]at hd
  exact absurd q ((o9.mem_erase_iff.mp hd).1)
 generalize aM[r]=x at x1 es ⊢
 generalize aM.eraseIdx r=L at el es ⊢
 have M3:upd H2 L0 (.lst (dz L)) L0=some (.lst (dz L)):=ah
 have JB:=rM.lq (o:= .lst (dz L)) Lb
 have s3:=(s1.trans s2).lq (o:= .lst (dz L)) nL
 generalize upd H2 L0 (.lst (dz L))=H3 at M3 JB s3 ⊢
 refine ⟨_,rfl, .inl ⟨rfl,_,bK.of M3⟩,_,rfl,b,25,rfl,JB,by decide,by decide,fun r2 H4 HZ LU s4=>?_⟩
 have HC:r2<L.length:=by omega
 have Qo:=s4 _ _ M3 Lb
 refine ⟨L0,_,_,r2,_,rfl,rfl,Qo,by omega,by omega,Bl (by rw[bP];exact HC),Ap HC,?_⟩
 obtain ⟨y1,yx⟩:=es _ (Uy HC)
 generalize L[r2]=y at y1 yx ⊢
 generalize (dz L).eraseIdx r2=OT
 have M4:=LU.lq (o:= .lst OT) Lb
 have s5:=(s3.trans s4).lq (o:= .lst OT) nL
 generalize upd H4 L0 (.lst OT)=H5 at M4 s5 ⊢
 clear M1 Qn M3 Qo s1 s2 s3 s4 Cr rM JB LU es el
 have lx:Lt x:= .inl x1
 have ly:Lt y:= .inl y1
 have sc: ∀a∈aM,ao a∉aM:=by decide+kernel
 have n1:x≠y:=Ne.symm yx
 have n2:x≠ao y:=fun g=>sc y y1 (by rw[<-g];exact x1)
 have pick: ∀{c d:Nat} {g:Nat},(g:Int)<2-> ∃e,(e=c\/e=d)/\j6 [V.str (S [c]), .str (S [d])] (g:Int)=some (.str (S [e])):=fun {c d g} hg=>by
  rcases (show g=0\/g=1 by omega) with rfl | rfl
  ·exact ⟨c, .inl rfl,rfl⟩
  ·exact ⟨d, .inr rfl,rfl⟩
 show zy _ _ _ [some (.ref b),some (.ref L0),some (.str (S [x])),some (.str (S [y]))] H5
 refine ⟨_,rfl,_,rfl,x,rfl,lx,by show 2<=sizeLine;decide,fun t nt=>?_⟩
 have tb:=M4.ne nt
 have ht:upd H5 t (.lst [.str (S [x]), .str (S [ao x])]) t=some (.lst [.str (S [x]), .str (S [ao x])]):=ah
 have OU:=M4.lq (o:= .lst [.str (S [x]), .str (S [ao x])]) tb
 have s6:=s5.after (au.upd (o:= .lst [.str (S [x]), .str (S [ao x])]) nt)
 generalize upd H5 t (.lst [.str (S [x]), .str (S [ao x])])=H6 at ht OU s6 ⊢
 refine ⟨_,rfl,b,2,rfl,OU,by decide,by decide,fun g H7 hg OV s7=>?_⟩
 obtain ⟨x',zk,ex⟩:=pick (c:=x) (d:=ao x) hg
 refine ⟨t,_,_,_,rfl,rfl,bK.of (s7 _ _ ht tb),ex,?_⟩
 refine ⟨_,rfl,_,rfl,y,rfl,ly,by show 2<=sizeLine;decide,fun t2 LV=>?_⟩
 have HD:=OV.ne LV
 have Fb:upd H7 t2 (.lst [.str (S [y]), .str (S [ao y])]) t2=some (.lst [.str (S [y]), .str (S [ao y])]):=ah
 have OW:=OV.lq (o:= .lst [.str (S [y]), .str (S [ao y])]) HD
 have s8:=(s6.trans s7).after (au.upd (o:= .lst [.str (S [y]), .str (S [ao y])]) LV)
 generalize upd H7 t2 (.lst [.str (S [y]), .str (S [ao y])])=H8 at Fb OW s8 ⊢
 refine ⟨_,rfl,b,2,rfl,OW,by decide,by decide,fun g2 H9 SO Qp s9=>?_⟩
 obtain ⟨y',Kp,ey⟩:=pick (c:=y) (d:=ao y) SO
 refine ⟨t2,_,_,_,rfl,rfl,bK.of (s9 _ _ Fb HD),ey,_,_,rfl,?_⟩
 have SQ:=s8.trans s9
 clear s5 s6 s7 s8 s9 M4 OU OV OW ht Fb
 have OX:Lt x':=zk.elim (fun g=>by rw[g];exact lx) fun g=>by rw[g];exact lx.ao
 have OY:Lt y':=Kp.elim (fun g=>by rw[g];exact ly) fun g=>by rw[g];exact ly.ao
 have m1:x'≠y':=fun g=>by
  rcases zk with a | a<;>rcases Kp with c | c<;>rw[a,c]at g
  ·exact n1 g
  ·exact n2 g
  ·exact sc x x1 (by rw[g];exact y1)
  ·exact n1 (cT lx ly g)
 have m2:x'≠ao y':=fun g=>by
  rcases zk with a | a<;>rcases Kp with c | c<;>rw[a,c]at g
  ·exact n2 g
  ·rw[aG ly]at g;exact n1 g
  ·exact n1 (cT lx ly g)
  ·rw[aG ly]at g;exact sc x x1 (by rw[g];exact y1)
 refine ⟨_,rfl,_,rfl,?_⟩
 refine ⟨_,rfl,_,rfl,_,_,rfl,rfl,by show 1+1<=sizeLine;decide,_,rfl,x',rfl,OX,_,_,rfl,rfl,by show 2+1<=sizeLine;decide,_,rfl,y',rfl,OY,_,_,rfl,rfl,by show 3+1<=sizeLine;decide,?_⟩
 refine ⟨_,rfl,_,rfl,_,_,rfl,rfl,by show 1+1<=sizeLine;decide,_,rfl,y',rfl,OY,_,_,rfl,rfl,by show 2+1<=sizeLine;decide,_,rfl,x',rfl,OX,_,_,rfl,rfl,by show 3+1<=sizeLine;decide,?_⟩
 refine ⟨by show 2<=sizeLine;decide,fun t3 Qq=>?_⟩
 have Qr:=Qp.ne Qq
 have Qs:upd H9 t3 (.lst [.str (S [x',y',ao x',ao y']), .str (S [y',x',ao y',ao x'])]) t3=some (.lst [.str (S [x',y',ao x',ao y']), .str (S [y',x',ao y',ao x'])]):=ah
 have LW:=Qp.lq (o:= .lst [.str (S [x',y',ao x',ao y']), .str (S [y',x',ao y',ao x'])]) Qr
 have JC:=SQ.after (au.upd (o:= .lst [.str (S [x',y',ao x',ao y']), .str (S [y',x',ao y',ao x'])]) Qq)
 show wG _ _ _ _ _ (upd H9 t3 (.lst [.str (S [x',y',ao x',ao y']), .str (S [y',x',ao y',ao x'])])) _
 generalize upd H9 t3 (.lst [.str (S [x',y',ao x',ao y']), .str (S [y',x',ao y',ao x'])])=Qt at Qs LW JC ⊢
 refine ⟨_,rfl,b,2,rfl,LW,by decide,by decide,fun g3 SR TK LX M5=>?_⟩
 obtain ⟨z,hz,ez⟩: ∃z,(z=[x',y',ao x',ao y']\/z=[y',x',ao y',ao x'])/\j6 [V.str (S [x',y',ao x',ao y']), .str (S [y',x',ao y',ao x'])] (g3:Int)=some (.str (S z)):=by
  rcases (show g3=0\/g3=1 by omega) with rfl | rfl
  ·exact ⟨_, .inl rfl,rfl⟩
  ·exact ⟨_, .inr rfl,rfl⟩
 refine ⟨t3,_,_,_,rfl,rfl,bK.of (M5 _ _ Qs Qr),ez,?_⟩
 refine ⟨by show 3<=sizeLine;decide,fun t4 Qu=>?_⟩
 have Qv:=LX.ne Qu
 exact q t4 x' y' z _ OX OY m1 m2 hz ah Qv (LX.lq Qv) ((JC.trans M5).after (au.upd Qu))
theorem Ei:bC P w K mg base fu 1 IJ Jo ["_law_script","_law_k"] (wW K):=by
 refine T.MK.fn.ok jU (fun vs H Q E h=>An h) (fun cA A outer s H vs Q E hr h=>?_)
 refine ⟨_,(ag (ay (i:=2) jU.nd rfl (Or.inl rfl) (aB aX (aB gj ai (pv 1)) ai))
   (ag (cL (a_ oI (pv 1) (aL (bS K rfl) rfl T.z_len Ub (aa (pv 0) ae)) (ba _)) (aj (ay (i:=2) jU.nd rfl (Or.inl rfl) (aN (bf K rfl) (pv 0) (pv 1) (fun _ _=>rfl)))) (aj (cL (a_ wB (aL (bS K rfl) rfl T.z_len Ub (aa (pv 0) ae)) ai (ba _)) (aj (ay (i:=2) jU.nd rfl (Or.inl rfl) (aB aX (pv 2) (aB gj (aB dB (aN (bf K rfl) (pv 0) (aB dB (pv 1) (aL (bS K rfl) rfl T.z_len Ub (aa (pv 0) ae))) (fun _ _=>rfl)) ai) ai)))) bU)))
   (ag (ay (i:=3) jU.nd rfl (Or.inl rfl) (aB dB (aB zE (aB aX (aB aX (aB dB (pv 2) ai) (aB gj ai (pv 1))) ai) ai) ai))
   (aj (aK (dj (aa (aN (bf K rfl) (dj (aa ai (aa (pv 2) ae))) (cF j4 rfl T.z_int boot_int (aa (gk wC (pv 2) (aB zE ai ai) (ba _)) ae)) (fun _ _=>rfl)) (aa (aB aX (aB dB (pv 3) ai) ai) ae)))))))),?_⟩
 obtain ⟨a,ns,k,rfl,hS,hk,q⟩:=h
 have hp:(0:Int)<2147483629:=by decide
 walk_at "rd"
 refine ⟨a,_,rfl, .inl hS,?_⟩
 walk_at "rd"
 refine dk (fun e=>?_) (fun e=>?_)
 ·have e':(k:Int)<((ns.map V.int).length:Nat):=of_decide_eq_true e
  rw[HX]at e'
  obtain ⟨z,hz⟩:=wX (ns:=ns) (i:=k) (by omega)
  walk_at "rd"
  refine ⟨a,_,k,_,rfl,rfl,hS,cR hz,?_⟩
  walk_at "rd"
  refine fun p1 n1=>?_
  walk_at "rd"
  refine .inr ⟨_,rfl,?_⟩
  obtain ⟨y,hy⟩:=vd _ z
  refine ⟨p1,_,_,_,rfl,rfl,bK.of ah,hy,?_⟩
  walk_at "rd"
  exact fun p2 n2=>q p2 _ (au.free (au.upd n1) n2) ⟨_,_,ah⟩ ((au.upd n1).trans (au.upd n2))
 ·walk_at "rd"
  refine ⟨a,_,rfl, .inl hS,?_⟩
  walk_at "rd"
  refine dk (fun e2=>?_) (fun e2=>?_)
  ·have e':(0:Int)<((ns.map V.int).length:Nat):=of_decide_eq_true e2
   have hl:(0:Int)<(ns.length:Int):=by rw[HX]at e';exact e'
   have m1:0<=(k:Int)%(ns.length:Int):=US _ (by omega)
   have m2:(k:Int)%(ns.length:Int)<(ns.length:Int):=UM _ hl
   obtain ⟨z,hz⟩:=wX (ns:=ns) (i:=((k:Int)%(ns.length:Int)).toNat) (by omega)
   have Ik:j6 (ns.map V.int) ((k:Int)%((ns.map V.int).length:Nat))=some (V.int z):=by
    have:=cR hz
    rw[Int.toNat_of_nonneg m1]at this
    rw[HX]
    exact this
   walk_at "rd"
   refine ⟨a,_,rfl, .inl hS,?_⟩
   walk_at "rd"
   refine ⟨a,_,_,_,rfl,rfl,hS,Ik,?_⟩
   walk_at "rd"
   refine fun p1 n1=>?_
   walk_at "rd"
   refine .inr ⟨_,rfl,?_⟩
   obtain ⟨y,hy⟩:=vd _ _
   refine ⟨p1,_,_,_,rfl,rfl,bK.of ah,hy,?_⟩
   walk_at "rd"
   exact fun p2 n2=>q p2 _ (au.free (au.upd n1) n2) ⟨_,_,ah⟩ ((au.upd n1).trans (au.upd n2))
  ·walk_at "rd"
   refine fun p1 n1=>?_
   walk_at "rd"
   refine .inr ⟨_,rfl,?_⟩
   obtain ⟨y,hy⟩:=vd _ _
   refine ⟨p1,_,_,_,rfl,rfl,bK.of ah,hy,?_⟩
   walk_at "rd"
   exact fun p2 n2=>q p2 _ (au.free (au.upd n1) n2) ⟨_,_,ah⟩ ((au.upd n1).trans (au.upd n2))
theorem wd:bC P w K mg base fu 1 IM Jr ["_law_p","_law_q"] (ni K):=by
 refine T.ML.fn.ok nC (fun vs H Q E h=>tY h) (fun cA A outer s H vs Q E hr h=>?_)
 refine ⟨_,(ag (eS PassesOwn.never (a_ wB (pv 1) ai (ba _)) (aj (iZ (i:=0) (j:=1) rfl nC.nd rfl rfl (by decide) rfl rfl (aa (pv 1) (aa (aB dB (pv 0) (pv 1)) ae)) rfl)))
   (aj (aK (pv 0)))),?_⟩
 obtain ⟨p,q',rfl,hp,hq,q⟩:=h
 refine ⟨fun b σ H'=> ∃(a:Nat),σ=[some (.int a),some (.int b)]/\Nat.gcd a b=Nat.gcd p q'/\H'=H,⟨_,p,rfl,rfl,rfl⟩,?_⟩
 rintro b σ H1 ⟨a,rfl,hg,rfl⟩
 refine ⟨_,rfl,_,_,rfl,rfl,_,rfl,dk (fun z=>?_) (fun z=>?_)⟩
 ·have z1:(0:Int)<(b:Int):=of_decide_eq_true z
  have z2:0<b:=by omega
  refine ⟨_,rfl,_,rfl,_,rfl,_,_,rfl,rfl,z1,_,_,rfl,?_⟩
  refine ⟨a%b,U_ _ z2,b,?_,?_,rfl⟩
  ·rw[Vm]
   rfl
  ·rw[<-hg,Nat.gcd_comm b, <-Nat.gcd_rec,Nat.gcd_comm]
 ·have z1: ¬(0:Int)<(b:Int):=fun g=>z (decide_eq_true g)
  have z2:b=0:=by omega
  refine ⟨_,rfl,?_⟩
  rw[z2,Nat.gcd_zero_right]at hg
  rw[hg]
  exact q
theorem Cb:bC P w K mg base fu 2 IQ Js ["_law_box_here"] (tZ K):=by
 have cV:=nQ (P:=P) (w:=w) (base:=base) T
 have zh:=wd (P:=P) (w:=w) (base:=base) T
 refine T.Ho.fn.ok ik (fun vs H Q E h=>y6 h) (fun cA A outer s H vs Q E hr h=>?_)
 refine ⟨_,(ag (iZ (i:=1) (j:=2) rfl ik.nd rfl rfl (by decide) rfl rfl (aa (ak cV (hr.mono (by decide)) rfl T.jg.mg T.jg.fn.kp T.jg.bd .nil aC (aa (pv 0) (aa ai ae))) (aa (ak cV (hr.mono (by decide)) rfl T.jg.mg T.jg.fn.kp T.jg.bd .nil aC (aa (pv 0) (aa ai ae))) ae)) rfl)
   (ag (ay (i:=3) ik.nd rfl (Or.inl rfl) (aL (oJ rfl) rfl T.z_max boot_max (aa ai (aa (ak zh (hr.mono (by decide)) rfl T.ML.mg T.ML.fn.kp T.ML.bd .nil aC (aa (pv 1) (aa (pv 2) ae))) ae))))
   (ag (iZ (i:=1) (j:=2) rfl ik.nd rfl rfl (by decide) rfl rfl (aa (aB cO (pv 1) (pv 3)) (aa (aB cO (pv 2) (pv 3)) ae)) rfl)
   (ag (cL (a_ z5 (aB aX (pv 1) (pv 2)) ai (ba _)) (aj (ay (i:=1) ik.nd rfl (Or.inl rfl) ai)) bU)
   (aj (aK (cC (aa (pv 1) (aa (aB gj (pv 2) (aN (bf K rfl) (dj (aa ai (aa (rZ mj ai) ae))) (ak cV (hr.mono (by decide)) rfl T.jg.mg T.jg.fn.kp T.jg.bd .nil aC (aa (pv 0) (aa ai ae))) (fun _ _=>rfl))) ae))))))))),?_⟩
 obtain ⟨b,rfl,hb,q⟩:=h
 have hs:(100000:Nat)<sizeLine:=by decide
 refine ⟨_,rfl,b,6,rfl,hb,by decide,by decide,fun p H1 hp Cr s1=>?_⟩
 refine ⟨_,rfl,b,6,rfl,Cr,by decide,by decide,fun r H2 hr rM s2=>?_⟩
 refine ⟨_,_,rfl,?_⟩
 refine ⟨_,rfl,_,rfl,p,r,rfl,by omega,by omega,?_⟩
 refine ⟨_,_,rfl,?_⟩
 obtain ⟨d,ed,d1,d2⟩: ∃d:Nat,(if ((Nat.gcd p r:Nat):Int)>1 then ((Nat.gcd p r:Nat):Int) else 1)=d/\0<d/\(d=Nat.gcd p r\/(p=0/\r=0/\d=1)):=by
  by_cases z:((Nat.gcd p r:Nat):Int)>1
  ·rw[if_pos z]
   exact ⟨_,rfl,by omega, .inl rfl⟩
  ·rw[if_neg z]
   refine ⟨1,rfl,by decide,?_⟩
   by_cases g:Nat.gcd p r=0
   ·exact .inr ⟨Nat.eq_zero_of_gcd_eq_zero_left g,Nat.eq_zero_of_gcd_eq_zero_right g,rfl⟩
   ·exact .inl (by omega)
 show zy _ _ _ [some (.ref b),some (.int p),some (.int r),some (.int (if ((Nat.gcd p r:Nat):Int)>1 then ((Nat.gcd p r:Nat):Int) else 1))] H2
 rw[ed]
 have dl:d<=6:=by
  rcases d2 with g | ⟨_,_,g⟩
  ·rcases Nat.eq_zero_or_pos p with e | e
   ·rw[e,Nat.gcd_zero_left]at g
    omega
   ·have:=VY e (Nat.gcd_dvd_left p r)
    omega
  ·omega
 refine ⟨_,rfl,_,rfl,_,_,rfl,rfl,⟨by omega,by omega⟩,_,rfl,_,rfl,_,_,rfl,rfl,⟨by omega,by omega⟩,_,_,rfl,?_⟩
 have e1:(p:Int) / (d:Int)=((p / d:Nat):Int):=(Vn _ _).symm
 have e2:(r:Int) / (d:Int)=((r / d:Nat):Int):=(Vn _ _).symm
 have q1:p / d<6:=Ua (Wc _ _) (by omega)
 have q2:r / d<6:=Ua (Wc _ _) (by omega)
 have gd:(p / d=0/\r / d=0)\/Nat.gcd (p / d) (r / d)=1:=by
  rcases d2 with g | ⟨g1,g2,g3⟩
  ·right
   rw[g]
   exact Nat.coprime_div_gcd_div_gcd (by omega)
  ·left
   rw[g1,g2,g3]
   exact ⟨rfl,rfl⟩
 show zy _ _ _ [some (.ref b),some (.int ((p:Int) / d)),some (.int ((r:Int) / d)),some (.int d)] H2
 rw[e1,e2]
 generalize p / d=m at q1 gd
 generalize r / d=n at q2 gd
 have last: ∀(m:Nat),m<6->Nat.gcd m n=1->JP (Kb (mm (xY 1) (mm (HW (rI zD fun i j=>V.int (i*j)) (xY 2) (HW (FJ K) (Kc (mm (tC (V.int 1)) (mm (O7 (rU fun i=>V.int (-i)) (tC (V.int 1))) CJ))) (wG (mP K) [] E0 (mm (xY 0) (mm (tC (V.int 2)) CJ))))) CJ))) { nx:=fun _ H'=>Q V.gB H',rt:=Q } [some (.ref b),some (.int m),some (.int n),some (.int d)] H2:=fun m hm hg=>by
  refine ⟨_,rfl,_,rfl,_,rfl,by show 2<=sizeLine;decide,fun t nt=>?_⟩
  have tb:=rM.ne nt
  have ht:upd H2 t (.lst [.int 1, .int (-1)]) t=some (.lst [.int 1, .int (-1)]):=ah
  have JB:=rM.lq (o:= .lst [.int 1, .int (-1)]) tb
  have s3:=(s1.trans s2).after (au.upd (o:= .lst [.int 1, .int (-1)]) nt)
  show wG _ _ _ _ _ (upd H2 t (.lst [.int 1, .int (-1)])) _
  generalize upd H2 t (.lst [.int 1, .int (-1)])=H3 at ht JB s3 ⊢
  refine ⟨_,rfl,b,2,rfl,JB,by decide,by decide,fun g H4 TL LU s4=>?_⟩
  have SU:=s4 _ _ ht tb
  have pm:=Hj m (Ux.mpr hm) n (Ux.mpr q2) hg
  obtain ⟨sgn,es,hp⟩: ∃sgn:Int,j6 [V.int 1, .int (-1)] (g:Int)=some (.int sgn)/\(m,(n:Int)*sgn)∈om:=by
   rcases (show g=0\/g=1 by omega) with rfl | rfl
   ·exact ⟨1,rfl,by rw[Int.mul_one];exact pm.1⟩
   ·exact ⟨-1,rfl,by rw[Int.mul_neg,Int.mul_one];exact pm.2⟩
  refine ⟨t,_,_,_,rfl,rfl,bK.of SU,es,_,_,rfl,rfl, .inl ⟨by omega,by omega⟩,by show 2<=sizeLine;decide,fun t2 LV=>?_⟩
  have HD:=LU.ne LV
  exact q t2 (m,(n:Int)*sgn) _ hp HD ah (LU.lq HD) ((s3.trans s4).after (au.upd LV))
 refine ⟨_,rfl,_,rfl,_,_,rfl,rfl,_,_,rfl,rfl,_,rfl,dk (fun z=>?_) (fun z=>?_)⟩
 ·have z1:(m:Int)+n=0:=of_decide_eq_true z
  exact last 1 (by decide) (Nat.gcd_one_left _)
 ·have z1: ¬(m:Int)+n=0:=fun g=>z (decide_eq_true g)
  rcases gd with g | g
  ·exact absurd (show (m:Int)+n=0 by omega) z1
  ·exact last m q1 g
theorem Cc:bC P w K mg base fu 2 IS Jt ["_law_x","_law_y","_law_pair_here"] (t5 K):=by
 have eA:=p5 (P:=P) (w:=w) (base:=base) T
 refine T.Hq.fn.ok d_ (fun vs H Q E h=>y7 h) (fun cA A outer s H vs Q E hr h=>?_)
 refine ⟨_,(ag (iZ (i:=3) (j:=4) rfl d_.nd rfl rfl (by decide) rfl rfl (aa (aN (aU K rfl) (pv 2) ai (fun _ _=>rfl)) (aa (aL r6 rfl T.z_abs boot_abs (aa (aN (aU K rfl) (pv 2) ai (fun _ _=>rfl)) ae)) ae)) rfl)
   (ag (ay (i:=5) d_.nd rfl (Or.inl rfl) (aN (bf K rfl) (dj (aa (ak eA (hr.mono (by decide)) rfl T.nR.mg T.nR.fn.kp T.nR.bd .nil aC (aa (pv 1) ae)) (aa (pv 1) ae))) (cF j4 rfl T.z_int boot_int (aa (gk wC (aN (aU K rfl) (pv 2) ai (fun _ _=>rfl)) ai (ba _)) ae)) (fun _ _=>rfl)))
   (ag (ay (i:=6) d_.nd rfl (Or.inl rfl) (qj [] (by decide+kernel)))
   (ag (ay (i:=7) d_.nd rfl (Or.inl rfl) ai)
   (ag (cW PassesOwn.never rfl (iq rfl T.z_range (aa (aB aX (pv 3) (pv 4)) ae)) (aT (i:=8) d_.nd rfl (Or.inl rfl)) (ag (ay (i:=7) d_.nd rfl (Or.inl rfl) (aB dB (aB aX (pv 7) (pv 4)) (aB aX (pv 3) (pv 4))))
   (aj (ay (i:=6) d_.nd rfl (Or.inl rfl) (aB dM (pv 6) (aN (bf K rfl) (dj (aa (pv 0) (aa (pv 5) ae))) (cF j4 rfl T.z_int boot_int (aa (gk oI (pv 7) (pv 4) (ba _)) ae)) (fun _ _=>rfl)))))))
   (aj (aK (pv 6)))))))),?_⟩
 obtain ⟨x,y,t,⟨p,r⟩,rfl,lx,ly,ht,ha,q⟩:=h
 have hs:(100000:Nat)<sizeLine:=by decide
 obtain ⟨p1,p2,p3,_⟩:=nh _ ha
 dsimp only at p1 p2 p3 ht
 have e0:j6 [V.int (p:Nat), .int r] (0:Int)=some (.int (p:Nat)):=rfl
 have e1:j6 [V.int (p:Nat), .int r] (1:Int)=some (.int r):=rfl
 refine ⟨_,rfl,t,_,_,_,rfl,rfl,cy.of ht,e0,_,rfl,t,_,_,_,rfl,rfl,cy.of ht,e1,_,rfl,_,_,rfl,?_⟩
 have eq:(if r<0 then -r else r)=((r.natAbs:Nat):Int):=by split<;>omega
 show zy _ _ _ [some (.str (S [x])),some (.str (S [y])),some (.ref t),some (.int (p:Nat)),some (.int (if r<0 then -r else r)),none,none,none,none] H
 rw[eq]
 refine ⟨_,rfl,y,rfl,ly,_,rfl,by show 2<=sizeLine;decide,fun l nl=>?_⟩
 have s1:=au.upd (o:= .lst [.str (S [ao y]), .str (S [y])]) nl
 have hl:upd H l (.lst [.str (S [ao y]), .str (S [y])]) l=some (.lst [.str (S [ao y]), .str (S [y])]):=ah
 generalize upd H l (.lst [.str (S [ao y]), .str (S [y])])=H1 at s1 hl ⊢
 refine ⟨_,rfl,t,_,_,_,rfl,rfl,cy.of (s1 _ _ ht),e1,_,_,rfl,rfl, .inr ⟨_,rfl,?_⟩⟩
 have eu:j6 [V.str (S [ao y]), .str (S [y])] (if decide ((0:Int)<=r)=true then 1 else 0)=some (.str (S [if 0<=r then y else ao y])):=by
  by_cases z:0<=r
  ·rw[if_pos z,decide_eq_true z]
   rfl
  ·rw[if_neg z,decide_eq_false z]
   rfl
 refine ⟨l,_,_,_,rfl,rfl,bK.of hl,eu,?_⟩
 generalize hu:(if 0<=r then y else ao y)=u
 have hW:BR x y (p,r)=ev p r.natAbs x u:=by rw[<-hu];rfl
 rw[hW]at q
 generalize r.natAbs=n at p2 p3 q
 refine ⟨_,rfl,_,rfl,_,_,rfl,rfl,_,rfl,by omega,by omega,?_⟩
 rw[show ((p:Int)+(n:Int)).toNat=p+n by omega]
 refine fT (fun i σ H'=> ∃v8:Option V,σ=[some (.str (S [x])),some (.str (S [y])),some (.ref t),some (.int (p:Nat)),some (.int (n:Nat)),some (.str (S [u])),some (.str (S ((List.range i).map fun k=>if Nat.blt ((k+1)*n%(p+n)) n then u else x))),some (.int ((i*n%(p+n):Nat):Int)),v8]/\au H H') ⟨none,?_,s1⟩ ?_ ?_
 ·rw[Nat.zero_mul,Nat.zero_mod]
  rfl
 ·rintro i σ H2 hi ⟨v8,rfl,s2⟩
  refine ⟨_,rfl,_,rfl,_,_,rfl,rfl,_,rfl,_,rfl,_,_,rfl,rfl,_,_,rfl,rfl,by omega,?_⟩
  have em:(((i*n%(p+n):Nat):Int)+(n:Int))%((p:Int)+n)=(((i+1)*n%(p+n):Nat):Int):=by
   rw[<-Ud, <-Ud, <-Vm,Nat.mod_add_mod,V8]
  have RU:(i+1)*n%(p+n)<p+n:=U_ _ p3
  have ll:((List.range i).map fun k=>if Nat.blt ((k+1)*n%(p+n)) n then u else x).length=i:=by rw[HX,Vh]
  refine ⟨_,rfl,_,rfl,_,rfl,by show 2<=sizeLine;decide,fun l2 SV=>?_⟩
  refine ⟨_,rfl,_,rfl,_,_,rfl,rfl, .inr ⟨_,rfl,?_⟩⟩
  have ex:j6 [V.str (S [x]), .str (S [u])] (if decide ((((i*n%(p+n):Nat):Int)+(n:Int))%((p:Int)+n)<(n:Int))=true then 1 else 0)=some (.str (S [if Nat.blt ((i+1)*n%(p+n)) n then u else x])):=by
   rw[em]
   by_cases z:(i+1)*n%(p+n)<n
   ·rw[if_pos (decide_eq_true (by omega)),if_pos (Nat.blt_eq.mpr z)]
    rfl
   ·rw[if_neg (fun g=>z (by have:=of_decide_eq_true g;omega)),if_neg (fun g=>z (Nat.blt_eq.mp g))]
    rfl
  refine ⟨l2,_,_,_,rfl,rfl,bK.of ah,ex,_,_,rfl,rfl,by rw[ll];show _+1<=_;omega,some (.int (0+(i:Int))),Eq.trans (b:=[some (.str (S [x])),some (.str (S [y])),some (.ref t),some (.int (p:Nat)),some (.int (n:Nat)),some (.str (S [u])),some (.str (S (((List.range i).map fun k=>if Nat.blt ((k+1)*n%(p+n)) n then u else x)++[if Nat.blt ((i+1)*n%(p+n)) n then u else x]))),some (.int ((((i*n%(p+n):Nat):Int)+(n:Int))%((p:Int)+n))),some (.int (0+(i:Int)))]) rfl ?_,s2.trans (au.upd SV)⟩
  rw[em,UG,QT]
  rfl
 ·rintro σ H2 ⟨v8,rfl,s2⟩
  exact ⟨_,rfl,q H2 s2⟩
theorem we:bC P w K mg base fu 9 II Jn ["yard","one","other"] (nc K):=by
 have kM:=nM (P:=P) (w:=w) (base:=base) T
 have wb:=xN (P:=P) (w:=w) (base:=base) T
 have bY:=fI (P:=P) (w:=w) (base:=base) T
 refine T.MJ.fn.ok gA (fun vs H Q E h=>tX h) (fun cA A outer s H vs Q E hr h=>?_)
 refine ⟨_,(ag (ay (i:=3) gA.nd rfl (Or.inl rfl) (ak kM (hr.mono (by decide)) rfl T.F7.mg T.F7.fn.kp T.F7.bd .nil aC (aa (pv 0) (aa (ak wb (hr.mono (by decide)) rfl T.Hm.mg T.Hm.fn.kp T.Hm.bd .nil aC (aa (pv 0) (aa (cC (aa (pv 1) (aa (pv 2) ae))) ae))) ae))))
   (ag (ay (i:=4) gA.nd rfl (Or.inl rfl) (bO (mM K rfl) (pv 3) dI (bI (aL bp rfl T.z_len Ub (aa (pv 1) ae)))))
   (ag (ay (i:=5) gA.nd rfl (Or.inl rfl) (bO (mM K rfl) (pv 3) (bI (aL bp rfl T.z_len Ub (aa (pv 1) ae))) dI))
   (aj (aK (aB cJ (aB cJ (ak bY (hr.mono (by decide)) rfl T.y8.mg T.y8.fn.kp T.y8.bd .nil aC (aa (pv 3) ae)) (ak bY (hr.mono (by decide)) rfl T.y8.mg T.y8.fn.kp T.y8.bd .nil aC (aa (pv 4) ae))) (ak bY (hr.mono (by decide)) rfl T.y8.mg T.y8.fn.kp T.y8.bd .nil aC (aa (pv 5) ae)))))))),?_⟩
 obtain ⟨y,w',v,rfl,hy,hz,hw,Cz,hv,SX,q⟩:=h
 have hs:(100000:Nat)<sizeLine:=by decide
 have hk:=Dy hw hv Cz SX
 refine ⟨_,rfl,_,rfl,_,rfl,_,rfl,by show 2<=sizeLine;decide,fun t nt=>?_⟩
 have st:=au.upd (o:= .tup [.str (S w'), .str (S v)]) nt
 refine ⟨y,t,[w',v],rfl,hy,hz,ah,hk.Lg,hk.sw,fun dr os H1 Ia ht s1=>?_⟩
 obtain ⟨e,n0,n1,n2⟩:=D5 hy hw hv ht
 obtain ⟨M,_,ok,_⟩:=id ht
 refine ⟨y,dr,[w',v],os,rfl,hy,hz,hk.ok,ok,Ia,fun p qs H2 np hp Eg xK s2=>?_⟩
 have hl:=pW (os:=os) hk
 have MV:qs.length<=24:=by rw[<-xK,HX]at hl;exact hl
 have c1:mq (lE qs) none (some (w'.length:Int))=lE (qs.take w'.length):=by
  show cut (lE qs) none (some ((w'.length:Nat):Int))=_
  rw[eZ]
  unfold lE
  rw[Wr]
 have c2:mq (lE qs) (some (w'.length:Int)) none=lE (qs.drop w'.length):=by
  show cut (lE qs) (some ((w'.length:Nat):Int)) none=_
  rw[e_]
  unfold lE
  rw[Ws]
 refine ⟨_,rfl,_,rfl,w',rfl,by omega,_,rfl,p,_,rfl,bK.of hp,fun p1 SY=>?_⟩
 rw[c1]
 have s3:=au.upd (o:= .lst (lE (qs.take w'.length))) SY
 refine ⟨_,rfl,_,rfl,w',rfl,by omega,_,rfl,p,_,rfl,bK.of (s3 _ _ hp),fun p2 S0=>?_⟩
 rw[c2]
 have s4:=au.upd (o:= .lst (lE (qs.drop w'.length))) S0
 have LR:=s3.trans s4
 refine ⟨_,rfl,p,qs,rfl,LR _ _ hp,fun x hx=>(Eg x hx).ts (dq.of LR),by omega,by rw[xK];exact n0,fun H5 s5=>?_⟩
 have Cu:H5 p1=some (.lst (lE (qs.take w'.length))):=s5 _ _ (s4 _ _ ah)
 have wO:H5 p2=some (.lst (lE (qs.drop w'.length))):=s5 _ _ ah
 have JA:=LR.trans s5
 refine ⟨_,rfl,p1,qs.take w'.length,rfl,Cu,fun x hx=>(Eg x (Wj hx)).ts (dq.of JA),by rw[T4];omega,by rw[Wr,xK];exact n1,fun H6 s6=>?_⟩
 refine ⟨_,_,rfl,rfl,?_⟩
 refine ⟨_,rfl,p2,qs.drop w'.length,rfl,s6 _ _ wO,fun x hx=>(Eg x (Wl hx)).ts (dq.of (JA.trans s6)),by rw[T6];omega,by rw[Ws,xK];exact n2,fun H7 s7=>?_⟩
 refine ⟨_,_,rfl,rfl,?_⟩
 rw[Wr,Ws,xK]
 have kq:=q H7 (st.trans (s1.trans (s2.trans (JA.trans (s6.trans s7)))))
 rw[<-e]at kq
 exact kq
theorem HE:bC P w K mg base fu 10 IH Jm ["yard","word"] (BH K):=by
 have Ej:=Ca (P:=P) (w:=w) (base:=base) T
 refine T.Hn.fn.ok Hs (fun vs H Q E h=>len_own h) (fun cA A outer s H vs Q E hr h=>?_)
 refine ⟨_,(aj (aK (ak Ej (hr.mono (by decide)) rfl T.MI.mg T.MI.fn.kp T.MI.bd .nil aC (aa (pv 0) (aa (cC (aa (pv 1) ae)) ae))))),?_⟩
 obtain ⟨y,w',rfl,hy,hz,hw,Cz,q⟩:=h
 refine ⟨_,rfl,_,rfl,by show 1<=sizeLine;decide,fun t nt=>?_⟩
 refine ⟨y,t,[w'],rfl,hy,hz,D6 hw Cz,ah,fun n H1 s1 e=>?_⟩
 exact q n H1 ((au.upd nt).trans s1) (e.trans (BG y w'))
theorem HF:bC P w K mg base fu 11 IU Jv ["_law_script"] (j7 K):=by
 have HG:=Ei (P:=P) (w:=w) (base:=base) T
 have zi:=wc (P:=P) (w:=w) (base:=base) T
 have cV:=nQ (P:=P) (w:=w) (base:=base) T
 have xP:=Cb (P:=P) (w:=w) (base:=base) T
 have xQ:=Cc (P:=P) (w:=w) (base:=base) T
 have Fc:=HE (P:=P) (w:=w) (base:=base) T
 have zj:=we (P:=P) (w:=w) (base:=base) T
 refine T.RS.fn.ok eI (fun vs H Q E h=>Dk h) (fun cA A outer s H vs Q E hr h=>?_)
 refine ⟨_,(ag (cW PassesOwn.never rfl (iq rfl T.z_range (aa (aB aX ai (aL (bS K rfl) rfl T.z_len Ub (aa (bO (mM K rfl) (pv 0) (bI ai) (bI ai)) ae))) ae)) (aT (i:=1) eI.nd rfl (Or.inl rfl)) (ag (ay (i:=2) eI.nd rfl (Or.inl rfl) (ak HG (hr.mono (by decide)) rfl T.MK.mg T.MK.fn.kp T.MK.bd .nil aC (aa (pv 0) (aa (pv 1) ae))))
   (ag (uw (ak zi (hr.mono (by decide)) rfl T.MM.mg T.MM.fn.kp T.MM.bd .nil aC (aa (pv 2) ae)) (jx (n:=3) K rfl rfl (cB (aT (i:=3) eI.nd rfl (Or.inl rfl)) (cB (aT (i:=4) eI.nd rfl (Or.inl rfl)) (cB (aT (i:=5) eI.nd rfl (Or.inl rfl)) jk)))))
   (ag (ay (i:=6) eI.nd rfl (Or.inl rfl) (ak cV (hr.mono (by decide)) rfl T.jg.mg T.jg.fn.kp T.jg.bd .nil aC (aa (pv 2) (aa ai ae))))
   (ag (ay (i:=5) eI.nd rfl (Or.inl rfl) (aB dM (bO mC (pv 5) (bI (pv 6)) dI) (bO mC (pv 5) dI (bI (pv 6)))))
   (ag (iZ (i:=7) (j:=8) rfl eI.nd rfl rfl (by decide) rfl rfl (aa (ak xP (hr.mono (by decide)) rfl T.Ho.mg T.Ho.fn.kp T.Ho.bd .nil aC (aa (pv 2) ae)) (aa (ak xP (hr.mono (by decide)) rfl T.Ho.mg T.Ho.fn.kp T.Ho.bd .nil aC (aa (pv 2) ae)) ae)) rfl)
   (ag (iZ (i:=9) (j:=10) rfl eI.nd rfl rfl (by decide) rfl rfl (aa (ak xQ (hr.mono (by decide)) rfl T.Hq.mg T.Hq.fn.kp T.Hq.bd .nil aC (aa (pv 3) (aa (pv 4) (aa (pv 7) ae)))) (aa (ak xQ (hr.mono (by decide)) rfl T.Hq.mg T.Hq.fn.kp T.Hq.bd .nil aC (aa (pv 3) (aa (pv 4) (aa (pv 8) ae)))) ae)) rfl)
   (ag (ay (i:=6) eI.nd rfl (Or.inl rfl) (ak cV (hr.mono (by decide)) rfl T.jg.mg T.jg.fn.kp T.jg.bd .nil aC (aa (pv 2) (aa (aL bp rfl T.z_len Ub (aa (pv 10) ae)) ae))))
   (ag (ay (i:=10) eI.nd rfl (Or.inl rfl) (aB dM (bO mC (pv 10) (bI (pv 6)) dI) (bO mC (pv 10) dI (bI (pv 6)))))
   (ag (cL (PW.pt (JM (a_ uY (ak Fc (hr.mono (by decide)) rfl T.Hn.mg T.Hn.fn.kp T.Hn.bd .nil aC (aa (pv 5) (aa (pv 9) ae))) ai (ba _)) (Fs (a_ uY (ak Fc (hr.mono (by decide)) rfl T.Hn.mg T.Hn.fn.kp T.Hn.bd .nil aC (aa (pv 5) (aa (pv 10) ae))) ai (ba _))))) (aj (aK zx)) bU)
   (aj (cL (a_ uY (ak zj (hr.mono (by decide)) rfl T.MJ.mg T.MJ.fn.kp T.MJ.bd .nil aC (aa (pv 5) (aa (pv 9) (aa (pv 10) ae)))) (aL r6 rfl T.z_abs boot_abs (aa (aB cJ (aB gj (aN (aU K rfl) (pv 7) ai (fun _ _=>rfl)) (aN (aU K rfl) (pv 8) ai (fun _ _=>rfl))) (aB gj (aN (aU K rfl) (pv 7) ai (fun _ _=>rfl)) (aN (aU K rfl) (pv 8) ai (fun _ _=>rfl)))) ae)) (ba _)) (aj (aK zx)) bU))))))))))))
   (aj (aK zx))),?_⟩
 obtain ⟨a,ns,rfl,hS,hl,q⟩:=h
 have hs:(100000:Nat)<sizeLine:=by decide
 refine ⟨_,rfl,_,rfl,_,rfl,a,_,rfl,hS,fun p1 n1=>?_⟩
 have Ol:(mq (ns.map V.int) (some 2) (some 8)).length<=6:=by unfold mq;rw[T4];exact Ug (Nat.min_le_left _ _) (by have e1: ∀n d:Nat,HT.ir n d (some ((2:Nat):Int))=min 2 n:=fun n d=>HT.fz _ _ _;have e2: ∀n d:Nat,HT.ir n d (some ((8:Nat):Int))=min 8 n:=fun n d=>HT.fz _ _ _;show HT.ir _ _ (some ((8:Nat):Int)) - HT.ir _ _ (some ((2:Nat):Int))<=6;rw[e1,e2];omega)
 refine ⟨p1,_,rfl, .inl (bK.of ah),_,_,rfl,rfl,?_⟩
 have s1:=au.upd (o:= .lst (mq (ns.map V.int) (some 2) (some 8))) n1
 generalize (mq (ns.map V.int) (some 2) (some 8)).length=m at Ol ⊢
 generalize upd H p1 (.lst (mq (ns.map V.int) (some 2) (some 8)))=H1 at s1 ⊢
 refine ⟨_,rfl,by omega,by omega,?_⟩
 rw[show ((2:Int)+(m:Int)).toNat=2+m by omega]
 refine fT (fun i σ H'=> ∃v1 v2 v3 v4 v5 v6 v7 v8 v9 v10:Option V,σ=[some (.ref a),v1,v2,v3,v4,v5,v6,v7,v8,v9,v10]/\au H H') ⟨none,none,none,none,none,none,none,none,none,none,rfl,s1⟩ ?_ ?_
 ·rintro i σ H2 hi ⟨v1,v2,v3,v4,v5,v6,v7,v8,v9,v10,rfl,s2⟩
  refine ⟨_,rfl,_,rfl,a,ns,i,by rw[Vc];rfl,s2.seq hS,by omega,fun b H3 nb bx s3=>?_⟩
  refine ⟨_,rfl,b,rfl,bx,fun t x y z H4 lx ly m1 m2 hz ht tb S3 s4=>?_⟩
  refine ⟨t,_,rfl,cy.of ht,rfl,_,_,rfl,_,_,rfl,_,_,rfl,rfl,?_⟩
  have z4:z.length=4:=by rcases hz with g | g<;>rw[g]<;>rfl
  refine ⟨_,rfl,b,4,rfl,S3,by decide,by decide,fun k H5 hk S4 s5=>?_⟩
  have hlen:(cut z (some (k:Int)) none).length+(cut z none (some (k:Int))).length<=sizeLine:=by rw[eZ,e_,T6,T4];omega
  have Hy:cut z (some (k:Int)) none++cut z none (some (k:Int))=z.drop k++z.take k:=by rw[eZ,e_]
  refine ⟨_,rfl,_,rfl,_,rfl,z,rfl,by omega,_,rfl,_,rfl,_,rfl,z,rfl,by omega,_,_,rfl,rfl,hlen,?_⟩
  rw[Hy]
  have E1:Im (z.drop k++z.take k) x y:=by
   rcases hz with g | g
   ·rw[g];exact Ed lx ly m1 m2 k
   ·rw[g];exact Ee lx ly m1 m2 k
  generalize z.drop k++z.take k=u at E1 ⊢
  have u8:u.length<=8:=by rw[E1.len];decide
  refine ⟨_,rfl,b,rfl,S4,fun t1 c1 H6 Hx Qw Jz S5 s6=>?_⟩
  refine ⟨_,rfl,b,rfl,S5,fun t2 c2 H7 LY HD Fb S6 s7=>?_⟩
  refine ⟨_,_,rfl,?_⟩
  have LZ:=s7 _ _ Jz Qw
  refine ⟨_,rfl,_,rfl,_,rfl,x,y,t1,c1,rfl,lx,ly,LZ,Hx,fun H8 s8=>?_⟩
  refine ⟨_,rfl,_,rfl,_,rfl,x,y,t2,c2,rfl,lx,ly,s8 _ _ Fb,LY,fun H9 s9=>?_⟩
  refine ⟨_,_,rfl,?_⟩
  have S7:=(S6.same s8).same s9
  obtain ⟨L1,l1⟩:=E1.sw c1 Hx
  obtain ⟨Ek,l2⟩:=E1.sw c2 LY
  have o1:=E1.own Hx
  have o2:=E1.own LY
  have ss:=E1.ss c1 Hx c2 LY
  have yd:=E1.yd
  have pos:=Pe.mpr Ek.ne
  have S8:au H2 H9:=aW.same nb s3 (((((s4.trans s5).trans s6).trans s7).after s8).after s9)
  have OZ:=s9 _ _ (s8 _ _ LZ)
  have O0:=s9 _ _ (s8 _ _ Fb)
  generalize BR x y c1=w1 at L1 l1 o1 ss ⊢
  generalize BR x y c2=w2 at Ek l2 o2 ss pos ⊢
  refine ⟨_,rfl,_,rfl,w2,rfl,by omega,b,_,rfl,S7,by omega,by omega,fun j Qt hj S9 JC=>?_⟩
  have D0:j<=w2.length:=by omega
  have L3:(cut w2 (some (j:Int)) none).length+(cut w2 none (some (j:Int))).length<=sizeLine:=by rw[eZ,e_,T6,T4];omega
  have L4:cut w2 (some (j:Int)) none++cut w2 none (some (j:Int))=da w2 j:=by rw[eZ,e_];rfl
  refine ⟨_,rfl,_,rfl,_,rfl,w2,rfl,by omega,_,rfl,_,rfl,_,rfl,w2,rfl,by omega,_,_,rfl,rfl,L3,?_⟩
  rw[L4]
  have L5:SW u (da w2 j):=Ek.da D0
  have o3:tV u (da w2 j)=0:=by
   unfold tV at o2 ⊢
   rw[vB Ek.ne D0,vA yd Ek L5,vB Ek.ne D0,Hc Ek.ne D0]
   exact o2
  have Qx:SS u w1 (da w2 j)=(BL c1 c2:Nat):=by rw[vA yd L1 L5,vB Ek.ne D0,vA yd Ek L1];exact ss
  have l3:(da w2 j).length<=12:=by rw[m_ D0];omega
  generalize da w2 j=w3 at L5 o3 Qx l3 ⊢
  have S_: ∀c o,H2 c=some o->Qt c=some o:=fun c o e=>JC c o (S8 c o e) (fun g=>by rw[g,nb]at e;cases e)
  have L6:=JC _ _ OZ Qw
  have L7:=JC _ _ O0 HD
  refine ⟨_,rfl,_,rfl,u,w1,rfl,yd,u8,L1,by omega,fun r1 SR M5 e1=>?_⟩
  refine ⟨_,_,rfl,rfl,_,rfl,Dp ?_ ?_⟩
  ·rw[o1]at e1
   rw[decide_eq_true (show (r1:Int)=0 by omega)]
   rfl
  refine ⟨_,rfl,_,rfl,u,w3,rfl,yd,u8,L5,l3,fun r2 TM Ta e2=>?_⟩
  refine ⟨_,_,rfl,rfl,_,rfl,Dp ?_ ?_⟩
  ·rw[o3]at e2
   rw[decide_eq_true (show (r2:Int)=0 by omega)]
   rfl
  refine ⟨_,rfl,_,rfl,_,rfl,u,w1,w3,rfl,yd,u8,L1,by omega,L5,l3,fun TN Tb=>?_⟩
  have Cd:=M5.trans (Ta.trans Tb)
  have h1:=Cd _ _ L6
  have h2:=Cd _ _ L7
  obtain ⟨q1,q2,_,_⟩:=nh c1 Hx
  obtain ⟨q3,q4,_,_⟩:=nh c2 LY
  have f0: ∀c:Nat×Int,j6 [V.int c.1, .int c.2] (0:Int)=some (.int c.1):=fun c=>rfl
  have f1: ∀c:Nat×Int,j6 [V.int c.1, .int c.2] (1:Int)=some (.int c.2):=fun c=>rfl
  refine ⟨_,rfl,t1,_,_,_,rfl,rfl,cy.of h1,f0 c1,_,rfl,t2,_,_,_,rfl,rfl,cy.of h2,f1 c2,_,_,rfl,rfl, .inl ⟨by omega,by omega⟩,_,rfl,t1,_,_,_,rfl,rfl,cy.of h1,f1 c1,_,rfl,t2,_,_,_,rfl,rfl,cy.of h2,f0 c2,_,_,rfl,rfl, .inl ⟨by omega,by omega⟩,_,_,rfl,rfl,_,rfl,_,_,rfl,rfl,_,rfl,Dp ?_ ?_⟩
  ·have ed:(if ((c1.1:Int)*c2.2 - c1.2*c2.1)<0 then -((c1.1:Int)*c2.2 - c1.2*c2.1) else ((c1.1:Int)*c2.2 - c1.2*c2.1))=(BL c1 c2:Nat):=by
    unfold BL
    generalize (c1.1:Int)*c2.2 - c1.2*c2.1=d
    split<;>omega
   rw[ed,decide_eq_true Qx]
   rfl
  exact ⟨_,_,_,_,_,_,_,_,_,_,rfl,fun c o e=>Cd c o (S_ c o (s2 c o e))⟩
 ·rintro σ H2 ⟨v1,v2,v3,v4,v5,v6,v7,v8,v9,v10,rfl,s2⟩
  exact q H2
end
theorem bZ {M:List Value->Prop} (h:M []): ∀us:List Value,us.length=0->M us
 | [],_=>h
theorem aO {M:List Value->Prop} {n:Nat} (h: ∀(a:Value) (us:List Value),us.length=n->M (a::us)): ∀us:List Value,us.length=n+1->M us
 | a::us,e=>h a us (Nat.succ.inj e)
def Dn (K:PySem.W.Frag) (x:Str) (st:Stmt) (f:Addr) (fd:FuncData):Prop:=PySem.W.nsIn K mainGlobals x=some (some (.ref f))/\CQ K x x st f fd
theorem dn {K:PySem.W.Frag} {x:Str} {st:Stmt} {f:Addr} {oc:Value} {od an:Option Addr} {Cm:Array (Option Value)} {kV doc pm cA ct:Value} (a:PySem.W.nsIn K mainGlobals x=some (some (.ref f))) (l:K.lookup f=some ⟨oc,od, .func (PySem.W.fnOf x x (eN st) (dJ st) (ar st) .none kV doc pm an cA ct),Cm⟩) (c:PySem.W.codeIn K cA x=true) (k:PySem.W.keepIn K (.ref f)=true):Dn K x st f (PySem.W.fnOf x x (eN st) (dJ st) (ar st) .none kV doc pm an cA ct):=⟨a,uO l c k⟩
theorem gI {K:PySem.W.Frag} {h:Heap} {mg:Str->Option Value} {x:Str} {st:Stmt} {f:Addr} {fd:FuncData} {ps:List Str} (X:K.In h) (G:h.Ns mainGlobals mg) (a:Dn K x st f fd) (b: ∀(kV doc pm:Value) (an:Option Addr) (cA ct:Value) (us:List Value),us.length=ps.length->bindArgs (PySem.W.fnOf x x (eN st) (dJ st) (ar st) .none kV doc pm an cA ct) ⟨us,[]⟩=pure (ps.zip us)):bj K mg x st ps f fd:=⟨a.2,Wq X G a.1,a.2.binds b⟩
theorem all_mk {l:PySem.W.OpenLaw} {w:World} {K:PySem.W.Frag} {h:Heap} {mg:Str->Option Value} {fa f0 f1 f2 f3 f4 f5 f6 f7 f8 f9 Io Ip Iq Ir Iu Iv Iw Iy BY BZ Iz IA IB IC ID IE IF IG IH II IJ IK IL IM IQ IS IT IU aH aP iU fR:Addr} (X:K.In h) (G:h.Ns mainGlobals mg) (Mt:mg "law"=some (.ref fa))
  {d0 d1 d2 d3 d4 d5 d6 d7 d8 d9 IV IW IX IZ I0 I_ Ja Jb Jc Jd Je Jf Jg Jh Ji Jj Jk Jl Jm Jn Jo Jp Jq Jr Js Jt Ju Jv:FuncData}
  {HH HI El Em:Option Addr} {HJ En:Array (Option Value)} {HK HL HM HN Ce HP Eo Ep Er Es xR Et:Value}
  (a0:Dn K "contrary" je f0 d0)
  (a1:Dn K "turned" nk f1 d1)
  (a2:Dn K "bands" rk f2 d2)
  (a3:Dn K "steps_round" fM f3 d3)
  (a4:Dn K "strands_at" gv f4 d4)
  (a5:Dn K "points" nq f5 d5)
  (a6:Dn K "corner_points" eG f6 d6)
  (a7:Dn K "corners" kE f7 d7)
  (a8:Dn K "chord_starts" fj f8 d8)
  (a9:Dn K "number_in" h_ f9 d9)
  (a10:Dn K "count_meetings" dH Io IV)
  (a11:Dn K "strands_in" gw Ip IW)
  (a12:Dn K "corner_ends" fN Iq IX)
  (a13:Dn K "shortened" ie Ir IZ)
  (a14:Dn K "shortest" jf Iu I0)
  (a15:Dn K "ring" vV Iv I_)
  (a16:Dn K "root" vW Iw Ja)
  (a17:Dn K "corner_steps" fk Iy Jb)
  (a18:Dn K "steps_ahead" fO BY Jc)
  (a19:Dn K "steps_back" gx BZ Jd)
  (a20:Dn K "parting" kF Iz Je)
  (a21:Dn K "side_of" kG IA Jf)
  (a22:Dn K "comes_ahead" fP IB Jg)
  (a23:Dn K "number_among" fm IC Jh)
  (a24:Dn K "seen_strand" fQ ID Ji)
  (a25:Dn K "taut_order" gy IE Jj)
  (a26:Dn K "taut" vX IF Jk)
  (a27:Dn K "least" rm IG Jl)
  (a28:Dn K "own" BW IH Jm)
  (a29:Dn K "between" kH II Jn)
  (a30:Dn K "_law_box" vY IJ Jo)
  (a31:Dn K "_law_take" rq IK Jp)
  (a32:Dn K "_law_other" nu IL Jq)
  (a33:Dn K "_law_common" kI IM Jr)
  (a34:Dn K "_law_pair" rz IQ Js)
  (a35:Dn K "_law_even" rA IS Jt)
  (a36:Dn K "_law_yard_of" kJ IT Ju)
  (a37:Dn K "law" BX IU Jv)
  (q_Seen:PySem.W.nsIn K mainGlobals "Seen"=some (some (.ref aH)))
  (pg_Seen:PySem.W.plainGet K aH Str.empty=true)
  (hd_Seen:PySem.W.hasDictIn K aH=true)
  (po_Seen:PySem.W.plainOver K aH=true)
  (sa_Seen:PySem.W.findIn K (.ref aH) "__setattr__"=some (some (.builtin "object.__setattr__")))
  (n_Seen_strand:PySem.W.findIn K (.ref aH) "strand"=some none)
  (n_Seen_way:PySem.W.findIn K (.ref aH) "way"=some none)
  (n_Seen_place:PySem.W.findIn K (.ref aH) "place"=some none)
  (q_Way:PySem.W.nsIn K mainGlobals "Way"=some (some (.ref aP)))
  (pg_Way:PySem.W.plainGet K aP Str.empty=true)
  (hd_Way:PySem.W.hasDictIn K aP=true)
  (po_Way:PySem.W.plainOver K aP=true)
  (sa_Way:PySem.W.findIn K (.ref aP) "__setattr__"=some (some (.builtin "object.__setattr__")))
  (n_Way_size:PySem.W.findIn K (.ref aP) "size"=some none)
  (n_Way_root_size:PySem.W.findIn K (.ref aP) "root_size"=some none)
  (n_Way_leads:PySem.W.findIn K (.ref aP) "leads"=some none)
  (n_Way_onward:PySem.W.findIn K (.ref aP) "onward"=some none)
  (n_Way_backward:PySem.W.findIn K (.ref aP) "backward"=some none)
  (mk_Way:PySem.W.makesIn K aP=true)
  (qi_Way:PySem.W.findIn K (.ref aP) "__init__"=some (some (.ref iU)))
  (fi_Way:PySem.W.isFn K (.ref iU)=true)
  (kc_Way:PySem.W.keepIn K (.ref aP)=true)
  (li_Way:K.lookup iU=some ⟨HK,HH, .func (PySem.W.fnOf "__init__" "Way.__init__" (eN iK) (dJ iK) (ar iK) .none HL HM HN HI Ce HP),HJ⟩)
  (ci_Way:PySem.W.codeIn K Ce "Way.__init__"=true)
  (ki_Way:PySem.W.keepIn K (.ref iU)=true)
  (mk_Seen:PySem.W.makesIn K aH=true)
  (qi_Seen:PySem.W.findIn K (.ref aH) "__init__"=some (some (.ref fR)))
  (fi_Seen:PySem.W.isFn K (.ref fR)=true)
  (kc_Seen:PySem.W.keepIn K (.ref aH)=true)
  (li_Seen:K.lookup fR=some ⟨Eo,El, .func (PySem.W.fnOf "__init__" "Seen.__init__" (eN gf) (dJ gf) (ar gf) .none Ep Er Es Em xR Et),En⟩)
  (ci_Seen:PySem.W.codeIn K xR "Seen.__init__"=true)
  (ki_Seen:PySem.W.keepIn K (.ref fR)=true)
  (z_abs:PySem.W.nsIn K mainGlobals "abs"=some none)
  (z_enumerate:PySem.W.nsIn K mainGlobals "enumerate"=some none)
  (z_int:PySem.W.nsIn K mainGlobals "int"=some none)
  (z_len:PySem.W.nsIn K mainGlobals "len"=some none)
  (z_list:PySem.W.nsIn K mainGlobals "list"=some none)
  (z_max:PySem.W.nsIn K mainGlobals "max"=some none)
  (z_min:PySem.W.nsIn K mainGlobals "min"=some none)
  (z_range:PySem.W.nsIn K mainGlobals "range"=some none)
  (z_reversed:PySem.W.nsIn K mainGlobals "reversed"=some none)
  (z_sorted:PySem.W.nsIn K mainGlobals "sorted"=some none)
  (z_str:PySem.W.nsIn K mainGlobals "str"=some none)
  (z_tuple:PySem.W.nsIn K mainGlobals "tuple"=some none):
  ∃fd:FuncData,(∀(s:Shared) (v:Value),BindsTo s fd ⟨[v],[]⟩ [("_law_script",v)])/\ ∀base:Heap,K.In base->base.Ns mainGlobals mg->bC l.prog w K mg base fu 11 fa fd ["_law_script"] (j7 K):=by
 have e:=Mt.symm.trans (Wq X G a37.1)
 cases e
 obtain ⟨_,_,_,_,_,_,_,_,_,rfl,_⟩:=a37.2.ex
 have Cf:=uO (st:=iK) li_Way ci_Way ki_Way
 have HQ:=Cf.binds (ps:=["self","yard","word","longest"]) fun _ _ _ _ _ _=>aO fun _=>aO fun _=>aO fun _=>aO fun _=>bZ rfl
 have xS:=uO (st:=gf) li_Seen ci_Seen ki_Seen
 have Eu:=xS.binds (ps:=["self","strand","way","place"]) fun _ _ _ _ _ _=>aO fun _=>aO fun _=>aO fun _=>aO fun _=>bZ rfl
 have T:Txt K mg _ _ _ _ _ _ _ _ _ _ _ _ _ _ _ _ _ _ _ _ _ _ _ _ _ _ _ _ _ _ _ _ _ _ _ _ _ _ _ _ _ _ _ _ _ _ _ _ _ _ _ _ _ _ _ _ _ _ _ _ _ _ _ _ _ _ _ _ _ _ _ _ _ _ _ _ _ _ _ _ _ _:=⟨gI X G a0 fun _ _ _ _ _ _=>aO fun _=>bZ rfl,gI X G a1 fun _ _ _ _ _ _=>aO fun _=>bZ rfl,gI X G a2 fun _ _ _ _ _ _=>aO fun _=>bZ rfl,gI X G a3 fun _ _ _ _ _ _=>aO fun _=>aO fun _=>aO fun _=>bZ rfl,gI X G a4 fun _ _ _ _ _ _=>aO fun _=>aO fun _=>aO fun _=>bZ rfl,gI X G a5 fun _ _ _ _ _ _=>aO fun _=>aO fun _=>bZ rfl,gI X G a6 fun _ _ _ _ _ _=>aO fun _=>aO fun _=>aO fun _=>bZ rfl,gI X G a7 fun _ _ _ _ _ _=>aO fun _=>aO fun _=>bZ rfl,gI X G a8 fun _ _ _ _ _ _=>aO fun _=>bZ rfl,gI X G a9 fun _ _ _ _ _ _=>aO fun _=>aO fun _=>bZ rfl,gI X G a10 fun _ _ _ _ _ _=>aO fun _=>bZ rfl,gI X G a11 fun _ _ _ _ _ _=>aO fun _=>aO fun _=>bZ rfl,gI X G a12 fun _ _ _ _ _ _=>aO fun _=>aO fun _=>bZ rfl,gI X G a13 fun _ _ _ _ _ _=>aO fun _=>bZ rfl,gI X G a14 fun _ _ _ _ _ _=>aO fun _=>bZ rfl,gI X G a15 fun _ _ _ _ _ _=>aO fun _=>bZ rfl,gI X G a16 fun _ _ _ _ _ _=>aO fun _=>bZ rfl,gI X G a17 fun _ _ _ _ _ _=>aO fun _=>aO fun _=>aO fun _=>bZ rfl,gI X G a18 fun _ _ _ _ _ _=>aO fun _=>aO fun _=>aO fun _=>bZ rfl,gI X G a19 fun _ _ _ _ _ _=>aO fun _=>aO fun _=>aO fun _=>bZ rfl,gI X G a20 fun _ _ _ _ _ _=>aO fun _=>aO fun _=>aO fun _=>aO fun _=>bZ rfl,gI X G a21 fun _ _ _ _ _ _=>aO fun _=>bZ rfl,gI X G a22 fun _ _ _ _ _ _=>aO fun _=>aO fun _=>bZ rfl,gI X G a23 fun _ _ _ _ _ _=>aO fun _=>aO fun _=>bZ rfl,gI X G a24 fun _ _ _ _ _ _=>aO fun _=>aO fun _=>aO fun _=>bZ rfl,gI X G a25 fun _ _ _ _ _ _=>aO fun _=>aO fun _=>aO fun _=>bZ rfl,gI X G a26 fun _ _ _ _ _ _=>aO fun _=>aO fun _=>bZ rfl,gI X G a27 fun _ _ _ _ _ _=>aO fun _=>aO fun _=>bZ rfl,gI X G a28 fun _ _ _ _ _ _=>aO fun _=>aO fun _=>bZ rfl,gI X G a29 fun _ _ _ _ _ _=>aO fun _=>aO fun _=>aO fun _=>bZ rfl,gI X G a30 fun _ _ _ _ _ _=>aO fun _=>aO fun _=>bZ rfl,gI X G a31 fun _ _ _ _ _ _=>aO fun _=>aO fun _=>bZ rfl,gI X G a32 fun _ _ _ _ _ _=>aO fun _=>bZ rfl,gI X G a33 fun _ _ _ _ _ _=>aO fun _=>aO fun _=>bZ rfl,gI X G a34 fun _ _ _ _ _ _=>aO fun _=>bZ rfl,gI X G a35 fun _ _ _ _ _ _=>aO fun _=>aO fun _=>aO fun _=>bZ rfl,gI X G a36 fun _ _ _ _ _ _=>aO fun _=>bZ rfl,gI X G a37 fun _ _ _ _ _ _=>aO fun _=>bZ rfl,Wq X G q_Seen,⟨pg_Seen,hd_Seen,po_Seen,sa_Seen⟩,n_Seen_strand,n_Seen_way,n_Seen_place,Wq X G q_Way,⟨pg_Way,hd_Way,po_Way,sa_Way⟩,n_Way_size,n_Way_root_size,n_Way_leads,n_Way_onward,n_Way_backward,⟨mk_Way,qi_Way,fi_Way,kc_Way⟩,Cf,HQ,⟨mk_Seen,qi_Seen,fi_Seen,kc_Seen⟩,xS,Eu,Uv X G z_abs,Uv X G z_enumerate,Uv X G z_int,Uv X G z_len,Uv X G z_list,Uv X G z_max,Uv X G z_min,Uv X G z_range,Uv X G z_reversed,Uv X G z_sorted,Uv X G z_str,Uv X G z_tuple⟩
 exact ⟨_,fun s v=> .of_eq rfl,fun base _ _=>HF T⟩
theorem walk {l:PySem.W.OpenLaw} {q:Program} {loose:List Str} {XP:(Str->Option Value)->Heap->Prop} {YP:World->Heap->Prop} {d:DefRec} {K:Params->PySem.W.Frag} (hn:l.most=some 63) (Kq:d.params.defaults=[])
  (hY: ∀(w:World) (h:Heap),YP w h->(K w.params).In h)
  (F: ∀(w:World) (mg:Str->Option Value) (fa:Addr) (h:Heap),(K w.params).In h->h.Ns mainGlobals mg->mg d.name=some (.ref fa)->
   ∃fd:FuncData,(∀(s:Shared) (u:Value),BindsTo s fd ⟨[u],[]⟩ [("_law_script",u)])/\ ∀base:Heap,(K w.params).In base->base.Ns mainGlobals mg->bC l.prog w (K w.params) mg base fu 11 fa fd ["_law_script"] (j7 (K w.params))):
  PySem.W.WalkO q loose XP YP l.row.toRowW d [] (fun f vs=>PySem.call f vs):=
 L2.wJ (n:=63) (k:=11) (x:="_law_script") (CX:=fun _=>fu) (sp:=fun w=>j7 (K w.params)) hn (by decide) Kq ⟨rfl,by decide,by decide,rfl⟩ hY F (fun _ _ a ns hl _ hS=>⟨a,ns,rfl,hS,hl,fun _=>rfl⟩) fun _ _ _ _ _ z=>z
end My
namespace PySem.W.Fast
def tw10358830268211611326:=Nat
def tw10442208058118862788:=Nat
def tw10475096763674585388:=Nat
def tw1072556707805256940:=Nat
def tw10735391000910717165:=Nat
def tw10741434016662224308:=Nat
def tw10949139747983642151:=Nat
def tw1096133929253472015:=Nat
def tw1097176126860356598:=Nat
def tw10982362102930615512:=Nat
def tw11244721399878495074:=Nat
def tw11280258510004870984:=Nat
def tw11368877665600589453:=Nat
def tw11382821205798950505:=Nat
def tw114597486871030245:=Nat
def tw1153084271613878594:=Nat
def tw11545053746718459826:=Nat
def tw11560550705845347081:=Nat
def tw11635608225309340089:=Nat
def tw11645448542314634274:=Nat
def tw11674080019449139255:=Nat
def tw11763501272509042410:=Nat
def tw11783576365673242777:=Nat
def tw11808095784647315673:=Nat
def tw11904960389411047901:=Nat
def tw12146643366689806491:=Nat
def tw12231350563579902742:=Nat
def tw12510643728051562265:=Nat
def tw12545535793813809186:=Nat
def tw12634932758124860039:=Nat
def tw12745746472763032159:=Nat
def tw12759975299879625051:=Nat
def tw12768842104662730535:=Nat
def tw12793123185604169242:=Nat
def tw12821348716885483587:=Nat
def tw13441003105624580708:=Nat
def tw13514853753974911531:=Nat
def tw13558059434348552717:=Nat
def tw13787608425598312205:=Nat
def tw13827317770606369843:=Nat
def tw13866028335319919766:=Nat
def tw13885392336099089309:=Nat
def tw13943550252850092076:=Nat
def tw13996193207274625194:=Nat
def tw14049441201580372528:=Nat
def tw14197896220979577977:=Nat
def tw1444223995292571090:=Nat
def tw14488517240352742995:=Nat
def tw14517946486574353186:=Nat
def tw1481730523728997159:=Nat
def tw15007505584750793801:=Nat
def tw15036348440285901008:=Nat
def tw1509323630355435335:=Nat
def tw15375399883292454664:=Nat
def tw15418265616280942211:=Nat
def tw15471542311274056470:=Nat
def tw15556069235276685338:=Nat
def tw15561967663774762957:=Nat
def tw15579008550274092249:=Nat
def tw15582617320719179150:=Nat
def tw15596025128815448382:=Nat
def tw15621502569395237624:=Nat
def tw15651639392367959830:=Nat
def tw15658310802803363163:=Nat
def tw15701300696817325834:=Nat
def tw15861427473470013483:=Nat
def tw15880159342146502385:=Nat
def tw16046434704516011546:=Nat
def tw16101471676745466251:=Nat
def tw16167629759148694231:=Nat
def tw16172785950430524583:=Nat
def tw16337183692976882685:=Nat
def tw16358967615028073540:=Nat
def tw16366205293599473076:=Nat
def tw16542199788146041045:=Nat
def tw16693320919965371602:=Nat
def tw16782836229951239557:=Nat
def tw16908465323266490683:=Nat
def tw17089828705296849035:=Nat
def tw17106730875779669062:=Nat
def tw17256264333867524949:=Nat
def tw17306615907705584330:=Nat
def tw17556026051478347878:=Nat
def tw17758981784454052219:=Nat
def tw17898615147989679235:=Nat
def tw180490195807806861:=Nat
def tw1814821646912732868:=Nat
def tw18161577757026566553:=Nat
def tw18172079429546407917:=Nat
def tw18188203938958894880:=Nat
def tw18204827569828884254:=Nat
def tw18229134112078686961:=Nat
def tw1823354285115459879:=Nat
def tw18238173828404050285:=Nat
def tw18379949518812796430:=Nat
def tw1868978849511937103:=Nat
def tw2023017982227149220:=Nat
def tw2045942269197967110:=Nat
def tw2180261914418858918:=Nat
def tw2204048467999690610:=Nat
def tw2210845227199274688:=Nat
def tw2246235962950092702:=Nat
def tw2324278981204755870:=Nat
def tw2377310140847073409:=Nat
def tw2578869008304180072:=Nat
def tw2756136875467558578:=Nat
def tw2772741772174908068:=Nat
def tw2796784150007685138:=Nat
def tw2999139600840005018:=Nat
def tw315068688911974410:=Nat
def tw3287295727222722046:=Nat
def tw3379742823250874019:=Nat
def tw3390098394250405753:=Nat
def tw3480655845102076971:=Nat
def tw3516090010348994410:=Nat
def tw3635118110202206491:=Nat
def tw3695841356993199353:=Nat
def tw3710097084362129171:=Nat
def tw3756714177801798110:=Nat
def tw3897150634090659003:=Nat
def tw3933817495215024295:=Nat
def tw4051378653006437946:=Nat
def tw418060269291157454:=Nat
def tw4211583618819443530:=Nat
def tw4362342755012966177:=Nat
def tw4408943187537997469:=Nat
def tw4429290031016650766:=Nat
def tw452239020974713941:=Nat
def tw4603258042490085416:=Nat
def tw472418917955957868:=Nat
def tw4815683401842261597:=Nat
def tw4822429706610008485:=Nat
def tw4869519888325652455:=Nat
def tw4915818416313297602:=Nat
def tw4939630150784830427:=Nat
def tw4956843731588964041:=Nat
def tw4987533424994703420:=Nat
def tw5187450558337381180:=Nat
def tw5262738358653507024:=Nat
def tw5388772385760773827:=Nat
def tw5468106152659716024:=Nat
def tw5486133695725264963:=Nat
def tw5806449159541944706:=Nat
def tw5811873203729271497:=Nat
def tw5842341627721147033:=Nat
def tw5909357503536277097:=Nat
def tw5949676320812126322:=Nat
def tw6079889713811013148:=Nat
def tw6110556191716797260:=Nat
def tw6123754575259424178:=Nat
def tw6255572554967669987:=Nat
def tw6278157311559750456:=Nat
def tw6427856171904374387:=Nat
def tw6485905909340487188:=Nat
def tw6540296504735690172:=Nat
def tw6558588727969421639:=Nat
def tw6660906983707412584:=Nat
def tw6679201804554846826:=Nat
def tw6691573692664755296:=Nat
def tw6849412096982629248:=Nat
def tw7095339744614407963:=Nat
def tw7142719656511689136:=Nat
def tw7177541279822673177:=Nat
def tw719143763202851075:=Nat
def tw7199868452137424104:=Nat
def tw7279550977487208730:=Nat
def tw7296101417052892651:=Nat
def tw730681987627323579:=Nat
def tw7357284633701537436:=Nat
def tw748927174982093383:=Nat
def tw7756679251714749457:=Nat
def tw7896495743762540924:=Nat
def tw797875328322200541:=Nat
def tw8006748496245464795:=Nat
def tw8086494538088367693:=Nat
def tw8238773658302447205:=Nat
def tw8273182819969431489:=Nat
def tw8311480230714203995:=Nat
def tw8527655350164831311:=Nat
def tw8583417342889916876:=Nat
def tw86126057266326650:=Nat
def tw8735385959857525986:=Nat
def tw8812570379475904485:=Nat
def tw8860525107878425018:=Nat
def tw88978455686551817:=Nat
def tw8995990924065648486:=Nat
def tw9001271834016791842:=Nat
def tw9110012584234092160:=Nat
def tw9186644809664830644:=Nat
def tw9241025783683291836:=Nat
def tw9273653652615852024:=Nat
def tw93893319353572584:=Nat
def tw9435250450057087282:=Nat
def tw9470537998324806971:=Nat
def tw9492484177813751206:=Nat
def tw9519512363491266511:=Nat
def tw9592680536902155576:=Nat
def tw9733030758762683752:=Nat
def tw9810276222006592476:=Nat
def tw9890130325326573618:=Nat
end PySem.W.Fast
open PySem PySem.W PyProof.Rows
set_option maxRecDepth 100000 in
set_option maxHeartbeats 0 in
theorem PySem.Challenge.cw_mustmeet_k32_whole_two_bands_crossed_holds : PySem.Challenge.rw_mustmeet_k32_whole_two_bands_crossed.Holds := by
 w_on;o_law;k_head;(case hw=>w_witness2)
 k_fill
 refine My.walk (l:=PySem.Challenge.rw_mustmeet_k32_whole_two_bands_crossed) rfl rfl (fun w h Y=>PySem.W.kIn_of Y) ?F
 case F=>
  intro w mg fa h KX G hmg
  refine' My.all_mk KX G hmg (My.dn ?a0 ?l0 ?c0 ?k0) (My.dn ?a1 ?l1 ?c1 ?k1) (My.dn ?a2 ?l2 ?c2 ?k2) (My.dn ?a3 ?l3 ?c3 ?k3) (My.dn ?a4 ?l4 ?c4 ?k4) (My.dn ?a5 ?l5 ?c5 ?k5) (My.dn ?a6 ?l6 ?c6 ?k6) (My.dn ?a7 ?l7 ?c7 ?k7) (My.dn ?a8 ?l8 ?c8 ?k8) (My.dn ?a9 ?l9 ?c9 ?k9) (My.dn ?a10 ?l10 ?c10 ?k10) (My.dn ?a11 ?l11 ?c11 ?k11) (My.dn ?a12 ?l12 ?c12 ?k12) (My.dn ?a13 ?l13 ?c13 ?k13) (My.dn ?a14 ?l14 ?c14 ?k14) (My.dn ?a15 ?l15 ?c15 ?k15) (My.dn ?a16 ?l16 ?c16 ?k16) (My.dn ?a17 ?l17 ?c17 ?k17) (My.dn ?a18 ?l18 ?c18 ?k18) (My.dn ?a19 ?l19 ?c19 ?k19) (My.dn ?a20 ?l20 ?c20 ?k20) (My.dn ?a21 ?l21 ?c21 ?k21) (My.dn ?a22 ?l22 ?c22 ?k22) (My.dn ?a23 ?l23 ?c23 ?k23) (My.dn ?a24 ?l24 ?c24 ?k24) (My.dn ?a25 ?l25 ?c25 ?k25) (My.dn ?a26 ?l26 ?c26 ?k26) (My.dn ?a27 ?l27 ?c27 ?k27) (My.dn ?a28 ?l28 ?c28 ?k28) (My.dn ?a29 ?l29 ?c29 ?k29) (My.dn ?a30 ?l30 ?c30 ?k30) (My.dn ?a31 ?l31 ?c31 ?k31) (My.dn ?a32 ?l32 ?c32 ?k32) (My.dn ?a33 ?l33 ?c33 ?k33) (My.dn ?a34 ?l34 ?c34 ?k34) (My.dn ?a35 ?l35 ?c35 ?k35) (My.dn ?a36 ?l36 ?c36 ?k36) (My.dn ?a37 ?l37 ?c37 ?k37) ?q_Seen ?pg_Seen ?hd_Seen ?po_Seen ?sa_Seen ?n_Seen_strand ?n_Seen_way ?n_Seen_place ?q_Way ?pg_Way ?hd_Way ?po_Way ?sa_Way ?n_Way_size ?n_Way_root_size ?n_Way_leads ?n_Way_onward ?n_Way_backward ?mk_Way ?qi_Way ?fi_Way ?kc_Way ?li_Way ?ci_Way ?ki_Way ?mk_Seen ?qi_Seen ?fi_Seen ?kc_Seen ?li_Seen ?ci_Seen ?ki_Seen ?z_abs ?z_enumerate ?z_int ?z_len ?z_list ?z_max ?z_min ?z_range ?z_reversed ?z_sorted ?z_str ?z_tuple
  case a0|l0|c0|k0|a1|l1|c1|k1|a2|l2|c2|k2|a3|l3|c3|k3|a4|l4|c4|k4|a5|l5|c5|k5|a6|l6|c6|k6|a7|l7|c7|k7|a8|l8|c8|k8|a9|l9|c9|k9|a10|l10|c10|k10|a11|l11|c11|k11|a12|l12|c12|k12|a13|l13|c13|k13|a14|l14|c14|k14|a15|l15|c15|k15|a16|l16|c16|k16|a17|l17|c17|k17|a18|l18|c18|k18|a19|l19|c19|k19|a20|l20|c20|k20|a21|l21|c21|k21|a22|l22|c22|k22|a23|l23|c23|k23|a24|l24|c24|k24|a25|l25|c25|k25|a26|l26|c26|k26|a27|l27|c27|k27|a28|l28|c28|k28|a29|l29|c29|k29|a30|l30|c30|k30|a31|l31|c31|k31|a32|l32|c32|k32|a33|l33|c33|k33|a34|l34|c34|k34|a35|l35|c35|k35|a36|l36|c36|k36|a37|l37|c37|k37|q_Seen|pg_Seen|hd_Seen|po_Seen|sa_Seen|n_Seen_strand|n_Seen_way|n_Seen_place|q_Way|pg_Way|hd_Way|po_Way|sa_Way|n_Way_size|n_Way_root_size|n_Way_leads|n_Way_onward|n_Way_backward|mk_Way|qi_Way|fi_Way|kc_Way|li_Way|ci_Way|ki_Way|mk_Seen|qi_Seen|fi_Seen|kc_Seen|li_Seen|ci_Seen|ki_Seen|z_abs|z_enumerate|z_int|z_len|z_list|z_max|z_min|z_range|z_reversed|z_sorted|z_str|z_tuple=>k_is
