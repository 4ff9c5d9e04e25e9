import PyProof.Rows.All
import Wide.All
import OpenK.AllK
import Wide.FinOn
import Lean
import PyProof.EqAt
import PyProof.EqKinds
import PyProof.TupleCall
import PySem.Challenge.RW_mustmeet_k42_most_and_full_sets
set_option maxHeartbeats 4000000
set_option Elab.async false
set_option linter.all false
set_option maxRecDepth 100000
open List renaming mem_singleton→Hy,getElem?_eq_getElem→Hz,length_append→Jy,append_assoc→Lu,mem_cons_of_mem→NA,mem_cons_self→NB,length_take→Rt,getElem?_eq_some_iff→Ru,idxOf_lt_length_of_mem→T2,mem_append→T3,mem_cons→T4,take_append_drop→T5,mem_append_right→T6,length_map→WH,size_toArray→WI,take_of_length_le→WJ,length_drop→Xi,not_mem_nil→Xl,length_cons→Xn,mem_of_getElem?→Xo,mem_filter→Xp,length_reverse→Xq,length_pos_iff→Xs,getElem?_take_of_lt→Xt,getElem?_append_right→Xw,mem_append_left→Xx,append_nil→XA,getElem?_map→XC,nodup_cons→XD,perm_append_comm→XE,mem_of_mem_take→XF,mem_map→XH,map_append→XJ,map_cons→XM,pairwise_append→XO,mem_reverse→XQ,nodup_append→XS,getElem_idxOf→XT,dropLast_concat→XU,getElem?_drop→XY,drop_of_length_le→XZ,pairwise_singleton→X1,getElem?_append_left→X4,lookup_cons→X5,flatten_cons→X7,take_append_of_le_length→X9,mem_of_mem_drop→Ya,getD_eq_getElem?_getD→Yf,all_eq_true→Yg,nodup_nil→Yk,drop_zero→Yl,append_of_mem→Ym,eq_nil_of_length_eq_zero→Yn,length_nil→Yp,pairwise_cons→Yq,mem_range→Yu,reverse_append→Yw,take_length→Yz,getElem_mem→YA,getElem?_of_mem→YE,length_eq_zero_iff→YF,filter_cons_of_neg→YG,nil_append→YH,getElem?_eq_none→YL,drop_eq_getElem_cons→YM,foldl_cons→YN,find?_cons→YO,take_succ_eq_append_getElem→YT,pairwise_map→YU,cons_append→YX,drop_append_of_le_length→YY,length_filter_le→Y2,reverse_perm→Y4,perm_ext_iff_of_nodup→Y5,lt_irrefl→Y6,pairwise_iff_getElem→Y_,filter_eq_self→Zc,range_succ→Zf,filter_append→Zg,filter_cons_of_pos→Zh,eraseIdx_cons_succ→Zi,take_add_one→Zl,map_map→Zm,length_pos_of_mem→Zn,ext_getElem?→Zo,drop_eq_nil_of_le→Zp,eraseIdxIfInBounds_toArray→Zq,any_cons→Zs,reverse_reverse→Zt,map_congr_left→Zv,ne_nil_of_mem→Zz,drop_left→ZA,rel_of_pairwise_cons→ZE,take_sublist→ZF,reverse_cons→ZG,idxOf_append→ZH,map_reverse→ZL,flatten_nil→ZM,drop_append→ZN,of_mem_zip→ZV,getElem?_reverse→ZY,not_lt→Z_,drop_drop→kb,flatten_append→Qaa,filterMap_cons→Qab,set_comm→Qad,map_take→Qae,getElem?_take→Qah,map_nil→Qam,foldl_append→Qan,filter_congr→Qao,take_append→Qar,perm_middle→Qas,mem_flatten→Qat,map_id→Qau,forIn_cons→Qay
open Nat renaming le_refl→Rv,lt_of_lt_of_le→Xv,ne_of_lt→XB,le_trans→XG,zero_le→XI,add_sub_cancel_left→XX,min_eq_left→X6,lt_irrefl→X_,mod_eq_of_lt→Yi,lt_succ_self→Yy,zero_add→YD,le_of_lt→YI,sub_zero→YQ,le_succ_of_le→YR,le_succ→YS,add_zero→YZ,lt_succ_of_lt→Y3,mul_comm→Y7,le_antisymm→Ze,sub_self→Zj,eq_zero_of_not_pos→Zk,add_assoc→Zr,ne_of_gt→Zw,mod_lt→Zx,lt_of_le_of_lt→Zy,succ_ne_zero→ZK,succ_mul→ZQ,mod_self→ZR,lt_of_le_of_ne→Qag,lt_trans→Qak,lt_asymm→Qal,succ_le_succ→Qap,div_eq_of_lt→Qaq,mul_add_mod→Qav,mul_add_div→Qaw,mod_add_div→Qax
open PySem.Heap renaming get?_push_of_some→Rw,lt_size→Xj,get?_push_size→Xr,get?_update_other→X0,get?_update_self→Y8,size_push→Zd
open Option.some renaming inj→WK
open Array renaming toList_append→Xk,length_toList→Xu,getElem?_toList→Xy,perm_iff_toList_perm→X8,toList_push→Yb,toList_reverse→Yr,toList_inj→ZO
open Bool renaming false_ne_true→Xm,false_eq_true→Y0,and_eq_true→Y9,eq_iff_iff→Zu,or_false→ZJ,decide_and→Qaz
open PySem.F renaming plainAttrs_str→Xz,plainAttrs_list→XW,type_str_index→Ys,slot_str_index→Yt,called_set→Yx,type_list_append→YB,slot_list_append→YC,type_str_join→YJ,slot_str_join→YK,type_list_pop→ZW,slot_list_pop→ZX
open Int renaming toNat_natCast→XN,emod_eq_of_lt→X2,emod_lt_of_pos→Yc,emod_nonneg→Yh,add_zero→Yv,zero_add→YV,emod_add_emod→YW,natCast_add→Y1,add_mul_emod_self_left→ZD,sub_zero→ZT,emod_add_mul_ediv→ZZ,toNat_of_nonneg→Qac,add_assoc→Qaf,sub_eq_add_neg→Qai,add_emod_right→Qaj
open PySem renaming boot_len→XR,mem_of_lookup→Za
open PySem.W renaming mg_none_of→X3,kia_one→Yo,cellsFrom_some→ZP
open List.Perm renaming append_left→Ye,refl→ZC,append_right→ZS
open PyProof.Rows renaming callWith_type1→Yj
open PyProof.Rows.F renaming plain_set_update_loop→Zb
open Int.ofNat renaming inj→ZI
open Option renaming map_some→ZU
namespace L2
open PySem PySem.Spec PyProof.Rows
abbrev Key:=Sum Int Str
noncomputable def pZ:Key->Value->Bool
 | .inl k,v=>Value.isInt k v
 | .inr x,v=>Value.isStrOf x v
noncomputable def Od (w:World):Key->Int
 | .inl k=>hashInt k
 | .inr x=>hashStr w x
theorem bR: ∀{k:Key} {v:Value},pZ k v=true->(∃i t,k=Sum.inl i/\v=Value.int i t)\/(∃x t,k=Sum.inr x/\v=Value.str x t)
 | .inl i,v,h=>by
  obtain ⟨t,e⟩:=Value.isInt_shape (k:=i) (v:=v) h
  exact .inl ⟨i,t,rfl,e⟩
 | .inr x,v,h=>by
  obtain ⟨t,e⟩:=Value.isStrOf_shape (x:=x) (v:=v) h
  exact .inr ⟨x,t,rfl,e⟩
theorem yS (i:Int) (t:Tok):pZ (.inl i) (.int i t)=true:=by simp[pZ,Value.isInt]
theorem yT (x:Str) (t:Tok):pZ (.inr x) (.str x t)=true:=by simp[pZ,Value.isStrOf]
theorem GU (a b:Int):decide ((Sum.inl a:Key)=Sum.inl b)=(a==b):=by
 by_cases e:a=b
 ·subst e;simp
 ·have h: ¬(Sum.inl a:Key)=Sum.inl b:=fun q=>e (Sum.inl.inj q)
  rw[decide_eq_false h]
  exact (beq_eq_false_iff_ne.mpr e).symm
theorem GV (a b:Str):decide ((Sum.inr a:Key)=Sum.inr b)=decide (a=b):=by
 by_cases e:a=b
 ·subst e;simp
 ·have h: ¬(Sum.inr a:Key)=Sum.inr b:=fun q=>e (Sum.inr.inj q)
  rw[decide_eq_false h,decide_eq_false e]
theorem GW (a:Int) (b:Str):decide ((Sum.inl a:Key)=Sum.inr b)=false:=decide_eq_false (fun q=>nomatch q)
theorem GX (a:Str) (b:Int):decide ((Sum.inr a:Key)=Sum.inl b)=false:=decide_eq_false (fun q=>nomatch q)
noncomputable def cz (prog:Program) (w:World):PySem.KeyKind prog w Key where
 is:=pZ
 hash:=Od w
 inj:=fun v a b ha hb=>by
  rcases bR ha with ⟨i,t,rfl,rfl⟩ | ⟨x,t,rfl,rfl⟩
  ·rcases bR hb with ⟨j,u,rfl,e⟩ | ⟨y,u,rfl,e⟩
   ·injection e with e1 _;rw[e1]
   ·exact nomatch e
  ·rcases bR hb with ⟨j,u,rfl,e⟩ | ⟨y,u,rfl,e⟩
   ·exact nomatch e
   ·injection e with e1 _;rw[e1]
 byValue:=fun k v h=>by
  rcases bR h with ⟨i,t,rfl,rfl⟩ | ⟨x,t,rfl,rfl⟩<;>rfl
 pyHash:=fun hv h=>by
  rcases bR hv with ⟨i,t,rfl,rfl⟩ | ⟨x,t,rfl,rfl⟩
  ·exact wpAny_pyHash_int h
  ·exact wpAny_pyHash_str h
 eqBool:=fun hu hv h=>by
  rcases bR hu with ⟨i,t,rfl,rfl⟩ | ⟨x,t,rfl,rfl⟩
  ·rcases bR hv with ⟨j,u,rfl,rfl⟩ | ⟨y,u,rfl,rfl⟩
   ·rw[GU]at h;exact wpAny_eqBool_int h
   ·rw[GW]at h;exact SeqAt.EqAt.int_str i t y u _ _ _ _ h
  ·rcases bR hv with ⟨j,u,rfl,rfl⟩ | ⟨y,u,rfl,rfl⟩
   ·rw[GX]at h;exact SeqAt.EqAt.str_int x t j u _ _ _ _ h
   ·rw[GV]at h;exact wpAny_eqBool_str h
 «strs» :=fun k x t v h=>by
  rcases bR h with ⟨i,u,rfl,e⟩ | ⟨y,u,rfl,e⟩
  ·exact nomatch e
  ·injection e with e1 _
   subst e1
   cases v<;>rfl
theorem tH (prog:Program) (w:World) (i:Int) (t:Tok):(cz prog w).is (.inl i) (.int i t)=true:=yS i t
theorem tI (prog:Program) (w:World) (x:Str) (t:Tok):(cz prog w).is (.inr x) (.str x t)=true:=yT x t
inductive V where
 | eK | bl (b:Bool) | int (i:Int) | str (x:Str) | yU (b:Array UInt8) | Jt (b:UInt64) | ref (a:Addr) | ty (n:String)
 deriving DecidableEq
def RelV:V->Value->Prop
 | .eK,u=>u=Value.none
 | .bl b,u=>u=Value.bool b
 | .int i,u=> ∃t,u=Value.int i t
 | .str x,u=> ∃t,u=Value.str x t
 | .yU b,u=> ∃t,u=Value.bytes b t
 | .Jt b,u=> ∃t,u=Value.float b t
 | .ref a,u=>u=Value.ref a
 | .ty n,u=>u=Value.type n
abbrev Vals:List V->List Value->Prop:=Paired RelV
theorem Vals.length {xs:List V} {us:List Value} (r:Vals xs us):xs.length=us.length:=Paired.length r
theorem Vals.get: ∀{xs:List V} {us:List Value} {i:Nat} {x:V},Vals xs us->xs[i]? =some x-> ∃u,us[i]? =some u/\RelV x u
 | _,_,_,_, .nil,e=>by simp at e
 | _,_,0,_, .cons r _,e=>by simp at e;subst e;exact ⟨_,rfl,r⟩
 | _,_,i+1,x, .cons _ t,e=>by
  obtain ⟨u,h1,h2⟩:=Vals.get (i:=i) (x:=x) t (by simpa using e)
  exact ⟨u,by simpa using h1,h2⟩
theorem Vals.set {x:V} {u:Value} (r:RelV x u): ∀{xs:List V} {us:List Value} (i:Nat),Vals xs us->Vals (xs.set i x) (us.set i u)
 | _,_,_, .nil=> .nil
 | _,_,0, .cons _ t=> .cons r t
 | _,_,i+1, .cons q t=> .cons q (Vals.set r i t)
theorem Vals.append: ∀{xs ys:List V} {us ws:List Value},Vals xs us->Vals ys ws->Vals (xs++ys) (us++ws)
 | _,_,_,_, .nil,s=>s
 | _,_,_,_, .cons r t,s=> .cons r (Vals.append t s)
theorem Vals.take: ∀{xs:List V} {us:List Value} (n:Nat),Vals xs us->Vals (xs.take n) (us.take n)
 | _,_,0,_=> .nil
 | _,_,_+1, .nil=> .nil
 | _,_,n+1, .cons r t=> .cons r (Vals.take n t)
theorem Vals.drop: ∀{xs:List V} {us:List Value} (n:Nat),Vals xs us->Vals (xs.drop n) (us.drop n)
 | _,_,0,r=>r
 | _,_,_+1, .nil=> .nil
 | _,_,n+1, .cons _ t=>Vals.drop n t
def vG:Option V->Option Value->Prop
 | some v,some u=>RelV v u
 | none,none=>True
 | _,_=>False
def KV {κ:Type}:List (κ×V)->List (κ×Value)->Prop:=Paired fun (p:κ×V) (q:κ×Value)=>p.1=q.1/\RelV p.2 q.2
noncomputable def kV:Key->V
 | .inl i=> .int i
 | .inr x=> .str x
inductive HO where
  | lst (xs:List V)
  | tup (xs:List V)
  | dK (aJ:List (Key×V)) | dT (aJ:List (List Key×V))
  | set (S:Int->Bool) (n:Nat)
  | ins (C dx:Addr) (fs:List (Str×V))
  | own (x:Addr)
  | xd (fs:List (Str×V))
  | met (f x:Addr)
  | Oe (lo hi:Int)
  | tJ (o:Obj) (u:HO)
  | ma (ps:Array Value)
  | ext (φ:Heap->Prop)
abbrev Hp:=Addr->Option HO
noncomputable def upd (H:Hp) (a:Addr) (o:HO):Hp:=fun b=>if b=a then some o else H b
theorem ah {H:Hp} {a:Addr} {o:HO}:upd H a o a=some o:=by unfold upd;rw[if_pos rfl]
theorem ao {H:Hp} {a b:Addr} {o:HO} (h:b≠a):upd H a o b=H b:=by unfold upd;rw[if_neg h]
theorem KU {H:Hp} {a b:Addr} {o u:HO} (h:H a=some o) (h':H b=some u) (d:o≠u):a≠b:=by
 intro e;subst e;rw[h]at h';exact d (WK h')
theorem aA {H:Hp} {a b:Addr} {o:HO} (h:H a=some o) (h':H b=none):a≠b:=by
 intro e;subst e;rw[h]at h';cases h'
section
variable (P:Program) (w:World)
def bI (H:Hp) (h:Heap) (a:Addr):HO->Prop
 | .lst xs=>xs.length<=sizeLine/\ ∃(aF:List Value) (n:Nat),Vals xs aF/\h.get? a=some { cls:= .type "list",data:= .seq aF.toArray n }
 | .tup xs=>xs.length<=sizeLine/\ ∃aF:List Value,Vals xs aF/\IsTup h a aF.toArray
 | .dK aJ=>aJ.length<=sizeLine/\(a==sysModules)=false/\ ∃vs,KV aJ vs/\h.DictOf (cz P w) a vs
 | .dT aJ=>aJ.length<=sizeLine/\(a==sysModules)=false/\ ∃xs:List (List Key×Addr×Value),
   Paired (fun (p:List Key×V) (q:List Key×Addr×Value)=>p.1=q.1/\H q.2.1=some (.tup (p.1.map kV))/\RelV p.2 q.2.2) aJ xs/\
   ∃o es ep,h.get? a=some o/\o.ExactDict/\o.data= .dict es ep/\es.toList=xs.map (entryOfKey (tupleKind (cz P w)))/\(xs.map (·.1)).Nodup
 | .set S n=>h.SetOf (intKind P w) a S n
 | .ins C dx fs=>H dx=some (.own a)/\fs.length<=1000/\dx≠a/\h.get? a=some (PySem.W.instObj C dx)/\
   ∃mA,h.Ns1 dx mA/\(∀f,vG (fs.lookup f) (mA f))/\PySem.Within mA (fs.map (·.1))
 | .own _=> ∃o,h.get? a=some o
 | .xd fs=> ∃mA,h.Ns1 a mA/\ ∀f,vG (fs.lookup f) (mA f)
 | .Oe lo hi=> ∃t u v,h.get? a=some { cls:= .type "range",data:= .fields #[.int lo t, .int hi u, .int 1 v] }
 | .tJ o u=>h.get? a=some o/\bI H h a u
 | .ma ps=>h.get? a=some { cls:= .none,data:= .fields ps }
 | .met f x=>h.get? a=some (PySem.W.methodObj (.ref f) (.ref x))
 | .ext φ=>φ h/\(∃o,h.get? a=some o)/\ ∀h1 h2:Heap,φ h1->(∀o,h1.get? a=some o->h2.get? a=some o)->φ h2
def jh (H:Hp) (h:Heap):Prop:= ∀a o,H a=some o->bI P w H h a o
end
section
variable {P:Program} {w:World} {H H':Hp} {h h':Heap} {a:Addr} {o:HO}
theorem bI.lt (x:bI P w H h a o):a<h.objs.size:=by
 cases o with
 | lst xs=>obtain ⟨_,_,_,_,e⟩:=x;exact Xj e
 | tup xs=>obtain ⟨_,_,_,p⟩:=x;exact p.lt
 | dK aJ=>obtain ⟨_,_,_,_,o,_,_,e,_⟩:=x;exact Xj e
 | dT aJ=>obtain ⟨_,_,_,_,o,_,_,e,_⟩:=x;exact Xj e
 | set S n=>obtain ⟨o,_,_,_,e,_⟩:=x;exact Xj e
 | ins C dx fs=>obtain ⟨_,_,_,e,_⟩:=x;exact Xj e
 | own y=>obtain ⟨_,e⟩:=x;exact Xj e
 | xd fs=>obtain ⟨_,⟨_,_,_,e,_⟩,_⟩:=x;exact Xj e
 | Oe lo hi=>obtain ⟨_,_,_,e⟩:=x;exact Xj e
 | tJ ob u=>obtain ⟨e,_⟩:=x;exact Xj e
 | ma ps=>exact Xj (show h.get? a=some _ from x)
 | met f y=>exact Xj (show h.get? a=some _ from x)
 | ext φ=>obtain ⟨_,⟨_,e⟩,_⟩:=x;exact Xj e
theorem Paired.GY {α β:Type} {F G:α->β->Prop}: ∀{l₁:List α} {l₂:List β},Paired F l₁ l₂->(∀a b,F a b->G a b)->Paired G l₁ l₂
 | _,_, .nil,_=> .nil
 | _,_, .cons r t,f=> .cons (f _ _ r) (Paired.GY t f)
theorem bI.iV (x:bI P w H h a o) (k: ∀b u,(b=a\/H b=some (.own a))->h.get? b=some u->h'.get? b=some u)
  (ho: ∀b,H b=some (.own a)->H' b=some (.own a)) (ht: ∀b xs,H b=some (.tup xs)->H' b=some (.tup xs)):bI P w H' h' a o:=by
 induction o with
 | lst xs=>obtain ⟨z,aF,n,r,e⟩:=x;exact ⟨z,aF,n,r,k _ _ (.inl rfl) e⟩
 | tup xs=>obtain ⟨z,aF,r,ob,e,c⟩:=x;exact ⟨z,aF,r,ob,k _ _ (.inl rfl) e,c⟩
 | dK aJ=>obtain ⟨z,y,vs,r,ob,es,ep,e,c⟩:=x;exact ⟨z,y,vs,r,ob,es,ep,k _ _ (.inl rfl) e,c⟩
 | dT aJ=>
  obtain ⟨z,y,xs,r,ob,es,ep,e,c⟩:=x
  exact ⟨z,y,xs,Paired.GY r fun p q z=>⟨z.1,ht _ _ z.2.1,z.2.2⟩,ob,es,ep,k _ _ (.inl rfl) e,c⟩
 | set S n=>obtain ⟨ob,es,ep,t,e,c⟩:=x;exact ⟨ob,es,ep,t,k _ _ (.inl rfl) e,c⟩
 | ins C dx fs=>
  obtain ⟨d,z,ne,e,mA,⟨od,es,ep,e2,c⟩,r⟩:=x
  exact ⟨ho _ d,z,ne,k _ _ (.inl rfl) e,mA,⟨od,es,ep,k _ _ (.inr d) e2,c⟩,r⟩
 | own y=>obtain ⟨ob,e⟩:=x;exact ⟨ob,k _ _ (.inl rfl) e⟩
 | xd fs=>obtain ⟨mA,⟨od,es,ep,e,c⟩,r⟩:=x;exact ⟨mA,⟨od,es,ep,k _ _ (.inl rfl) e,c⟩,r⟩
 | Oe lo hi=>obtain ⟨t,u,v,e⟩:=x;exact ⟨t,u,v,k _ _ (.inl rfl) e⟩
 | tJ ob u ih=>obtain ⟨e,q⟩:=x;exact ⟨k _ _ (.inl rfl) e,ih q⟩
 | ma ps=>
  have e:h.get? a=some { cls:= .none,data:= .fields ps }:=x
  show h'.get? a=some { cls:= .none,data:= .fields ps }
  exact k a _ (.inl rfl) e
 | met f y=>
  have e:h.get? a=some (PySem.W.methodObj (.ref f) (.ref y)):=x
  show h'.get? a=some (PySem.W.methodObj (.ref f) (.ref y))
  exact k a _ (.inl rfl) e
 | ext φ=>obtain ⟨p,⟨o,e⟩,st⟩:=x;exact ⟨st _ _ p fun o q=>k _ _ (.inl rfl) q,⟨o,k _ _ (.inl rfl) e⟩,st⟩
theorem jh.lt (x:jh P w H h) (e:H a=some o):a<h.objs.size:=(x a o e).lt
theorem jh.fresh (x:jh P w H h) (e:h.objs.size<=a):H a=none:=by
 cases q:H a with
 | none=>rfl
 | some u=>exact absurd (Xv (x.lt q) e) (X_ _)
theorem jh.kept (x:jh P w H h) (k: ∀b u,h.get? b=some u->h'.get? b=some u):jh P w H h':=fun a o e=>
 (x a o e).iV (fun b u _ q=>k b u q) (fun _ q=>q) fun _ _ q=>q
theorem jh.laid (x:jh P w H h) (k: ∀b u,h.get? b=some u->h'.get? b=some u) (hp:h.objs.size<=a) (new:bI P w (upd H a o) h' a o):jh P w (upd H a o) h':=fun b u e=>by
 have hn:=x.fresh hp
 by_cases hb:b=a
 ·subst hb;rw[ah]at e;cases e;exact new
 ·rw[ao hb]at e
  exact (x b u e).iV (fun c v _ q=>k c v q) (fun c q=>by rw[ao (aA q hn)];exact q) fun c xs q=>by rw[ao (aA q hn)];exact q
end
def Rd (H:Hp) (a:Addr) (u:HO):Prop:=H a=some u\/ ∃o,H a=some (.tJ o u)
theorem Rd.ok {P:Program} {w:World} {H:Hp} {h:Heap} {a:Addr} {u:HO} (r:Rd H a u) (x:jh P w H h):bI P w H h a u:=by
 rcases r with r | ⟨o,r⟩
 ·exact x a u r
 ·obtain ⟨_,q⟩:=x a _ r
  exact q
def KW:Option HO->Prop
 | some (.lst _)=>True
 | some (.dK _)=>True
 | some (.dT _)=>True
 | some (.set _ _)=>True
 | some (.ins _ _ _)=>True
 | some (.ext _)=>True
 | _=>False
section
variable {P:Program} {w:World} {H:Hp} {h h':Heap} {x e:Addr} {o':HO}
theorem jh.write (ok:jh P w H h) (mu:KW (H x)) (he:e=x\/H e=some (.own x)) (k: ∀b u,b≠e->h.get? b=some u->h'.get? b=some u) (Ju: ∃u,h'.get? e=some u)
  (new:bI P w (upd H x o') h' x o'):jh P w (upd H x o') h':=fun b u q=>by
 have KY: ∀c y,H c=some (.own y)->c≠x:=fun c y r z=>by subst z;rw[r]at mu;exact mu
 have Of: ∀c xs,H c=some (.tup xs)->c≠x:=fun c xs r z=>by subst z;rw[r]at mu;exact mu
 by_cases hb:b=x
 ·subst hb;rw[ah]at q;cases q;exact new
 ·rw[ao hb]at q
  by_cases DL:b=e
  ·have q':H b=some (.own x):=by
    rcases he with z | z
    ·exact absurd (DL.trans z) hb
    ·rw[DL];exact z
   rw[q]at q';cases q'
   obtain ⟨v,hv⟩:=Ju
   exact ⟨v,by rw[DL];exact hv⟩
  ·refine (ok b u q).iV (fun c v hc r=>k c v ?_ r) (fun c r=>by rw[ao (KY c b r)];exact r) fun c xs r=>by rw[ao (Of c xs r)];exact r
   rcases hc with rfl | hc
   ·exact DL
   ·rintro rfl
    rcases he with z | z
    ·exact KY c b hc z
    ·rw[hc]at z;cases z;exact hb rfl
end
structure Un (fs ex:List Addr) (H H':Hp) (h h':Heap):Prop where
 keep: ∀b o,h.get? b=some o->H b=none->b∉fs->b∉ex->h'.get? b=some o
 slot: ∀b o,h.get? b=some o->H b=none->b∈fs->b∉ex-> ∃sl,h'.get? b=some { o with slots:=sl }
 free: ∀b o,h.get? b=some o->H b=none->b∉ex->H' b=none
 there: ∀b o,h.get? b=some o->b∉ex-> ∃o',h'.get? b=some o'
 kB: ∀b xs,H b=some (.tup xs)->H' b=some (.tup xs)
 mP: ∀b o u,H b=some (.tJ o u)->H' b=some (.tJ o u)
 pj: ∀b ps,H b=some (.ma ps)-> ∃more,H' b=some (.ma (ps++more))
section
variable {fs TH ex WD:List Addr} {H H1 H2:Hp} {h h1 h2 h':Heap} {a x e:Addr} {o:HO}
theorem Un.any (u:Un fs ex H H1 h h1) {b:Addr} {ob:Obj} (q:h.get? b=some ob) (n:H b=none) (hx:b∉ex): ∃sl,h1.get? b=some { ob with slots:=sl }:=by
 by_cases hb:b∈fs
 ·exact u.slot b ob q n hb hx
 ·exact ⟨ob.slots,u.keep b ob q n hb hx⟩
theorem Un.kept (k: ∀b u,h.get? b=some u->h'.get? b=some u):Un fs ex H H h h':=
 ⟨fun b ob q _ _ _=>k b ob q,fun b ob q _ _ _=>⟨ob.slots,k b ob q⟩,fun _ _ _ n _=>n,fun b ob q _=>⟨ob,k b ob q⟩,fun _ _ q=>q,fun _ _ _ q=>q,fun _ ps q=>⟨#[],by rw[q];simp⟩⟩
theorem Un.refl:Un fs ex H H h h:=Un.kept fun _ _ q=>q
theorem Un.laid (k: ∀b u,h.get? b=some u->h'.get? b=some u) (hp:h.objs.size<=a) (hn:H a=none):Un fs ex H (upd H a o) h h' where
 keep:=fun b u q _ _ _=>k b u q
 slot:=fun b u q _ _ _=>⟨u.slots,k b u q⟩
 free:=fun b u q n _=>by rw[ao (XB (Xv (Xj q) hp))];exact n
 there:=fun b u q _=>⟨u,k b u q⟩
 kB:=fun b xs q=>by rw[ao (aA q hn)];exact q
 mP:=fun b u xs q=>by rw[ao (aA q hn)];exact q
 pj:=fun b ps q=>⟨#[],by rw[ao (aA q hn),q];simp⟩
theorem Un.write (mu:KW (H x)) (he:e=x\/H e=some (.own x)) (k: ∀b u,b≠e->h.get? b=some u->h'.get? b=some u) (Ju: ∃u,h'.get? e=some u):Un fs ex H (upd H x o) h h':=by
 have hx: ∀b,H b=none->b≠x:=fun b n z=>by subst z;rw[n]at mu;exact mu
 have hb: ∀b,H b=none->b≠e:=fun b n z=>by
  subst z
  rcases he with r | r
  ·exact hx b n r
  ·rw[n]at r;cases r
 have hm: ∀b u,H b=some u-> ¬KW (some u)->b≠x:=fun b u q nm z=>by subst z;rw[q]at mu;exact nm mu
 refine ⟨fun b u q n _ _=>k b u (hb b n) q,fun b u q n _ _=>⟨u.slots,k b u (hb b n) q⟩,fun b u q n _=>by rw[ao (hx b n)];exact n,fun b u q _=>?_,
  fun b xs q=>by rw[ao (hm b _ q fun z=>z)];exact q,fun b u xs q=>by rw[ao (hm b _ q fun z=>z)];exact q,fun b ps q=>⟨#[],by rw[ao (hm b _ q fun z=>z),q];simp⟩⟩
 by_cases DL:b=e
 ·subst DL;exact Ju
 ·exact ⟨u,k b u DL q⟩
end
noncomputable def Nm (h:Heap) (H:Hp):List Addr:=(List.range h.objs.size).filter fun a=>(H a).isSome
noncomputable def pk (h:Heap) (H:Hp):Heap:=PySem.W.hideAll h (Nm h H)
theorem yV (h:Heap) (H:Hp):(pk h H).objs.size=h.objs.size:=PySem.W.hideAll_size _ _
theorem AM {h:Heap} {H:Hp} {b:Addr} {o:Obj} (e:h.get? b=some o) (n:H b=none):(pk h H).get? b=some o:=
 PySem.W.hideAll_get _ e fun hm=>by
  have q:(H b).isSome=true:=(Xp.mp hm).2
  rw[n]at q;simp at q
theorem DX {h:Heap} {H:Hp} {b:Addr} {o:Obj} (e:(pk h H).get? b=some o):h.get? b=some o/\H b=none:=by
 have e':h.get? b=some o:=PySem.W.of_hideAll (Nm h H) e
 refine ⟨e',?_⟩
 cases q:H b with
 | none=>rfl
 | some x=>
  have hm:b∈Nm h H:=Xp.mpr ⟨Yu.mpr (Xj e'),by simp[q]⟩
  have z:(pk h H).get? b=none:=PySem.W.hideAll_none (Nm h H) hm
  rw[z]at e;cases e
structure Mod (K:PySem.W.Frag) (mg:Str->Option Value) (base:Heap):Prop where
 Og:K.In base
 glob:base.Ns mainGlobals mg
 blt: ∃mb,base.Ns builtinsNs mb/\ ∀x:Str,x≠"__name__"->mb x=bootBuiltins x
 nolimit:base.NoLimit
structure Cx where
 prog:Program
 w:World
 K:PySem.W.Frag
 mg:Str->Option Value
 base:Heap
 A:Around
 N:List Str
 s₀:Shared
 H₀:Hp
 env:Env
 outer:List Env
 stack:List Env
 ex:List Addr
 fn:Str->Bool
 calm:Bool
 pn:List (Addr×Obj)
 xe:Value->Shared->Prop
noncomputable def xx (l:List Env):List Addr:=l.filterMap (·.frame)
noncomputable abbrev Cx.fs (X:Cx):List Addr:=xx X.outer
def KZ (sc:Scope) (x:Str):Prop:=sc.names.lookup x=some .local\/sc.names.lookup x=some .cell\/sc.names.lookup x=some .free
def Loc (sc:Scope) (x:Str):Prop:=sc.names.lookup x=some .local\/sc.names.lookup x=some .cell
def Look (env:Env) (h:Heap) (m:Str->Option Value) (x:Str) (u:Value):Prop:=
 (env.kindOf x=some .local/\m x=some u)\/((env.kindOf x=some .cell\/env.kindOf x=some .free)/\ ∃c,env.cells.lookup x=some c/\h.IsCell c (some u))
structure Cx.Ok (X:Cx):Prop where
 mod:Mod X.K X.mg X.base
 kind:X.env.scope.kind= .function
 glob:X.env.globals=mainGlobals
 blt:X.env.builtins=builtinsNs
 above:X.s₀.heap.objs.size<=X.env.locals
 inj: ∀x y c,X.env.cells.lookup x=some c->X.env.cells.lookup y=some c->x=y
 has: ∀x,(X.env.kindOf x=some .cell\/X.env.kindOf x=some .free)-> ∃c,X.env.cells.lookup x=some c
 K0: ∀x c,X.fn x=true->X.env.cells.lookup x=some c->X.s₀.heap.objs.size<=c
 hd:X.calm=true->X.A.handled=none
 frames:X.A.frames=some X.stack
 Nn:X.stack=X.outer\/(X.stack=X.env::X.outer/\X.env.frame=some X.env.locals)
 Ri: ∀b∈X.ex,b≠X.env.locals/\ ∀x c,X.env.cells.lookup x=some c->c≠b
 bs: ∀b o,X.base.get? b=some o->X.s₀.heap.get? b=some o/\X.H₀ b=none
 DY:X.base.objs.size<=X.s₀.heap.objs.size
 AN: ∀b o,X.base.get? b=some o->b∉X.ex
 DZ: ∀b∈X.ex,b∉X.fs
 md:X.s₀.heap.FunFrames X.base X.outer
 GZ: ∀b∈X.fs,X.H₀ b=none
structure Inv (X:Cx) (pins:List (Addr×Obj)) (σ:List (Option V)) (H:Hp) (s:Shared):Prop where
 ok:X.Ok
 os:s.os=X.s₀.os
 bare:AllBare s.gens
 base:Un X.fs X.ex X.H₀ H X.s₀.heap s.heap
 loc: ∃m,s.heap.Ns X.env.locals m/\ ∀(i:Nat) (x:Str) (v:V),X.N[i]? =some x->σ[i]? =some (some v)->KZ X.env.scope x-> ∃u,RelV v u/\Look X.env s.heap m x u
 cell: ∀x c,X.env.cells.lookup x=some c-> ∃v,s.heap.IsCell c v
 free:H X.env.locals=none
 gU: ∀x c,X.env.cells.lookup x=some c->H c=none
 pin: ∀p∈X.pn++pins,s.heap.get? p.1=some p.2/\H p.1=none/\p.1≠X.env.locals/\p.1∉X.fs/\ ∀v,p.2.data≠ .cell v
 bN:jh X.prog X.w H s.heap
 len:σ.length=X.N.length
section
variable {X:Cx} {pins:List (Addr×Obj)} {σ:List (Option V)} {H H':Hp} {s:Shared} {h':Heap}
theorem Cx.Ok.Oh (ok:X.Ok) {b:Addr} {o:Obj} (e:X.base.get? b=some o):b∉X.fs:=fun hb=>by
 have:=(ok.md.mem hb).1
 rw[e]at this;cases this
theorem Inv.bs (I:Inv X pins σ H s): ∀b o,X.base.get? b=some o->s.heap.get? b=some o/\H b=none:=fun b o e=>
 ⟨I.base.keep b o (I.ok.bs b o e).1 (I.ok.bs b o e).2 (I.ok.Oh e) (I.ok.AN b o e),I.base.free b o (I.ok.bs b o e).1 (I.ok.bs b o e).2 (I.ok.AN b o e)⟩
theorem Inv.bk (I:Inv X pins σ H s): ∀b o,X.base.get? b=some o->s.heap.get? b=some o:=fun b o e=>(I.bs b o e).1
theorem Inv.mod (I:Inv X pins σ H s):Mod X.K X.mg X.base:=I.ok.mod
theorem Inv.qY (I:Inv X pins σ H s):X.K.In s.heap:=I.ok.mod.Og.keeps I.bk
theorem Inv.lt (I:Inv X pins σ H s):X.env.locals<s.heap.objs.size:=let ⟨_,hn,_⟩:=I.loc;hn.lt
theorem Inv.sz (I:Inv X pins σ H s):X.s₀.heap.objs.size<=s.heap.objs.size:=XG I.ok.above (YI I.lt)
theorem Inv.D0 (I:Inv X pins σ H s) {a:Addr} (h:s.heap.objs.size<=a):a∉X.fs:=fun hb=>by
 obtain ⟨_,o,ho,_⟩:=I.ok.md.mem hb
 exact absurd (Xv (Xj ho) (XG I.sz h)) (X_ _)
theorem Inv.G0 (I:Inv X pins σ H s): ∀x c,X.env.cells.lookup x=some c->c≠X.env.locals:=fun x c e z=>by
 obtain ⟨v,o,ho,hd⟩:=I.cell x c e
 obtain ⟨m,⟨o',es,ep,D1,TJ,_⟩,_⟩:=I.loc
 rw[z,D1]at ho;cases ho;rw[TJ]at hd;cases hd
theorem Inv.md (I:Inv X pins σ H s):s.heap.FunFrames X.base X.outer:=by
 have all: ∀(l:List Env),(∀b∈xx l,b∈X.fs)->X.s₀.heap.FunFrames X.base l->s.heap.FunFrames X.base l:=by
  intro l
  induction l with
  | nil=>intro _ _;trivial
  | cons env r ih=>
   intro hs hl
   obtain ⟨hk,⟨L,o,hf,hn,ho,hd⟩,hr⟩:=hl
   have hL:L∈X.fs:=hs L (by unfold xx;rw[Qab,hf];exact NB)
   obtain ⟨sl,e⟩:=I.base.slot L o ho (I.ok.GZ L hL) hL fun z=>I.ok.DZ L z hL
   exact ⟨hk,⟨L,_,hf,hn,e,hd⟩,ih (fun b hb=>hs b (by unfold xx;rw[Qab,hf];exact NA _ hb)) hr⟩
 exact all X.outer (fun _ hb=>hb) I.ok.md
theorem Inv.stack (I:Inv X pins σ H s):s.heap.FunFrames X.base X.stack:=by
 rcases I.ok.Nn with e | ⟨e,hf⟩
 ·rw[e];exact I.md
 ·rw[e]
  obtain ⟨m,hn,_⟩:=I.loc
  refine .cons (by rw[I.ok.kind];decide) hf hn ?_ I.md
  exact Heap.get?_none_of_le (XG I.ok.DY I.ok.above)
theorem Inv.mQ (I:Inv X pins σ H s): ∀b∈xx X.stack,b∈X.env.locals::X.fs:=fun b hb=>by
 rcases I.ok.Nn with e | ⟨e,hf⟩
 ·rw[e]at hb;exact NA _ hb
 ·rw[e]at hb
  unfold xx at hb
  rw[Qab,hf]at hb
  exact hb
theorem Inv.xA (I:Inv X pins σ H s): ∀b∈xx X.stack,H b=none:=fun b hb=>by
 rcases T4.mp (I.mQ b hb) with e | hb
 ·rw[e];exact I.free
 ·obtain ⟨_,o,ho,_⟩:=I.ok.md.mem hb
  exact I.base.free b o ho (I.ok.GZ b hb) fun z=>I.ok.DZ b z hb
theorem Inv.step {g':Array GenState} {t':Nat} {d':Drawn} {ch:List Addr} (I:Inv X pins σ H s)
  (DM: ∀b∈ch,(b∈X.ex\/X.s₀.heap.objs.size<=b)/\b≠X.env.locals/\(∀x c,X.env.cells.lookup x=some c->c≠b)/\ ∀p∈X.pn++pins,p.1≠b)
  (keep: ∀b o,b≠X.env.locals->b∉X.fs->b∉ch->s.heap.get? b=some o->H b=none->h'.get? b=some o)
  (slot: ∀b o,b≠X.env.locals->b∈X.fs->b∉ch->s.heap.get? b=some o->H b=none-> ∃sl,h'.get? b=some { o with slots:=sl }) (free: ∀b o,b∉ch->s.heap.get? b=some o->H b=none->H' b=none)
  (there: ∀b o,b∉ch->s.heap.get? b=some o-> ∃o',h'.get? b=some o')
  (kB: ∀b xs,H b=some (.tup xs)->H' b=some (.tup xs)) (mP: ∀b o u,H b=some (.tJ o u)->H' b=some (.tJ o u)) (pj: ∀b ps,H b=some (.ma ps)-> ∃more,H' b=some (.ma (ps++more)))
  (ns: ∀m,s.heap.Ns X.env.locals m->h'.Ns X.env.locals m) (bN:jh X.prog X.w H' h') (hg:AllBare g'):
  Inv X pins σ H' { s with heap:=h',gens:=g',drawn:=d',toks:=t' }:=by
 have Rj: ∀b o,X.s₀.heap.get? b=some o->b≠X.env.locals:=fun b o e=>XB (Xv (Xj e) I.ok.above)
 have G1: ∀b o,X.s₀.heap.get? b=some o->b∉X.ex->b∉ch:=fun b o e hx hb=>by
  rcases (DM b hb).1 with z | z
  ·exact hx z
  ·exact absurd (Xv (Xj e) z) (X_ _)
 have cellK: ∀x c,X.env.cells.lookup x=some c-> ∀v,s.heap.IsCell c v->h'.IsCell c v:=fun x c e v ⟨o,ho,hd⟩=>by
  have K1:c∉ch:=fun z=>(DM c z).2.2.1 x c e rfl
  by_cases hc:c∈X.fs
  ·obtain ⟨sl,q⟩:=slot c o (I.G0 x c e) hc K1 ho (I.gU x c e)
   exact ⟨_,q,hd⟩
  ·exact ⟨o,keep c o (I.G0 x c e) hc K1 ho (I.gU x c e),hd⟩
 refine ⟨I.ok,I.os,hg,⟨fun b o e n hb hx=>?_,fun b o e n hb hx=>?_,fun b o e n hx=>?_,fun b o e hx=>?_,fun b xs e=>kB b xs (I.base.kB b xs e),fun b o xs e=>mP b o xs (I.base.mP b o xs e),fun b ps e=>?_⟩,?_,fun x c e=>?_,?_,fun x c e=>?_,fun p hp=>?_,bN,I.len⟩
 ·exact keep b o (Rj b o e) hb (G1 b o e hx) (I.base.keep b o e n hb hx) (I.base.free b o e n hx)
 ·obtain ⟨sl,e1⟩:=I.base.slot b o e n hb hx
  obtain ⟨TK,e2⟩:=slot b _ (Rj b o e) hb (G1 b o e hx) e1 (I.base.free b o e n hx)
  exact ⟨TK,e2⟩
 ·obtain ⟨o',e1⟩:=I.base.there b o e hx
  exact free b o' (G1 b o e hx) e1 (I.base.free b o e n hx)
 ·obtain ⟨o',e1⟩:=I.base.there b o e hx
  exact there b o' (G1 b o e hx) e1
 ·obtain ⟨m1,e1⟩:=I.base.pj b ps e
  obtain ⟨m2,e2⟩:=pj b _ e1
  exact ⟨m1++m2,by rw[e2,Array.append_assoc]⟩
 ·obtain ⟨m,hn,hl⟩:=I.loc
  refine ⟨m,ns m hn,fun i x v e1 e2 e3=>?_⟩
  obtain ⟨u,r,l⟩:=hl i x v e1 e2 e3
  refine ⟨u,r,?_⟩
  rcases l with l | ⟨k,c,e,z⟩
  ·exact .inl l
  ·exact .inr ⟨k,c,e,cellK x c e _ z⟩
 ·obtain ⟨v,z⟩:=I.cell x c e
  exact ⟨v,cellK x c e v z⟩
 ·obtain ⟨m,⟨o,_,_,ho,_⟩,_⟩:=I.loc
  exact free _ o (fun z=>(DM _ z).2.1 rfl) ho I.free
 ·obtain ⟨v,o,ho,hd⟩:=I.cell x c e
  exact free c o (fun z=>(DM c z).2.2.1 x c e rfl) ho (I.gU x c e)
 ·obtain ⟨e,n,ne,nf,d⟩:=I.pin p hp
  have K1:p.1∉ch:=fun z=>(DM p.1 z).2.2.2 p hp rfl
  exact ⟨keep p.1 p.2 ne nf K1 e n,free p.1 p.2 K1 e n,ne,nf,d⟩
theorem Inv.un {t':Nat} (I:Inv X pins σ H s) (u:Un X.fs [] H H' s.heap h') (bN:jh X.prog X.w H' h'):Inv X pins σ H' { s with heap:=h',toks:=t' }:=by
 obtain ⟨m,⟨o,es,ep,ho,r⟩,_⟩:=id I.loc
 obtain ⟨sl,hL⟩:=u.any ho I.free (by simp)
 exact I.step (g':=s.gens) (d':=s.drawn) (ch:=[]) (fun _ z=>nomatch z) (fun b o _ hb _ e n=>u.keep b o e n hb (by simp)) (fun b o _ hb _ e n=>u.slot b o e n hb (by simp)) (fun b o _ e n=>u.free b o e n (by simp)) (fun b o _ e=>u.there b o e (by simp)) u.kB u.mP u.pj (fun m' hm=>by
  obtain ⟨o',Oi,Oj,D1,r'⟩:=hm
  rw[ho]at D1;cases D1
  exact ⟨_,Oi,Oj,hL,r'⟩) bN I.bare
theorem Inv.call {g':Array GenState} {t':Nat} {d':Drawn} {ch:List Addr} (I:Inv X pins σ H s) (u:Un (xx X.stack) ch H H' s.heap h') (bN:jh X.prog X.w H' h') (hg:AllBare g')
  (DM: ∀b∈ch,(b∈X.ex\/X.s₀.heap.objs.size<=b)/\b≠X.env.locals/\(∀x c,X.env.cells.lookup x=some c->c≠b)/\ ∀p∈X.pn++pins,p.1≠b):
  Inv X pins σ H' { s with heap:=h',gens:=g',drawn:=d',toks:=t' }:=by
 obtain ⟨m,⟨o,es,ep,ho,r⟩,_⟩:=id I.loc
 obtain ⟨sl,hL⟩:=u.any ho I.free fun z=>(DM _ z).2.1 rfl
 exact I.step (ch:=ch) DM (fun b o hL hb hc e n=>u.keep b o e n (fun z=>(T4.mp (I.mQ b z)).elim hL hb) hc) (fun b o _ _ hc e n=>u.any e n hc) (fun b o hc e n=>u.free b o e n hc) (fun b o hc e=>u.there b o e hc) u.kB u.mP u.pj (fun m' hm=>by
  obtain ⟨o',Oi,Oj,D1,r'⟩:=hm
  rw[ho]at D1;cases D1
  exact ⟨_,Oi,Oj,hL,r'⟩) bN hg
theorem Inv.turned {t':Nat} {it:Addr} (I:Inv X pins σ H s) (k: ∀b o,b≠it->s.heap.get? b=some o->h'.get? b=some o) (hn:H it=none) (hL:it≠X.env.locals)
  (h1:it∈X.ex\/X.s₀.heap.objs.size<=it) (h2: ∀x c,X.env.cells.lookup x=some c->c≠it) (h3: ∀p∈X.pn++pins,p.1≠it):Inv X pins σ H { s with heap:=h',toks:=t' }:=by
 have FV: ∀b u,H b=some u->b≠it:=fun b u e z=>by rw[z,hn]at e;cases e
 refine I.step (g':=s.gens) (d':=s.drawn) (ch:=[it]) (fun b hb=>?_) (fun b o _ _ hc e _=>k b o (fun z=>hc (by simp[z])) e) (fun b o _ _ hc e _=>⟨o.slots,k b o (fun z=>hc (by simp[z])) e⟩) (fun _ _ _ _ n=>n)
  (fun b o hc e=>⟨o,k b o (fun z=>hc (by simp[z])) e⟩) (fun _ _ e=>e) (fun _ _ _ e=>e) (fun b ps e=>⟨#[],by rw[e];simp⟩) (fun m hm=>?_) (fun b u e=>?_) I.bare
 ·have e:b=it:=by simpa using hb
  subst e
  exact ⟨h1,hL,h2,h3⟩
 ·obtain ⟨o,es,ep,ho,r⟩:=hm
  exact ⟨o,es,ep,k _ o (Ne.symm hL) ho,r⟩
 ·refine (I.bN b u e).iV (fun c v hc q=>k c v ?_ q) (fun _ q=>q) fun _ _ q=>q
  rcases hc with z | z
  ·rw[z];exact FV b u e
  ·exact FV c _ z
theorem Inv.tok (I:Inv X pins σ H s) (t:Nat):Inv X pins σ H { s with toks:=t }:=I.un (h':=s.heap) (t':=t) Un.refl I.bN
theorem Inv.kept {t':Nat} (I:Inv X pins σ H s) (k: ∀b u,s.heap.get? b=some u->h'.get? b=some u):Inv X pins σ H { s with heap:=h',toks:=t' }:=I.un (Un.kept k) (I.bN.kept k)
theorem Inv.laid {a:Addr} {o:HO} {t':Nat} (I:Inv X pins σ H s) (k: ∀b u,s.heap.get? b=some u->h'.get? b=some u) (hp:s.heap.objs.size<=a) (new:bI X.prog X.w (upd H a o) h' a o):
  Inv X pins σ (upd H a o) { s with heap:=h',toks:=t' }:=I.un (Un.laid k hp (I.bN.fresh hp)) (I.bN.laid k hp new)
theorem Inv.write {x e:Addr} {o:HO} {t':Nat} (I:Inv X pins σ H s) (mu:KW (H x)) (he:e=x\/H e=some (.own x)) (k: ∀b u,b≠e->s.heap.get? b=some u->h'.get? b=some u) (Ju: ∃u,h'.get? e=some u)
  (new:bI X.prog X.w (upd H x o) h' x o):Inv X pins σ (upd H x o) { s with heap:=h',toks:=t' }:=I.un (Un.write mu he k Ju) (I.bN.write mu he k Ju new)
theorem Inv.weak {σ':List (Option V)} (I:Inv X pins σ H s) (hl:σ'.length=σ.length) (w: ∀(i:Nat) v,σ'[i]? =some (some v)->σ[i]? =some (some v)):Inv X pins σ' H s:=
 ⟨I.ok,I.os,I.bare,I.base,let ⟨m,hn,G2⟩:=I.loc;⟨m,hn,fun i x v e1 e2 e3=>G2 i x v e1 (w i v e2) e3⟩,I.cell,I.free,I.gU,I.pin,I.bN,hl.trans I.len⟩
theorem Inv.eL {xB:List (Addr×Obj)} (I:Inv X pins σ H s) (h: ∀p∈xB,s.heap.get? p.1=some p.2/\H p.1=none/\p.1≠X.env.locals/\p.1∉X.fs/\ ∀v,p.2.data≠ .cell v):Inv X xB σ H s:=
 ⟨I.ok,I.os,I.bare,I.base,I.loc,I.cell,I.free,I.gU,fun p hp=>(T3.mp hp).elim (fun z=>I.pin p (Xx _ z)) (h p),I.bN,I.len⟩
theorem tK {N:List Str} (hN:N.Nodup) {i j:Nat} {x:Str} (a:N[i]? =some x) (b:N[j]? =some x):i=j:=by
 obtain ⟨h1,e1⟩:=Ru.mp a
 obtain ⟨h2,e2⟩:=Ru.mp b
 exact (List.getElem_inj hN).mp (e1.trans e2.symm)
theorem yW {M:Model} {A:Around} {E:Value->Shared->Prop} {i:Nat} {x:Str} {v:V} {u:Value} {Q:Unit->Shared->Prop} (I:Inv X pins σ H s) (hN:X.N.Nodup) (hi:X.N[i]? =some x) (hx:Loc X.env.scope x) (r:RelV v u)
  (h: ∀s',Inv X pins (σ.set i (some v)) H s'->(∃a,Heap.SameBut a s.heap s'.heap/\(a=X.env.locals\/X.env.cells.lookup x=some a))->Q () s') (hf:X.fn x=true\/X.env.scope.names.lookup x=some .local:=by first | exact .inl rfl | exact .inr rfl | assumption):wpAny M A (storeName X.env x u) Q E s:=by
 obtain ⟨m,hn,hl⟩:=id I.loc
 have Ol:(X.env.scope.kind== .class||(X.env.scope.kind== .module&&X.env.locals != X.env.globals))=false:=by rw[I.ok.kind];rfl
 have Rk:i<σ.length:=by rw[I.len];exact (Ru.mp hi).1
 have G0:=I.G0
 have tracked: ∀{a:Addr} {h':Heap},(∃o,s.heap.get? a=some o/\H a=none)->Heap.SameBut a s.heap h'->jh X.prog X.w H h':=fun {a h'} ha hs b ob e=>by
  obtain ⟨_,_,FW⟩:=ha
  refine (I.bN b ob e).iV (fun c w' hc q=>(hs.2 c ?_).trans q) (fun _ q=>q) fun _ _ q=>q
  rintro rfl
  rcases hc with rfl | hc
  ·rw[FW]at e;cases e
  ·rw[FW]at hc;cases hc
 rcases hx with hk | hk
 ·refine wpAny_storeName_local hk hn (fun h' TL hs=>?_) Ol
  obtain ⟨oL,_,_,Om,_⟩:=id hn
  refine h _ ⟨I.ok,I.os,I.bare,⟨fun b o e n hb hx=>?_,fun b o e n hb hx=>?_,I.base.free,fun b o e hx=>?_,I.base.kB,I.base.mP,I.base.pj⟩,⟨_,TL,fun j y v' e1 e2 e3=>?_⟩,fun y c e=>?_,I.free,I.gU,fun p hp=>?_,tracked ⟨oL,Om,I.free⟩ hs,by simpa using I.len⟩ ⟨_,hs, .inl rfl⟩
  ·exact (hs.2 b (XB (Xv (Xj e) I.ok.above))).trans (I.base.keep b o e n hb hx)
  ·obtain ⟨sl,e1⟩:=I.base.slot b o e n hb hx
   exact ⟨sl,(hs.2 b (XB (Xv (Xj e) I.ok.above))).trans e1⟩
  ·obtain ⟨o',e1⟩:=I.base.there b o e hx
   exact ⟨o',(hs.2 b (XB (Xv (Xj e) I.ok.above))).trans e1⟩
  ·by_cases hj:j=i
   ·subst hj
    rw[hi]at e1;cases e1
    rw[List.getElem?_set_self Rk]at e2
    cases e2
    exact ⟨u,r, .inl ⟨hk,by simp⟩⟩
   ·rw[List.getElem?_set_ne (Ne.symm hj)]at e2
    obtain ⟨u',r',q⟩:=hl j y v' e1 e2 e3
    refine ⟨u',r',?_⟩
    rcases q with ⟨k,e⟩ | ⟨k,c,e,z⟩
    ·refine .inl ⟨k,?_⟩
     have:y≠x:=fun e=>hj (tK hN e1 (e▸hi))
     simp[this,e]
    ·exact .inr ⟨k,c,e,z.sameBut hs (G0 y c e)⟩
  ·obtain ⟨w',z⟩:=I.cell y c e
   exact ⟨w',z.sameBut hs (G0 y c e)⟩
  ·obtain ⟨e,n,ne,nf,d⟩:=I.pin p hp
   exact ⟨(hs.2 p.1 ne).trans e,n,ne,nf,d⟩
 ·have Oo:X.fn x=true:=by
   rcases hf with z | z
   ·exact z
   ·rw[z]at hk;cases hk
  obtain ⟨c,hc⟩:=I.ok.has x (.inl hk)
  obtain ⟨w',z⟩:=I.cell x c hc
  refine wpAny_storeName_cell I.ok.kind hk hc z (fun h' o9 hs=>?_)
  obtain ⟨oc,Np,Oq⟩:=id z
  refine h { s with heap:=h' } ⟨I.ok,I.os,I.bare,⟨fun b o e n hb hx=>?_,fun b o e n hb hx=>?_,I.base.free,fun b o e hx=>?_,I.base.kB,I.base.mP,I.base.pj⟩,⟨m,hn.sameBut hs (Ne.symm (G0 x c hc)),fun j y v' e1 e2 e3=>?_⟩,fun y c' e=>?_,I.free,I.gU,fun p hp=>?_,tracked ⟨oc,Np,I.gU x c hc⟩ hs,by simpa using I.len⟩ ⟨c,hs, .inr hc⟩
  ·exact (hs.2 b (XB (Xv (Xj e) (I.ok.K0 x c Oo hc)))).trans (I.base.keep b o e n hb hx)
  ·obtain ⟨sl,e1⟩:=I.base.slot b o e n hb hx
   exact ⟨sl,(hs.2 b (XB (Xv (Xj e) (I.ok.K0 x c Oo hc)))).trans e1⟩
  ·obtain ⟨o',e1⟩:=I.base.there b o e hx
   exact ⟨o',(hs.2 b (XB (Xv (Xj e) (I.ok.K0 x c Oo hc)))).trans e1⟩
  ·by_cases hj:j=i
   ·subst hj
    rw[hi]at e1;cases e1
    rw[List.getElem?_set_self Rk]at e2
    cases e2
    exact ⟨u,r, .inr ⟨.inl hk,c,hc,o9⟩⟩
   ·rw[List.getElem?_set_ne (Ne.symm hj)]at e2
    obtain ⟨u',r',q⟩:=hl j y v' e1 e2 e3
    refine ⟨u',r',?_⟩
    rcases q with q | ⟨k,c',e,z'⟩
    ·exact .inl q
    ·refine .inr ⟨k,c',e,z'.sameBut hs ?_⟩
     rintro rfl
     exact hj (tK hN e1 (I.ok.inj _ _ _ e hc▸hi))
  ·by_cases AD:c'=c
   ·subst AD;exact ⟨_,o9⟩
   ·obtain ⟨w2,z2⟩:=I.cell y c' e
    exact ⟨w2,z2.sameBut hs AD⟩
  ·obtain ⟨e,n,ne,nf,d⟩:=I.pin p hp
   refine ⟨(hs.2 p.1 ?_).trans e,n,ne,nf,d⟩
   intro q
   rw[q,Np]at e
   have q':oc=p.2:=WK e
   exact d w' (by rw[<-q'];exact Oq)
theorem cY {M:Model} {A:Around} {E:Value->Shared->Prop} {i:Nat} {x:Str} {v:V} {u:Value} {Q:Unit->Shared->Prop} (I:Inv X pins σ H s) (hN:X.N.Nodup) (hi:X.N[i]? =some x) (hx:Loc X.env.scope x) (r:RelV v u)
  (h: ∀s',Inv X pins (σ.set i (some v)) H s'->Q () s') (hf:X.fn x=true\/X.env.scope.names.lookup x=some .local:=by first | exact .inl rfl | exact .inr rfl | assumption):wpAny M A (storeName X.env x u) Q E s:=
 yW I hN hi hx r (fun s' I' _=>h s' I') hf
theorem Inv.K2 {s':Shared} {ch:List Addr} (I:Inv X pins σ H s) (ho:s'.os=s.os) (u:Un (xx X.stack) ch H H' s.heap s'.heap) (bN:jh X.prog X.w H' s'.heap) (hg:AllBare s'.gens)
  (DM: ∀b∈ch,(b∈X.ex\/X.s₀.heap.objs.size<=b)/\b≠X.env.locals/\(∀x c,X.env.cells.lookup x=some c->c≠b)/\ ∀p∈X.pn++pins,p.1≠b):Inv X pins σ H' s':=by
 obtain ⟨h',g',d',t',o'⟩:=s'
 have e:o'=s.os:=ho
 subst e
 exact I.call (g':=g') (t':=t') (d':=d') u bN hg DM
end
abbrev XK:=Value->Option Addr->Hp->Prop
abbrev St:=List (Option V)
abbrev VK:=V->Hp->Prop
abbrev TE:=St->Hp->VK->Prop
abbrev TT:=St->Hp->(Bool->Hp->Prop)->Prop
abbrev TA:=St->Hp->(List V->Hp->Prop)->Prop
structure Ends where
 nx:St->Hp->Prop
 rt:VK
 bk:St->Hp->Prop:=fun _ _=>False
 ct:St->Hp->Prop:=fun _ _=>False
abbrev TS:=Ends->St->Hp->Prop
def EP (X:Cx) (pins:List (Addr×Obj)) (σ:St) (Q:VK) (u:Value) (s':Shared):Prop:= ∃v H',Inv X pins σ H' s'/\RelV v u/\Q v H'
def TP (X:Cx) (pins:List (Addr×Obj)) (σ:St) (Q:Bool->Hp->Prop) (b:Bool) (s':Shared):Prop:= ∃H',Inv X pins σ H' s'/\Q b H'
def AP (X:Cx) (pins:List (Addr×Obj)) (σ:St) (Q:List V->Hp->Prop) (us:List Value) (s':Shared):Prop:= ∃vs H',Inv X pins σ H' s'/\Vals vs us/\Q vs H'
def SP (X:Cx) (pins:List (Addr×Obj)) (D:Ends) (f:Flow) (s':Shared):Prop:=
 match f with
 | .next=> ∃σ' H',Inv X pins σ' H' s'/\D.nx σ' H'
 | .brk=> ∃σ' H',Inv X pins σ' H' s'/\D.bk σ' H'
 | .cont=> ∃σ' H',Inv X pins σ' H' s'/\D.ct σ' H'
 | .ret u=> ∃v σ' H',Inv X pins σ' H' s'/\RelV v u/\D.rt v H'
def PE (X:Cx) (e:Expr) (t:TE):Prop:=
 ∀(pins:List (Addr×Obj)) (s:Shared) (σ:St) (H:Hp) (Q:VK),Inv X pins σ H s->t σ H Q->wpAny (model X.prog X.w) X.A (eval e X.env) (EP X pins σ Q) X.xe s
def PT (X:Cx) (e:Expr) (t:TT):Prop:=
 ∀(pins:List (Addr×Obj)) (s:Shared) (σ:St) (H:Hp) (Q:Bool->Hp->Prop),Inv X pins σ H s->t σ H Q->wpAny (model X.prog X.w) X.A (isTrue e X.env (eval e X.env)) (TP X pins σ Q) X.xe s
def PW (X:Cx) (e:Expr) (t:TT):Prop:=
 ∀(whole:Sem Value) (pins:List (Addr×Obj)) (s:Shared) (σ:St) (H:Hp) (Q:Bool->Hp->Prop),Inv X pins σ H s->t σ H Q->wpAny (model X.prog X.w) X.A (isTrue e X.env whole) (TP X pins σ Q) X.xe s
theorem PW.pt {X:Cx} {e:Expr} {t:TT} (h:PW X e t):PT X e t:=h _
def PA (X:Cx) (es:List Expr) (t:TA):Prop:=
 ∀(pos:Pos) (pins:List (Addr×Obj)) (s:Shared) (σ:St) (H:Hp) (Q:List V->Hp->Prop),Inv X pins σ H s->t σ H Q->wpAny (model X.prog X.w) X.A (spliced (backTo pos (starEach es X.env))) (AP X pins σ Q) X.xe s
def PS (X:Cx) (st:Stmt) (t:TS):Prop:=
 ∀(pins:List (Addr×Obj)) (s:Shared) (σ:St) (H:Hp) (D:Ends),Inv X pins σ H s->t D σ H->wpAny (model X.prog X.w) X.A (exec st X.env) (SP X pins D) X.xe s
def vv (X:Cx) (st:List Stmt) (t:TS):Prop:=
 ∀(pins:List (Addr×Obj)) (s:Shared) (σ:St) (H:Hp) (D:Ends),Inv X pins σ H s->t D σ H->wpAny (model X.prog X.w) X.A (execs st X.env) (SP X pins D) X.xe s
theorem cg {α:Type} {t:Sem α} {Q Q':α->Shared->Prop} {M:Model} {A:Around} {E:Value->Shared->Prop} {s:Shared} (h:wpAny M A t Q E s) (hQ: ∀a s,Q a s->Q' a s):wpAny M A t Q' E s:=wpAny_mono h hQ fun _ _ x=>x
section
variable {X:Cx}
inductive AO (i:Nat) (σ:St) (H:Hp) (Q:VK):Prop
 | mk (v:V) (_:σ[i]? =some (some v)) (_:Q v H):AO i σ H Q
def K3 (i:Nat):TE:=AO i
def tC (v:V):TE:=fun _ H Q=>Q v H
theorem vH {i:Nat} {x:Str} {pos:Pos} (hN:X.N[i]? =some x) (hv:KZ X.env.scope x) (hd:(x==("__debug__":Str))=false:=by decide) (qZ:(x==("__classdict__":Str))=false:=by decide):PE X (.Name x pos) (K3 i):=by
 intro pins s σ H Q I h
 obtain ⟨v,e,h⟩:=h
 obtain ⟨m,hn,hl⟩:=I.loc
 obtain ⟨u,r,l⟩:=hl i x v hN e hv
 have fin:EP X pins σ Q u s:=⟨v,H,I,r,h⟩
 rcases l with ⟨hk,hm⟩ | ⟨hk,c,hc,fM⟩
 ·exact wpAny_Name (wpAny_loadName_local I.ok.kind hk hn hm fin) hd
 ·rcases hk with hk | hk
  ·exact wpAny_Name (wpAny_loadName_cell I.ok.kind hk hc fM fin) hd
  ·exact wpAny_Name (wpAny_loadName_free I.ok.kind hk hc fM fin qZ) hd
theorem ak {i j pos}:PE X (.Constant (.int i) j pos) (tC (.int i)):=fun _ _ _ H _ I h=>wpAny_Constant_int ⟨.int i,H,I.tok _,⟨_,rfl⟩,h⟩
theorem i4 {b j pos}:PE X (.Constant (.bool b) j pos) (tC (.bl b)):=fun _ _ _ H _ I h=>Constant_bool ⟨.bl b,H,I,rfl,h⟩
theorem G3 {x j pos}:PE X (.Constant (.str x) j pos) (tC (.str x)):=fun _ _ _ H _ I h=>Calls.Constant_str ⟨.str x,H,I.tok _,⟨_,rfl⟩,h⟩
def Gl (X:Cx) (x:Str):Prop:=X.env.kindOf x=some .globalImplicit
theorem D3 {E:Value->Shared->Prop} {pins:List (Addr×Obj)} {s:Shared} {σ:St} {H:Hp} {x:Str} {u:Value} {pos:Pos} {Q:Value->Shared->Prop} (I:Inv X pins σ H s) (hg:Gl X x) (hm:X.mg x=some u) (h:Q u s)
  (hd:(x==("__debug__":Str))=false:=by decide):wpAny (model X.prog X.w) X.A (eval (.Name x pos) X.env) Q E s:=
 Calls.Name_function_global I.ok.kind hg (Calls.loadGlobal_global (by rw[I.ok.glob];exact I.mod.glob.keeps I.bk) hm h) hd
theorem fH {E:Value->Shared->Prop} {pins:List (Addr×Obj)} {s:Shared} {σ:St} {H:Hp} {x:Str} {u:Value} {pos:Pos} {Q:Value->Shared->Prop} (I:Inv X pins σ H s) (hg:Gl X x) (hm:X.mg x=none) (hv:bootBuiltins x=some u) (h:Q u s)
  (hn:x≠"__name__":=by decide) (hd:(x==("__debug__":Str))=false:=by decide):wpAny (model X.prog X.w) X.A (eval (.Name x pos) X.env) Q E s:=by
 obtain ⟨mb,h1,h2⟩:=I.mod.blt
 exact Calls.Name_function_global I.ok.kind hg (Calls.loadGlobal_builtin (by rw[I.ok.glob];exact I.mod.glob.keeps I.bk) hm (by rw[I.ok.blt];exact h1.keeps I.bk) ((h2 x hn).trans hv) h) hd
theorem q0 {x:Str} {v:V} {u:Value} {pos:Pos} (hg:Gl X x) (hm:X.mg x=none) (hv:bootBuiltins x=some u) (r:RelV v u) (hn:x≠"__name__":=by decide) (hd:(x==("__debug__":Str))=false:=by decide):PE X (.Name x pos) (tC v):=
 fun _ _ _ H _ I h=>fH I hg hm hv ⟨v,H,I,r,h⟩ hn hd
inductive I2 (x y:V) (H:Hp) (k:Int->Int->Hp->Prop):Prop
 | mk (i j:Int) (_:x= .int i) (_:y= .int j) (_:k i j H):I2 x y H k
inductive IB (x:V) (H:Hp) (Q:Bool->Hp->Prop):Prop
 | mk (c:Bool) (_:x= .bl c) (_:Q c H):IB x H Q
variable {a b:Expr} {ta tb:TE} {pos:Pos}
def PC (X:Cx) (op:CmpOp) (a b:Expr) (t:TE):Prop:=
 ∀(pins:List (Addr×Obj)) (s:Shared) (σ:St) (H:Hp) (Q:VK),Inv X pins σ H s->t σ H Q->
  wpAny (model X.prog X.w) X.A (eval a X.env) (fun v s₁=>wpAny (model X.prog X.w) X.A (eval b X.env) (fun u s₂=>wpAny (model X.prog X.w) X.A (compareOp op v u) (EP X pins σ Q) X.xe s₂) X.xe s₁) X.xe s
def tB (t:TE):TT:=fun σ H Q=>t σ H fun x H1=>IB x H1 Q
theorem G4 {op:CmpOp} {t:TE} (h:PC X op a b t) (h1:behindInMarks op b=false:=by first | exact K4 _ (by decide) (by decide) | rfl):PT X (.Compare a [op] [b] pos) (tB t):=by
 intro pins s σ H Q I hw
 refine wpAny_isTrue_Compare1 (cg (h pins s σ H _ I hw) fun v s1 h1=>cg h1 fun u s2 h2=>cg h2 fun c s3 ⟨x,H1,I1,r1,q1⟩=>?_) h1
 obtain ⟨d,rfl,q⟩:=q1
 cases r1
 exact wpAny_truthy_bool ⟨H1,I1,q⟩
theorem ji {e:Expr} {t:TE} (h:PE X e t) (he: ∀whole,isTrue e X.env whole=(do let v <-whole;standAt e.pos;holding [v] (truthy v)):=by intro _;rfl):PT X e (tB t):=by
 intro pins s σ H Q I hw
 refine isTrue_plain (cg (h pins s σ H _ I hw) fun v s1 ⟨x,H1,I1,r1,q1⟩=>?_) (he _)
 obtain ⟨d,rfl,q⟩:=q1
 cases r1
 exact wpAny_truthy_bool ⟨H1,I1,q⟩
variable {tA Nq:TT} {rest:List Expr}
def Ot (t u:TT):TT:=fun σ H Q=>t σ H fun c H1=>if c=true then u σ H1 Q else Q false H1
def TM (t u:TT):TT:=fun σ H Q=>t σ H fun c H1=>if c=true then Q true H1 else u σ H1 Q
def Ou (t:TT):TT:=fun σ H Q=>t σ H fun c H1=>Q (!c) H1
theorem mB (ha:PT X a tA):PW X (.BoolOp .And [a] pos) tA:=by
 intro wh pins s σ H Q I h
 refine isTrue_and (cg (ha pins s σ H Q I h) fun c s1 e=>?_)
 cases c with
 | true=>exact isTrue_and_nil e
 | false=>exact e
theorem kC (ha:PT X a tA):PW X (.BoolOp .Or [a] pos) tA:=by
 intro wh pins s σ H Q I h
 refine isTrue_or (cg (ha pins s σ H Q I h) fun c s1 e=>?_)
 cases c with
 | false=>exact isTrue_or_nil e
 | true=>exact e
theorem q8 (ha:PT X a tA) (hb:PW X (.BoolOp .And (b::rest) pos) Nq):PW X (.BoolOp .And (a::b::rest) pos) (Ot tA Nq):=by
 intro wh pins s σ H Q I h
 refine isTrue_and (cg (ha pins s σ H _ I h) fun c s1 ⟨H1,I1,q1⟩=>?_)
 cases c with
 | true=>exact hb wh pins s1 σ H1 Q I1 q1
 | false=>exact ⟨H1,I1,q1⟩
theorem p6 (ha:PT X a tA) (hb:PW X (.BoolOp .Or (b::rest) pos) Nq):PW X (.BoolOp .Or (a::b::rest) pos) (TM tA Nq):=by
 intro wh pins s σ H Q I h
 refine isTrue_or (cg (ha pins s σ H _ I h) fun c s1 ⟨H1,I1,q1⟩=>?_)
 cases c with
 | true=>exact ⟨H1,I1,q1⟩
 | false=>exact hb wh pins s1 σ H1 Q I1 q1
theorem q9 (ha:PT X a tA):PT X (.UnaryOp .Not a pos) (Ou tA):=by
 intro pins s σ H Q I h
 exact isTrue_not (ha pins s σ H (fun c H1=>Q (!c) H1) I h)
def K5 (ta tb:TE):TE:=fun σ H Q=>ta σ H fun x H1=> ∃c,x= .bl c/\if c=true then tb σ H1 Q else Q (.bl false) H1
theorem AQ {op} {t:TE} (h:PE X a t):PE X (.BoolOp op [a] pos) t:=fun pins s σ H Q I hw=>BoolOp_one (h pins s σ H Q I hw)
theorem AR (ha:PE X a ta) (hb:PE X (.BoolOp .And (b::rest) pos) tb):PE X (.BoolOp .And (a::b::rest) pos) (K5 ta tb):=by
 intro pins s σ H Q I h
 refine BoolOp_and (cg (ha pins s σ H _ I h) fun v s1 ⟨x,H1,I1,r1,q1⟩=>?_)
 obtain ⟨c,rfl,q1⟩:=q1
 cases r1
 refine wpAny_truthy_bool ?_
 cases c with
 | true=>exact hb pins s1 σ H1 Q I1 q1
 | false=>exact ⟨.bl false,H1,I1,rfl,q1⟩
end
def a_ (K:PySem.W.Frag) (H:Hp) (a:Addr) (xs:List V):Prop:=
 Rd H a (.lst xs)\/
  ∃(o:Obj) (aF:Array Value) (n:Nat),K.lookup a=some o/\o.cls= .type "list"/\o.dict=none/\o.data= .seq aF n/\aF.size<=sizeLine/\Vals xs aF.toList
def me (K:PySem.W.Frag) (H:Hp) (a:Addr) (xs:List V):Prop:=
 Rd H a (.tup xs)\/
  ∃(o:Obj) (aF:Array Value) (n:Nat),K.lookup a=some o/\o.cls= .type "tuple"/\o.data= .seq aF n/\aF.size<=sizeLine/\Vals xs aF.toList
noncomputable def Ov:Value->Option V
 | .none=>some .eK
 | .bool b=>some (.bl b)
 | .int i _=>some (.int i)
 | .str x _=>some (.str x)
 | .bytes b _=>some (.yU b)
 | .float b _=>some (.Jt b)
 | .ref a=>some (.ref a)
 | .type n=>some (.ty n)
 | _=>none
theorem RelV.abs {x:V} {u:Value} (r:RelV x u):Ov u=some x:=by
 cases x with
 | eK=>cases r;rfl
 | bl _=>cases r;rfl
 | int _=>obtain ⟨t,rfl⟩:=r;rfl
 | str _=>obtain ⟨t,rfl⟩:=r;rfl
 | yU _=>obtain ⟨t,rfl⟩:=r;rfl
 | Jt _=>obtain ⟨t,rfl⟩:=r;rfl
 | ref _=>cases r;rfl
 | ty _=>cases r;rfl
theorem RelV.inj {x y:V} {u:Value} (r:RelV x u) (q:RelV y u):x=y:=WK (r.abs.symm.trans q.abs)
theorem Vals.inj: ∀{xs ys:List V} {us:List Value},Vals xs us->Vals ys us->xs=ys
 | _,_,_, .nil, .nil=>rfl
 | _,_,_, .cons r t, .cons r' t'=>by rw[r.inj r',Vals.inj t t']
section
variable {X:Cx} {pins:List (Addr×Obj)} {σ:St} {H:Hp} {s:Shared} {a:Addr} {xs ys:List V}
theorem a_.of {K:PySem.W.Frag} (h:H a=some (.lst xs)):a_ K H a xs:= .inl (.inl h)
theorem me.of {K:PySem.W.Frag} (h:H a=some (.tup xs)):me K H a xs:= .inl (.inl h)
theorem Inv.list (I:Inv X pins σ H s) (h:a_ X.K H a xs): ∃aF:List Value,Vals xs aF/\PlainL s.heap a aF.toArray/\xs.length<=sizeLine:=by
 rcases h with h | ⟨o,aF,n,hk,hc,hd,hs,hz,r⟩
 ·obtain ⟨z,aF,n,r,e⟩:=h.ok I.bN
  exact ⟨aF,r,⟨_,n,e,rfl,rfl,rfl⟩,z⟩
 ·refine ⟨aF.toList,r,⟨o,n,I.qY a o hk,hc,hd,by simpa using hs⟩,?_⟩
  have e:=r.length
  simp only[Xu]at e
  lia
theorem Inv.tuple (I:Inv X pins σ H s) (h:me X.K H a xs): ∃aF:List Value,Vals xs aF/\IsTup s.heap a aF.toArray/\xs.length<=sizeLine:=by
 rcases h with h | ⟨o,aF,n,hk,hc,hs,hz,r⟩
 ·obtain ⟨z,aF,r,p⟩:=h.ok I.bN
  exact ⟨aF,r,p,z⟩
 ·refine ⟨aF.toList,r,⟨o,I.qY a o hk,hc,n,by simpa using hs⟩,?_⟩
  have e:=r.length
  simp only[Xu]at e
  lia
theorem Inv.tL (I:Inv X pins σ H s) (h:a_ X.K H a xs) (h':a_ X.K H a ys):xs=ys:=by
 obtain ⟨aF,r,⟨o,n,e,_,_,d⟩,_⟩:=I.list h
 obtain ⟨its',r',⟨o',n',e',_,_,d'⟩,_⟩:=I.list h'
 rw[e]at e';cases e'
 rw[d]at d'
 injection d' with d1 _
 have:aF=its':=by simpa using congrArg Array.toList d1
 subst this
 exact r.inj r'
theorem Inv.yX (I:Inv X pins σ H s) (h:me X.K H a xs) (h':me X.K H a ys):xs=ys:=by
 obtain ⟨aF,r,⟨o,e,_,n,d⟩,_⟩:=I.tuple h
 obtain ⟨its',r',⟨o',e',_,n',d'⟩,_⟩:=I.tuple h'
 rw[e]at e';cases e'
 rw[d]at d'
 injection d' with d1 _
 have:aF=its':=by simpa using congrArg Array.toList d1
 subst this
 exact r.inj r'
end
noncomputable abbrev Cx.mR (X:Cx) (E:Value->Shared->Prop):Cx:={ X with xe:=E }
noncomputable abbrev Cx.DN (X:Cx):Cx:=X.mR fun _ _=>False
theorem Cx.Ok.mR {X:Cx} (ok:X.Ok) (E:Value->Shared->Prop):(X.mR E).Ok:=
 ⟨ok.mod,ok.kind,ok.glob,ok.blt,ok.above,ok.inj,ok.has,ok.K0,ok.hd,ok.frames,ok.Nn,ok.Ri,ok.bs,ok.DY,ok.AN,ok.DZ,ok.md,ok.GZ⟩
theorem Cx.Ok.gj {X:Cx} {E:Value->Shared->Prop} (ok:(X.mR E).Ok):X.Ok:=
 ⟨ok.mod,ok.kind,ok.glob,ok.blt,ok.above,ok.inj,ok.has,ok.K0,ok.hd,ok.frames,ok.Nn,ok.Ri,ok.bs,ok.DY,ok.AN,ok.DZ,ok.md,ok.GZ⟩
section
variable {X:Cx} {pins:List (Addr×Obj)} {σ:St} {H:Hp} {s:Shared} {E:Value->Shared->Prop}
theorem Inv.mR (I:Inv X pins σ H s) (E:Value->Shared->Prop):Inv (X.mR E) pins σ H s:=⟨I.ok.mR E,I.os,I.bare,I.base,I.loc,I.cell,I.free,I.gU,I.pin,I.bN,I.len⟩
theorem Inv.gj (I:Inv (X.mR E) pins σ H s):Inv X pins σ H s:=⟨I.ok.gj,I.os,I.bare,I.base,I.loc,I.cell,I.free,I.gU,I.pin,I.bN,I.len⟩
theorem SP.gj {D:Ends} {f:Flow} {s':Shared} (h:SP (X.mR E) pins D f s'):SP X pins D f s':=by
 cases f with
 | next=>obtain ⟨σ',H',I,q⟩:=h;exact ⟨σ',H',I.gj,q⟩
 | brk=>obtain ⟨σ',H',I,q⟩:=h;exact ⟨σ',H',I.gj,q⟩
 | cont=>obtain ⟨σ',H',I,q⟩:=h;exact ⟨σ',H',I.gj,q⟩
 | ret u=>obtain ⟨v,σ',H',I,r,q⟩:=h;exact ⟨v,σ',H',I.gj,r,q⟩
theorem PE.DN {e:Expr} {t:TE} (h:PE X.DN e t):PE X e t:=fun pins s σ H Q I hw=>
 wpAny_mono (h pins s σ H Q (I.mR _) hw) (fun _ _ ⟨v,H',I',r,q⟩=>⟨v,H',I'.gj,r,q⟩) fun _ _ z=>False.elim z
theorem vv.DN {st:List Stmt} {t:TS} (h:vv X.DN st t):vv X st t:=fun pins s σ H D I hw=>
 wpAny_mono (h pins s σ H D (I.mR _) hw) (fun _ _ q=>q.gj) fun _ _ z=>False.elim z
end
section
variable {X:Cx} {st:Stmt} {rest:List Stmt} {t u:TS} {e:Expr} {te:TE} {pos:Pos}
def K6:TS:=fun D σ H=>D.nx σ H
def AS (t u:TS):TS:=fun D σ H=>t { D with nx:=u D } σ H
theorem bY:vv X [] K6:=fun _ _ σ H _ I h=>wpAny_execs_nil ⟨σ,H,I,h⟩
theorem ae (h1:PS X st t) (h2:vv X rest u):vv X (st::rest) (AS t u):=by
 intro pins s σ H D I h
 refine wpAny_execs_cons (cg (h1 pins s σ H { D with nx:=u D } I h) fun f s1 q=>?_)
 cases f with
 | next=>
  obtain ⟨σ',H',I',q⟩:=q
  exact h2 pins s1 σ' H' D I' q
 | ret v=>exact q
 | brk=>exact q
 | cont=>exact q
theorem aj (h1:PS X st t):vv X [st] t:=by
 intro pins s σ H D I h
 refine wpAny_execs_cons (cg (h1 pins s σ H D I h) fun f s1 q=>?_)
 cases f with
 | next=>exact wpAny_execs_nil q
 | ret v=>exact q
 | brk=>exact q
 | cont=>exact q
theorem Inv.quiet {pins:List (Addr×Obj)} {σ:St} {H:Hp} {s:Shared} (I:Inv X pins σ H s):interactive X.env=false:=by simp[interactive,I.ok.kind]
def K7 (te:TE):TS:=fun D σ H=>te σ H fun _ H1=>D.nx σ H1
theorem eM (he:PE X e te) (hs:swapsWith e none pos.line X.env=pure false:=by rfl):PS X (.Expr e pos) (K7 te):=by
 intro pins s σ H D I h
 exact wpAny_Expr_any (cg (he pins s σ H _ I h) fun v s1 ⟨x,H1,I1,r1,q1⟩=>⟨σ,H1,I1,q1⟩) I.quiet hs
def Ow (te:TE):TS:=fun D σ H=>te σ H D.rt
theorem aI (he:PE X e te):PS X (.Return (some e) pos) (Ow te):=by
 intro pins s σ H D I h
 exact wpAny_Return_some (cg (he pins s σ H _ I h) fun v s1 ⟨x,H1,I1,r1,q1⟩=>⟨x,σ,H1,I1,r1,q1⟩)
def Ox (c:TT) (t u:TS):TS:=fun D σ H=>c σ H fun b H1=>if b=true then t D σ H1 else u D σ H1
theorem cK {c:Expr} {a b:List Stmt} {tc:TT} (hc:PT X c tc) (ha:vv X a t) (hb:vv X b u):PS X (.If c a b pos) (Ox tc t u):=by
 intro pins s σ H D I h
 refine wpAny_If (cg (hc pins s σ H _ I h) fun d s1 ⟨H1,I1,q1⟩=>?_)
 cases d with
 | true=>exact ha pins s1 σ H1 D I1 q1
 | false=>exact hb pins s1 σ H1 D I1 q1
end
abbrev TG:=V->St->Hp->(St->Hp->Prop)->Prop
abbrev DO:=List V->St->Hp->(St->Hp->Prop)->Prop
def PG (X:Cx) (target:Expr) (t:TG):Prop:=
 ∀(pins:List (Addr×Obj)) (s:Shared) (σ:St) (H:Hp) (v:V) (u:Value) (Q:St->Hp->Prop),Inv X pins σ H s->RelV v u->t v σ H Q->
  wpAny (model X.prog X.w) X.A (assign target X.env u) (fun _ s'=> ∃σ' H',Inv X pins σ' H' s'/\Q σ' H') X.xe s
def Jv (X:Cx) (ts:List Expr) (t:DO):Prop:=
 ∀(pins:List (Addr×Obj)) (s:Shared) (σ:St) (H:Hp) (vs:List V) (us:List Value) (Q:St->Hp->Prop),Inv X pins σ H s->Vals vs us->t vs σ H Q->
  wpAny (model X.prog X.w) X.A (assignInOrder ((assignEach ts X.env).map (·.2)) us) (fun _ s'=> ∃σ' H',Inv X pins σ' H' s'/\Q σ' H') X.xe s
abbrev G5:=V->V->V->Hp->(Hp->Prop)->Prop
def K8 (X:Cx) (t:G5):Prop:=
 ∀(pins:List (Addr×Obj)) (s:Shared) (σ:St) (H:Hp) (o i v:V) (ov iv u:Value) (Q:Hp->Prop),Inv X pins σ H s->RelV o ov->RelV i iv->RelV v u->t o i v H Q->
  wpAny (model X.prog X.w) X.A (setItem ov iv u) (fun _ s'=> ∃H',Inv X pins σ H' s'/\Q H') X.xe s
abbrev Nr:=V->V->Hp->VK->Prop
def Nt (X:Cx) (op:Operator) (t:Nr):Prop:=
 ∀(pins:List (Addr×Obj)) (s:Shared) (σ:St) (H:Hp) (x y:V) (v u:Value) (Q:VK),Inv X pins σ H s->RelV x v->RelV y u->t x y H Q->
  wpAny (model X.prog X.w) X.A (inplaceOp op v u) (EP X pins σ Q) X.xe s
section
variable {X:Cx} {pos:Pos}
def tM (i:Nat):TG:=fun v σ H Q=>Q (σ.set i (some v)) H
theorem aG {i:Nat} {x:Str} (hN:X.N.Nodup) (hi:X.N[i]? =some x) (hx:Loc X.env.scope x) (hf:X.fn x=true\/X.env.scope.names.lookup x=some .local:=by first | exact .inl rfl | exact .inr rfl | assumption):PG X (.Name x pos) (tM i):=by
 intro pins s σ H v u Q I r h
 exact wpAny_assign_Name (cY I hN hi hx r (fun s' I'=>⟨_,H,I',h⟩) hf)
def Oy:DO:=fun vs σ H Q=>vs=[]/\Q σ H
def K9 (t:TG) (u:DO):DO:=fun vs σ H Q=> ∃v r,vs=v::r/\t v σ H fun σ' H'=>u r σ' H' Q
theorem iF:Jv X [] Oy:=by
 intro pins s σ H vs us Q I r h
 obtain ⟨e,h⟩:=h
 subst e
 cases r
 exact assignInOrder_nil ⟨σ,H,I,h⟩
theorem bJ {e:Expr} {es:List Expr} {t:TG} {u:DO} (h1:PG X e t) (h2:Jv X es u)
  (hs:(assignEach (e::es) X.env).map (·.2)=assign e X.env::(assignEach es X.env).map (·.2):=by rfl):Jv X (e::es) (K9 t u):=by
 intro pins s σ H vs us Q I r h
 obtain ⟨v,vr,e1,h⟩:=h
 subst e1
 cases r with
 | cons r rr=>
  rw[hs]
  refine assignInOrder_cons (cg (h1 pins s σ H _ _ _ I r h) fun _ s1 ⟨σ1,H1,I1,q1⟩=>?_)
  exact h2 pins s1 σ1 H1 _ _ Q I1 rr q1
def K_ (K:PySem.W.Frag) (n:Nat) (t:DO):TG:=fun v σ H Q=> ∃a xs,v= .ref a/\me K H a xs/\xs.length=n/\t xs σ H Q
theorem G6 {es:List Expr} {k:Nat} {t:DO} {n:Nat} (hc:X.calm=true) (h:Jv X es t)
  (hn:(assignEach es X.env).length=n:=by rfl) (D4:(assignEach es X.env).findIdx? (·.1)=none:=by rfl):PG X (.Tuple es k pos) (K_ X.K n t):=by
 intro pins s σ H v u Q I r hw
 obtain ⟨a,xs,e1,hq,hl,hw⟩:=hw
 subst e1
 cases r
 obtain ⟨aF,rv,ht,hz⟩:=I.tuple hq
 refine assign_Tuple_tuple (I.ok.hd hc) ht (by simp[hn, <-hl,rv.length]) D4 fun h' hx=>?_
 have I1:Inv X pins σ H { s with heap:=h' }:=I.kept (t':=s.toks) fun b o e=>hx b o (XB (Xj e)) e
 exact h pins _ σ H xs _ Q I1 (by simpa using rv) hw
def Oz (to ti:TE) (t:G5):TG:=fun v σ H Q=>to σ H fun o H1=>ti σ H1 fun i H2=>t o i v H2 fun H3=>Q σ H3
theorem AU {o i:Expr} {to ti:TE} {t:G5} (ho:PE X o to) (hi:PE X i ti) (hs:K8 X t)
  (ha: ∀v,assign (.Subscript o i pos) X.env v=(do
   let ov <-holding [v] (eval o X.env)
   let iv <-holding [v,ov] (eval i X.env)
   standAt pos
   holding [v,ov,iv] (setItem ov iv v)
   release [v,ov,iv] []):=by intro _;rfl):PG X (.Subscript o i pos) (Oz to ti t):=by
 intro pins s σ H v u Q I r h
 rw[ha]
 refine wpAny_bind (wpAny_holding (cg (ho pins s σ H _ I h) fun ov s1 ⟨x,H1,I1,r1,q1⟩=>?_))
 refine wpAny_bind (wpAny_holding (cg (hi pins s1 σ H1 _ I1 q1) fun iv s2 ⟨y,H2,I2,r2,q2⟩=>?_))
 refine wpAny_bind (wpAny_standAt (wpAny_bind (wpAny_holding (cg (hs pins s2 σ H2 x y v ov iv u _ I2 r1 r2 r q2) fun _ s3 ⟨H3,I3,q3⟩=>?_))))
 exact wpAny_release ⟨σ,H3,I3,q3⟩
def AV (te:TE) (g:TG):TS:=fun D σ H=>te σ H fun x H1=>g x σ H1 D.nx
theorem jj {tg e:Expr} {te:TE} {g:TG} (he:PE X e te) (hg:PG X tg g) (hs:swapsWithSole [tg] e pos.line X.env=pure false:=by rfl) (hw:swappedStores [tg] e X.env=pure none:=by rfl)
  (h1:(assignEach [tg] X.env).map (·.2)=[assign tg X.env]:=by rfl):PS X (.Assign [tg] e pos) (AV te g):=by
 intro pins s σ H D I h
 refine wpAny_Assign_stores (cg (he pins s σ H _ I h) fun v s1 ⟨x,H1,I1,r1,q1⟩=>?_) hs hw
 rw[h1]
 exact cg (hg pins s1 σ H1 x v _ I1 r1 q1) fun _ s2 q=>q
theorem G7 {i:Nat} {x:Str} {e:Expr} {te:TE} {pos':Pos} (hN:X.N.Nodup) (hi:X.N[i]? =some x) (hx:Loc X.env.scope x) (he:PE X e te) (hs:swapsWith e (some (.Name x pos')) pos.line X.env=pure false:=by rfl) (hf:X.fn x=true\/X.env.scope.names.lookup x=some .local:=by first | exact .inl rfl | exact .inr rfl | assumption):
  PS X (.Assign [.Name x pos'] e pos) (AV te (tM i)):=by
 intro pins s σ H D I h
 refine wpAny_Assign_Name (cg (he pins s σ H _ I h) fun v s1 ⟨y,H1,I1,r1,q1⟩=>?_) hs
 exact cY I1 hN hi hx r1 (fun s2 I2=>⟨_,H1,I2,q1⟩) hf
def OA (i j:Nat) (ta:TA):TS:=fun D σ H=>ta σ H fun vs H1=> ∃v w,vs=[v,w]/\D.nx ((σ.set i (some v)).set j (some w)) H1
theorem AW {i j:Nat} {x y:Str} {a b:Expr} {ta:TA} {px py pt:Pos} {kt k2 G8} (hc:X.calm=true) (hN:X.N.Nodup) (hi:X.N[i]? =some x) (hj:X.N[j]? =some y) (q_:i≠j)
  (hx:X.env.scope.names.lookup x=some .local) (hy:X.env.scope.names.lookup y=some .local) (ha:PA X [a,b] ta)
  (hw:swappedStores [.Tuple [.Name x px, .Name y py] kt pt] (.Tuple [a,b] k2 G8) X.env=pure (some [x,y]))
  (hs:swapsWithSole [.Tuple [.Name x px, .Name y py] kt pt] (.Tuple [a,b] k2 G8) pos.line X.env=pure false:=by rfl):
  PS X (.Assign [.Tuple [.Name x px, .Name y py] kt pt] (.Tuple [a,b] k2 G8) pos) (OA i j ta):=by
 intro pins s σ H D I h
 rw[exec_Assign_arm]
 refine wpAny_bind (wpAny_standAt ?_)
 rw[hs]
 refine wpAny_bind (wpAny_pure ?_)
 rw[if_neg (by decide)]
 refine wpAny_bind (Tuple_ (cg (ha _ pins s σ H _ I h) fun us s1 ⟨vs,H1,I1,r1,q1⟩=>?_))
 obtain ⟨v,w,e1,q1⟩:=q1
 subst e1
 obtain ⟨u1,u2,rfl,rv,G9⟩: ∃u1 u2,us=[u1,u2]/\RelV v u1/\RelV w u2:=by
  cases r1 with
  | cons p q=>
   cases q with
   | cons p' q'=>
    cases q'
    exact ⟨_,_,rfl,p,p'⟩
 refine wpAny_newObj_type ?_ (by show 2<=sizeLine;decide)
 have I2:Inv X pins σ H1 { s1 with heap:=s1.heap.push { cls:= .type "tuple",data:= .seq [u1,u2].toArray } }:=I1.kept (t':=s1.toks) fun b o e=>Rw _ e
 rw[hw]
 refine wpAny_bind (wpAny_pure ?_)
 show wpAny (model X.prog X.w) X.A (do rule "assign.swapped-stores";let items <-unpackItems (.ref s1.heap.objs.size) 2 none;assignInOrder [fun v=>bindName X.env y v,fun v=>bindName X.env x v] items.reverse;pure Flow.next) _ _ _
 refine wpAny_bind (wpAny_rule (wpAny_bind (unpackItems_tuple (items:= #[u1,u2]) (I.ok.hd hc) (IsTup.new s1.heap _) fun h' D5=>?_)))
 have I3:=I2.kept (h':=h') (t':=s1.toks) fun b o e=>D5 b o (XB (Xj e)) e
 show wpAny _ _ (assignInOrder [fun v=>bindName X.env y v,fun v=>bindName X.env x v] [u2,u1] >>= fun _=>pure Flow.next) _ _ _
 refine wpAny_bind (assignInOrder_cons (wpAny_bindName (cY I3 hN hj (.inl hy) G9 (fun s2 I4=>?_) (.inr hy))))
 refine assignInOrder_cons (wpAny_bindName (cY I4 hN hi (.inl hx) rv (fun s3 I5=>assignInOrder_nil (wpAny_pure ?_)) (.inr hx)))
 rw[Qad _ _ (Ne.symm q_)]at I5
 exact ⟨_,H1,I5,q1⟩
def OB (i:Nat) (te:TE) (ti:Nr):TS:=fun D σ H=> ∃x,σ[i]? =some (some x)/\te σ H fun y H1=>ti x y H1 fun z H2=>D.nx (σ.set i (some z)) H2
theorem vI {i:Nat} {x:Str} {e:Expr} {te:TE} {op:Operator} {ti:Nr} {pos':Pos} (hN:X.N.Nodup) (hi:X.N[i]? =some x) (hx:Loc X.env.scope x) (he:PE X e te) (ho:Nt X op ti) (hf:X.fn x=true\/X.env.scope.names.lookup x=some .local:=by first | exact .inl rfl | exact .inr rfl | assumption):
  PS X (.AugAssign (.Name x pos') op e pos) (OB i te ti):=by
 intro pins s σ H D I h
 obtain ⟨v,e1,h⟩:=h
 obtain ⟨m,hn,hl⟩:=I.loc
 have TN:KZ X.env.scope x:=by rcases hx with k | k;exact .inl k;exact .inr (.inl k)
 obtain ⟨u,r,l⟩:=hl i x v hi e1 TN
 refine wpAny_AugAssign_Name ?_
 have go:wpAny (model X.prog X.w) X.A (eval e X.env) (fun w s₂=>wpAny (model X.prog X.w) X.A (inplaceOp op u w) (fun r s₃=>wpAny (model X.prog X.w) X.A (storeName X.env x r) (fun _=>SP X pins D .next) X.xe s₃) X.xe s₂) X.xe s:=by
  refine cg (he pins s σ H _ I h) fun w s1 ⟨y,H1,I1,r1,q1⟩=>?_
  refine cg (ho pins s1 σ H1 v y u w _ I1 r r1 q1) fun z s2 ⟨zv,H2,I2,r2,q2⟩=>?_
  exact cY I2 hN hi hx r2 (fun s3 I3=>⟨_,H2,I3,q2⟩) hf
 rcases l with ⟨hk,hm⟩ | ⟨hk,c,hc,fM⟩
 ·exact wpAny_loadName_local I.ok.kind hk hn hm go
 ·rcases hk with hk | hk
  ·exact wpAny_loadName_cell I.ok.kind hk hc fM go
  ·rcases hx with k | k
   ·have:X.env.scope.names.lookup x=some .free:=hk
    rw[k]at this;cases this
   ·have:X.env.scope.names.lookup x=some .free:=hk
    rw[k]at this;cases this
def Rl (f:Int->Int->Int):Nr:=fun x y H Q=> ∃i j,x= .int i/\y= .int j/\Q (.int (f i j)) H
theorem G_:Nt X .Add (Rl fun i j=>i+j):=by
 intro pins s σ H x y v u Q I r1 r2 h
 obtain ⟨i,j,e1,e2,q⟩:=h
 subst e1;subst e2
 obtain ⟨t,rfl⟩:=r1
 obtain ⟨t',rfl⟩:=r2
 exact iadd_int ⟨.int _,H,I.tok _,⟨_,rfl⟩,q⟩
theorem Ha:Nt X .Sub (Rl fun i j=>i - j):=by
 intro pins s σ H x y v u Q I r1 r2 h
 obtain ⟨i,j,e1,e2,q⟩:=h
 subst e1;subst e2
 obtain ⟨t,rfl⟩:=r1
 obtain ⟨t',rfl⟩:=r2
 exact isub_int ⟨.int _,H,I.tok _,⟨_,rfl⟩,q⟩
end
structure It where
 go:Nat->Hp->Prop
 D6:Nat->Hp->V->Hp->Prop
 stop:Nat->Hp->Prop
def mf (X:Cx) (pins:List (Addr×Obj)) (H:Hp) (b:Addr):Prop:=
 H b=none/\b≠X.env.locals/\b∉X.fs/\(b∈X.ex\/X.s₀.heap.objs.size<=b)/\(∀x c,X.env.cells.lookup x=some c->c≠b)/\ ∀p∈X.pn++pins,p.1≠b
theorem Inv.rh {X:Cx} {pins:List (Addr×Obj)} {σ:St} {H H':Hp} {s:Shared} {b:Addr} (I:Inv X pins σ H s) (hb:s.heap.objs.size<=b) (hn:H' b=none):mf X pins H' b:=by
 refine ⟨hn,Zw (Xv I.lt hb),I.D0 hb, .inr (XG I.sz hb),fun x c e z=>?_,fun p hp z=>?_⟩
 ·obtain ⟨v,q⟩:=I.cell x c e
  exact absurd (Xv q.lt (by rw[z];exact hb)) (X_ _)
 ·exact absurd (Xv (Xj (I.pin p hp).1) (by rw[z];exact hb)) (X_ _)
structure Turn (P:Program) (w:World) (K:PySem.W.Frag) (tg:Expr) (J:It) (fp:List Addr) (it:Addr) (tn:Nat->Heap->Prop):Prop where
 mem:it∈fp
 obj: ∀i h,tn i h-> ∀b∈fp, ∃o,h.get? b=some o/\ ∀v,o.data≠ .cell v
 keep: ∀i h h',tn i h->(∀b∈fp, ∀o,h.get? b=some o->h'.get? b=some o)->tn i h'
 item: ∀(X:Cx),X.prog=P->X.w=w->X.K=K->X.calm=true-> ∀(i:Nat) (pins:List (Addr×Obj)) (s:Shared) (σ:St) (H:Hp) (E:Value->Shared->Prop),Inv X pins σ H s->(∀b∈fp,mf X pins H b)->tn i s.heap->J.go i H->
  wpAny (model P w) X.A (pyNext (.ref it)) (fun r s1=> ∃u,r=some u/\
   wpAny (model P w) X.A (letOwnedTupleGo tg (.ref it) u) (fun _ s2=> ∃x H',Inv X pins σ H' s2/\RelV x u/\J.D6 i H x H'/\tn (i+1) s2.heap/\ ∀b∈fp,H' b=none) E s1) E s
 done: ∀(X:Cx),X.prog=P->X.w=w->X.K=K->X.calm=true-> ∀(i:Nat) (pins:List (Addr×Obj)) (s:Shared) (σ:St) (H:Hp) (E:Value->Shared->Prop),Inv X pins σ H s->(∀b∈fp,mf X pins H b)->tn i s.heap->J.stop i H->
  wpAny (model P w) X.A (pyNext (.ref it)) (fun r s1=>r=none/\Inv X pins σ H s1) E s
 self: ∀(A:Around) (i:Nat) (s:Shared) (Q:Value->Shared->Prop) (E:Value->Shared->Prop),tn i s.heap->Q (.ref it) s->wpAny (model P w) A (pyIter (.ref it)) Q E s
abbrev TI:=St->Hp->(It->Hp->Prop)->Prop
def Rm (X:Cx) (pins:List (Addr×Obj)) (σ:St) (tg:Expr) (R:It->Hp->Prop) (OC:Value) (s2:Shared):Prop:=
 ∃(it:Addr) (fp:List Addr) (tn:Nat->Heap->Prop) (J:It) (H':Hp),OC= .ref it/\Inv X pins σ H' s2/\Turn X.prog X.w X.K tg J fp it tn/\tn 0 s2.heap/\(∀b∈fp,mf X pins H' b)/\R J H'
def PI (X:Cx) (tg iter:Expr) (wi:TI):Prop:=
 ∀(pins:List (Addr×Obj)) (s:Shared) (σ:St) (H:Hp) (R:It->Hp->Prop),Inv X pins σ H s->wi σ H R->
  wpAny (model X.prog X.w) X.A (eval iter X.env) (fun v s1=>wpAny (model X.prog X.w) X.A (pyIter v) (Rm X pins σ tg R) X.xe s1) X.xe s
theorem tN {M:Model} {A:Around} {E:Value->Shared->Prop} {s:Shared} {tg:Expr} {it:Addr} {u:Value} {o:Obj} {n:String} {vs:Array Value} {Q:Unit->Shared->Prop} (ho:s.heap.get? it=some o) (hc:o.cls= .type n) (hd:o.data= .fields vs)
  (hn:["enumerate","zip","dict_itemiterator","dict_reverseitemiterator","odict_iterator","itertools.zip_longest","itertools.pairwise"].contains n=false) (hQ:Q () s):wpAny M A (letOwnedTupleGo tg (.ref it) u) Q E s:=by
 unfold letOwnedTupleGo
 cases tg<;>first
  | exact wpAny_pure hQ
  |(cases u<;>first
    | exact wpAny_pure hQ
    |(refine wpAny_bind (wpAny_load ho ?_)
      rw[hc,hd]
      show wpAny M A (if (["enumerate","zip","dict_itemiterator","dict_reverseitemiterator","odict_iterator","itertools.zip_longest","itertools.pairwise"].contains n&&vs[0]? ==some (rawInt _))=true then _ else _) Q E s
      rw[if_neg (by intro h;rw[hn,Bool.false_and]at h;cases h)]
      exact wpAny_pure hQ))
noncomputable def Jw (K:PySem.W.Frag) (a:Addr):It:=
 ⟨fun i H=> ∃xs x,a_ K H a xs/\xs[i]? =some x,fun i H x H'=>H'=H/\ ∀xs,a_ K H a xs->xs[i]? =some x,fun i H=> ∃xs,a_ K H a xs/\xs.length<=i⟩
noncomputable def OD (K:PySem.W.Frag) (a:Addr):It:=
 ⟨fun i H=> ∃xs x,me K H a xs/\xs[i]? =some x,fun i H x H'=>H'=H/\ ∀xs,me K H a xs->xs[i]? =some x,fun i H=> ∃xs,me K H a xs/\xs.length<=i⟩
noncomputable def FX (lo:Int) (n:Nat):It:=⟨fun i _=>i<n,fun i H x H'=>H'=H/\x= .int (lo+i),fun i _=>n<=i⟩
theorem yY {P:Program} {w:World} {K:PySem.W.Frag} {tg:Expr} (a it:Addr):Turn P w K tg (Jw K a) [it] it (fun i h=>h.IsListIter it a i) where
 mem:=by simp
 obj:=fun i h st b hb=>by
  have e:b=it:=by simpa using hb
  subst e
  obtain ⟨o,e,c,d⟩:=st
  exact ⟨o,e,fun v z=>by rw[d]at z;cases z⟩
 keep:=fun i h h' st k=>st.at fun o e=>k it (by simp) o e
 item:=by
  intro X hP hw hK hc i pins s σ H E I hf st hg
  subst hP hw hK
  obtain ⟨xs,x,hq,hx⟩:=hg
  obtain ⟨aF,rv,p,hz⟩:=I.list hq
  obtain ⟨u,hu,ru⟩:=rv.get hx
  obtain ⟨f0,f1,f2,f3,f4,f5⟩:=hf it (by simp)
  refine wpAny_pyNext_list_item st p.isList (x:=u) (by simpa using hu) fun h' aL sb=>?_
  have I1:Inv X pins σ H { s with heap:=h' }:=I.turned (t':=s.toks) (fun b o hb e=>(sb.2 b hb).trans e) f0 f1 f3 f4 f5
  obtain ⟨o,e,c,d⟩:=id aL
  exact ⟨u,rfl,tN (s:={ s with heap:=h' }) e c d (by decide) ⟨x,H,I1,ru,⟨rfl,fun ys hy=>by rw[I.tL hy hq];exact hx⟩,aL,fun b hb=>(hf b hb).1⟩⟩
 done:=by
  intro X hP hw hK hc i pins s σ H E I hf st hg
  subst hP hw hK
  obtain ⟨xs,hq,hx⟩:=hg
  obtain ⟨aF,rv,p,hz⟩:=I.list hq
  obtain ⟨f0,f1,f2,f3,f4,f5⟩:=hf it (by simp)
  have hl:=rv.length
  exact wpAny_pyNext_list_end (I.ok.hd hc) st p.isList (by simp;lia) fun h' eb=>⟨rfl,I.turned (t':=s.toks) (fun b o hb e=>eb b o hb e) f0 f1 f3 f4 f5⟩
 self:=fun _ _ _ _ _ st h=>wpAny_pyIter_listiter st h
theorem vJ {P:Program} {w:World} {K:PySem.W.Frag} {tg:Expr} (a it:Addr):Turn P w K tg (OD K a) [it] it (fun i h=>h.IsTupleIter it a i) where
 mem:=by simp
 obj:=fun i h st b hb=>by
  have e:b=it:=by simpa using hb
  subst e
  obtain ⟨o,e,c,d⟩:=st
  exact ⟨o,e,fun v z=>by rw[d]at z;cases z⟩
 keep:=fun i h h' st k=>st.at fun o e=>k it (by simp) o e
 item:=by
  intro X hP hw hK hc i pins s σ H E I hf st hg
  subst hP hw hK
  obtain ⟨xs,x,hq,hx⟩:=hg
  obtain ⟨aF,rv,p,hz⟩:=I.tuple hq
  obtain ⟨u,hu,ru⟩:=rv.get hx
  obtain ⟨f0,f1,f2,f3,f4,f5⟩:=hf it (by simp)
  refine wpAny_pyNext_tuple_item st (show s.heap.IsTuple a aF.toArray from p) (x:=u) (by simpa using hu) fun h' aL sb=>?_
  have I1:Inv X pins σ H { s with heap:=h' }:=I.turned (t':=s.toks) (fun b o hb e=>(sb.2 b hb).trans e) f0 f1 f3 f4 f5
  obtain ⟨o,e,c,d⟩:=id aL
  exact ⟨u,rfl,tN (s:={ s with heap:=h' }) e c d (by decide) ⟨x,H,I1,ru,⟨rfl,fun ys hy=>by rw[I.yX hy hq];exact hx⟩,aL,fun b hb=>(hf b hb).1⟩⟩
 done:=by
  intro X hP hw hK hc i pins s σ H E I hf st hg
  subst hP hw hK
  obtain ⟨xs,hq,hx⟩:=hg
  obtain ⟨aF,rv,p,hz⟩:=I.tuple hq
  obtain ⟨f0,f1,f2,f3,f4,f5⟩:=hf it (by simp)
  have hl:=rv.length
  exact wpAny_pyNext_tuple_end (I.ok.hd hc) st (show s.heap.IsTuple a aF.toArray from p) (by simp;lia) fun h' eb=>⟨rfl,I.turned (t':=s.toks) (fun b o hb e=>eb b o hb e) f0 f1 f3 f4 f5⟩
 self:=fun _ _ _ _ _ st h=>wpAny_pyIter_tupleiter st h
theorem vK {P:Program} {w:World} {K:PySem.W.Frag} {tg:Expr} (it:Addr) (lo:Int) (n:Nat):Turn P w K tg (FX lo n) [it] it (fun i h=>IsRangeIter h it (lo+(i:Nat)*1) ((n:Int) - (i:Nat)) 1) where
 mem:=by simp
 obj:=fun i h st b hb=>by
  have e:b=it:=by simpa using hb
  subst e
  exact ⟨_,st,fun v z=>by
   have z':Data.fields _=Data.cell v:=z
   cases z'⟩
 keep:=fun i h h' st k=>k it (by simp) _ st
 item:=by
  intro X hP hw hK hc i pins s σ H E I hf st hg
  subst hP hw hK
  obtain ⟨f0,f1,f2,f3,f4,f5⟩:=hf it (by simp)
  have W:=Walks.range (prog:=X.prog) (w:=X.w) (I.ok.hd hc) it lo 1 n
  refine W.item i s _ _ hg st fun v h' tk hv aL kk=>?_
  obtain ⟨t,rfl⟩:=hv
  have I1:Inv X pins σ H { s with heap:=h',toks:=tk }:=I.turned (fun b o hb e=>kk b o (by simpa using hb) e) f0 f1 f3 f4 f5
  refine ⟨_,rfl,tN (s:={ s with heap:=h',toks:=tk }) (n:="range_iterator") aL rfl rfl (by decide) ⟨.int (lo+i),H,I1,⟨t,?_⟩,⟨rfl,rfl⟩,aL,fun b hb=>(hf b hb).1⟩⟩
  rw[Int.mul_one]
 done:=by
  intro X hP hw hK hc i pins s σ H E I hf st hg
  subst hP hw hK
  obtain ⟨f0,f1,f2,f3,f4,f5⟩:=hf it (by simp)
  exact wpAny_pyNext_range_end (I.ok.hd hc) st (by have:n<=i:=hg;lia) fun h' eb=>⟨rfl,I.turned (t':=s.toks) (fun b o hb e=>eb b o hb e) f0 f1 f3 f4 f5⟩
 self:=fun _ _ _ _ _ st h=>wpAny_pyIter_rangeiter st h
section
variable {X:Cx} {tg:Expr}
def FY (K:PySem.W.Frag) (tl:TE):TI:=fun σ H R=>tl σ H fun x H1=> ∃a,x= .ref a/\(∃xs,a_ K H1 a xs)/\R (Jw K a) H1
def La (K:PySem.W.Frag) (tl:TE):TI:=fun σ H R=>tl σ H fun x H1=> ∃a,x= .ref a/\(∃xs,me K H1 a xs)/\R (OD K a) H1
theorem D7 {l:Expr} {tl:TE} (hl:PE X l tl):PI X tg l (FY X.K tl):=by
 intro pins s σ H R I h
 refine cg (hl pins s σ H _ I h) fun v s1 ⟨x,H1,I1,r1,q1⟩=>?_
 obtain ⟨a,e,⟨xs,hq⟩,q⟩:=q1
 subst e
 cases r1
 obtain ⟨aF,rv,p,hz⟩:=I1.list hq
 refine wpAny_pyIter_list p.isList ?_
 refine ⟨s1.heap.objs.size,[s1.heap.objs.size],_,_,H1,rfl,I1.kept (t':=s1.toks) fun b o e=>Rw _ e,yY a _,⟨_,Xr _ rfl,rfl,rfl⟩,fun b hb=>?_,q⟩
 have e:b=s1.heap.objs.size:=by simpa using hb
 subst e
 exact I1.rh (Rv _) (I1.bN.fresh (Rv _))
theorem Hb {l:Expr} {tl:TE} (hl:PE X l tl):PI X tg l (La X.K tl):=by
 intro pins s σ H R I h
 refine cg (hl pins s σ H _ I h) fun v s1 ⟨x,H1,I1,r1,q1⟩=>?_
 obtain ⟨a,e,⟨xs,hq⟩,q⟩:=q1
 subst e
 cases r1
 obtain ⟨aF,rv,p,hz⟩:=I1.tuple hq
 refine wpAny_pyIter_tuple (show s1.heap.IsTuple a aF.toArray from p) ?_
 refine ⟨s1.heap.objs.size,[s1.heap.objs.size],_,_,H1,rfl,I1.kept (t':=s1.toks) fun b o e=>Rw _ e,vJ a _,⟨_,Xr _ rfl,rfl,rfl⟩,fun b hb=>?_,q⟩
 have e:b=s1.heap.objs.size:=by simpa using hb
 subst e
 exact I1.rh (Rv _) (I1.bN.fresh (Rv _))
theorem tO {pins:List (Addr×Obj)} {σ:St} {H:Hp} {s:Shared} {R:It->Hp->Prop} {E:Value->Shared->Prop} {lo hi:Int} {t u v:Tok} {tk:Nat} (I:Inv X pins σ H s) (h1: -(2 ^ 62)<=lo) (h2:lo<2 ^ 62) (h3: -(2 ^ 62)<=hi) (h4:hi<2 ^ 62)
  (q:R (FX lo (hi - lo).toNat) H):wpAny (model X.prog X.w) X.A (pyIter (.ref s.heap.objs.size)) (Rm X pins σ tg R) E { s with heap:=s.heap.push { cls:= .type "range",data:= .fields #[.int lo t, .int hi u, .int 1 v] },toks:=tk }:=by
 refine wpAny_pyIter_range (IsRange.new ..) (small_one h1 h2 h3 h4) ?_
 have I1:Inv X pins σ H { s with heap:=s.heap.push { cls:= .type "range",data:= .fields #[.int lo t, .int hi u, .int 1 v] },toks:=tk }:=I.kept fun b o e=>Rw _ e
 refine ⟨(s.heap.push { cls:= .type "range",data:= .fields #[.int lo t, .int hi u, .int 1 v] }).objs.size,[(s.heap.push { cls:= .type "range",data:= .fields #[.int lo t, .int hi u, .int 1 v] }).objs.size],_,_,H,rfl,
  I1.kept (t':=tk) fun b o e=>Rw _ e,vK _ lo (hi - lo).toNat,?_,fun b hb=>?_,q⟩
 ·have e1:lo+((0:Nat):Int)*1=lo:=by simp
  have e2:(((hi - lo).toNat:Nat):Int) - ((0:Nat):Int)=Builtin.Range.rangeSize lo hi 1:=by rw[rangeSize_one];split<;>lia
  show IsRangeIter _ _ (lo+((0:Nat):Int)*1) ((((hi - lo).toNat:Nat):Int) - ((0:Nat):Int)) 1
  rw[e1,e2]
  exact Xr _ rfl
 ·have e:b=(s.heap.push { cls:= .type "range",data:= .fields #[.int lo t, .int hi u, .int 1 v] }).objs.size:=by simpa using hb
  subst e
  exact I1.rh (Rv _) (I1.bN.fresh (Rv _))
def Lb (ta:TA):TI:=fun σ H R=>ta σ H fun vs H1=> ∃j:Int,vs=[.int j]/\ -(2 ^ 62)<=j/\j<2 ^ 62/\R (FX 0 j.toNat) H1
def Lc (ta:TA):TI:=fun σ H R=>ta σ H fun vs H1=> ∃i j:Int,vs=[.int i, .int j]/\(-(2 ^ 62)<=i/\i<2 ^ 62/\ -(2 ^ 62)<=j/\j<2 ^ 62)/\R (FX i (j - i).toNat) H1
theorem fN {a:Expr} {ta:TA} {p pos:Pos} (hg:Gl X "range") (hm:X.mg "range"=none) (ha:PA X [a] ta) (hs:starEach [a] X.env=[(false,eval a X.env)]:=by rfl):PI X tg (.Call (.Name "range" p) [a] [] pos) (Lb ta):=by
 intro pins s σ H R I h
 refine Call_ (fH I hg hm boot_range (Yj (cg (ha pos pins s σ H _ I h) fun us s1 ⟨vs,H1,I1,r1,q1⟩=>?_) hs rfl))
 obtain ⟨j,e,q1,q2,q⟩:=q1
 subst e
 cases r1 with
 | cons r rr=>
  cases rr
  obtain ⟨t,rfl⟩:=r
  exact call_range_1 (tO I1 (by lia) (by lia) q1 q2 (by simpa using q))
theorem kD {a b:Expr} {ta:TA} {p pos:Pos} (hg:Gl X "range") (hm:X.mg "range"=none) (ha:PA X [a,b] ta) (hs:starEach [a,b] X.env=[(false,eval a X.env),(false,eval b X.env)]:=by rfl) (Ld:starEach [b] X.env=[(false,eval b X.env)]:=by rfl):
  PI X tg (.Call (.Name "range" p) [a,b] [] pos) (Lc ta):=by
 intro pins s σ H R I h
 refine Call_ (fH I hg hm boot_range (Yj (cg (ha pos pins s σ H _ I h) fun us s1 ⟨vs,H1,I1,r1,q1⟩=>?_) (by rw[hs,Ld]) (by rw[Ld];rfl)))
 obtain ⟨i,j,e,⟨q1,q2,q3,q4⟩,q⟩:=q1
 subst e
 cases r1 with
 | cons r rr=>
  cases rr with
  | cons r' rr=>
   cases rr
   obtain ⟨t,rfl⟩:=r
   obtain ⟨t',rfl⟩:=r'
   exact call_range_2 (tO I1 q1 q2 q3 q4 q)
def OE (wi:TI) (g:TG) (tb:TS):TS:=fun D σ H=>wi σ H fun J H1=> ∃W:Nat->Nat->St->Hp->Prop,(∃m,W 0 m σ H1)/\ ∀i m σ H,W i m σ H->(J.stop i H/\D.nx σ H)\/(J.go i H/\ ∃N:St->Hp->Prop,(∀σ' H',N σ' H'-> ∃m',m'<m/\W (i+1) m' σ' H')/\ ∀x H',J.D6 i H x H'->g x σ H' fun σ2 H2=>tb { D with nx:=N,ct:=N,bk:=D.nx } σ2 H2)
noncomputable def mS (fp:List Addr) (h:Heap):List (Addr×Obj):=fp.filterMap fun b=>(h.get? b).map fun o=>(b,o)
theorem gk {fp:List Addr} {h:Heap} {b:Addr} {o:Obj} (hb:b∈fp) (e:h.get? b=some o):(b,o)∈mS fp h:=List.mem_filterMap.mpr ⟨b,hb,by rw[e];rfl⟩
theorem yZ {fp:List Addr} {h:Heap} {p:Addr×Obj} (hp:p∈mS fp h):p.1∈fp/\h.get? p.1=some p.2:=by
 obtain ⟨b,hb,e⟩:=List.mem_filterMap.mp hp
 cases q:h.get? b with
 | none=>rw[q]at e;cases e
 | some o=>
  rw[q]at e
  have e':(b,o)=p:=WK e
  subst e'
  exact ⟨hb,q⟩
theorem Inv.pinned {pins:List (Addr×Obj)} {σ:St} {H:Hp} {s:Shared} {fp:List Addr} (I:Inv X pins σ H s) (hf: ∀b∈fp,mf X pins H b) (ho: ∀b∈fp, ∃o,s.heap.get? b=some o/\ ∀v,o.data≠ .cell v):Inv X (pins++mS fp s.heap) σ H s:=
 I.eL fun p hp=>(T3.mp hp).elim (fun z=>I.pin p (T6 _ z)) fun z=>by
  obtain ⟨hb,e⟩:=yZ z
  obtain ⟨f0,f1,f2,_⟩:=hf p.1 hb
  obtain ⟨o,e',d⟩:=ho p.1 hb
  rw[e]at e';cases e'
  exact ⟨e,f0,f1,f2,d⟩
theorem Inv.gW {pins pl:List (Addr×Obj)} {σ:St} {H:Hp} {s:Shared} (I:Inv X (pins++pl) σ H s):Inv X pins σ H s:=I.eL fun p hp=>I.pin p (T6 _ (Xx _ hp))
theorem dz {iter:Expr} {body:List Stmt} {wi:TI} {g:TG} {tb:TS} {pos:Pos} (hp:PassesOwn (model X.prog X.w) X.A X.env X.xe) (hc:X.calm=true) (hi:PI X tg iter wi) (hg:PG X tg g) (hb:vv X body tb)
  (hs: ∀x,foldedSetIterable iter X.env x=pure x:=by intro _;rfl):PS X (.For tg iter body [] pos) (OE wi g tb):=by
 intro pins s σ H D I h
 refine wpAny_For (cg (hi pins s σ H _ I h) fun v s1 h1=>cg h1 fun OC s2 h2=>?_) hs
 obtain ⟨it,fp,tn,J,H2,e,I2,T,kq,f2,W,⟨m0,w0⟩,turn⟩:=h2
 subst e
 -- OF stays true of Hc Hd objects through Hc loop
 have He: ∀{H':Hp},(∀b∈fp,H' b=none)-> ∀b∈fp,mf X pins H' b:=fun hn b hb=>⟨hn b hb,(f2 b hb).2⟩
 refine codeAny_forLoop_any (fun n s'=> ∃i σ' H',Inv X pins σ' H' s'/\tn i s'.heap/\(∀b∈fp,H' b=none)/\W i n σ' H') ?_ m0 ⟨0,σ,H2,I2,kq,fun b hb=>(f2 b hb).1,w0⟩
 rintro n s3 ⟨i,σ3,H3,I3,vz,Le,w3⟩
 rcases turn i n σ3 H3 w3 with ⟨stop,qn⟩ | ⟨go,N,hN,step⟩
 ·refine wpAny_passesOwn hp (cg (T.done X rfl rfl rfl hc i pins s3 σ3 H3 X.xe I3 (He Le) vz stop) fun r s4 ⟨hr,I4⟩=>?_)
  subst hr
  exact wpAny_execs_nil ⟨σ3,H3,I4,qn⟩
 ·refine wpAny_passesOwn hp (cg (T.item X rfl rfl rfl hc i pins s3 σ3 H3 X.xe I3 (He Le) vz go) fun r s4 ⟨u,hr,h4⟩=>?_)
  subst hr
  refine wpAny_passesOwn hp (cg h4 fun _ s5 ⟨x,H5,I5,r5,y5,ku,OG⟩=>?_)
  have OH:=I5.pinned (He OG) (T.obj _ _ ku)
  refine wpAny_passesOwn hp (cg (hg _ s5 σ3 H5 x u _ OH r5 (step x H5 y5)) fun _ s6 ⟨σ6,H6,I6,q6⟩=>?_)
  refine wpAny_passesOwn hp (cg (hb _ s6 σ6 H6 _ I6 q6) fun f s7 q7=>?_)
  have again: ∀{σ7:St} {H7:Hp},Inv X (pins++mS fp s5.heap) σ7 H7 s7->N σ7 H7-> ∃m,m<n/\ ∃i σ' H',Inv X pins σ' H' s7/\tn i s7.heap/\(∀b∈fp,H' b=none)/\W i m σ' H':=fun {σ7 H7} I7 n7=>by
   obtain ⟨m',hm,w7⟩:=hN σ7 H7 n7
   refine ⟨m',hm,i+1,σ7,H7,I7.gW,T.keep _ _ _ ku fun b hb o e=>(I7.pin (b,o) (T6 _ (T6 _ (gk hb e)))).1,fun b hb=>?_,w7⟩
   obtain ⟨o,e,d⟩:=T.obj _ _ ku b hb
   exact (I7.pin (b,o) (T6 _ (T6 _ (gk hb e)))).2.1
  cases f with
  | next=>obtain ⟨σ7,H7,I7,n7⟩:=q7;exact again I7 n7
  | cont=>obtain ⟨σ7,H7,I7,n7⟩:=q7;exact again I7 n7
  | brk=>obtain ⟨σ7,H7,I7,q7⟩:=q7;exact ⟨σ7,H7,I7.gW,q7⟩
  | ret v=>obtain ⟨x7,σ7,H7,I7,r7,q7⟩:=q7;exact ⟨x7,σ7,H7,I7.gW,r7,q7⟩
end
theorem tP {K:PySem.W.Frag} {a:Addr} {xs:List V} {g:TG} {tb:TS} {D:Ends} {σ:St} {H:Hp} (Pv:Nat->St->Hp->Prop) (h0:Pv 0 σ H) (hl: ∀i σ H,i<=xs.length->Pv i σ H->a_ K H a xs)
  (hs: ∀i x σ H,xs[i]? =some x->Pv i σ H->g x σ H fun σ2 H2=>tb { D with nx:=Pv (i+1),ct:=Pv (i+1),bk:=D.nx } σ2 H2) (hd: ∀σ H,Pv xs.length σ H->D.nx σ H):
  ∃W:Nat->Nat->St->Hp->Prop,(∃m,W 0 m σ H)/\ ∀i m σ H,W i m σ H->
   ((Jw K a).stop i H/\D.nx σ H)\/((Jw K a).go i H/\ ∃N:St->Hp->Prop,(∀σ' H',N σ' H'-> ∃m',m'<m/\W (i+1) m' σ' H')/\ ∀x H',(Jw K a).D6 i H x H'->g x σ H' fun σ2 H2=>tb { D with nx:=N,ct:=N,bk:=D.nx } σ2 H2):=by
 refine ⟨fun i m σ H=>m=xs.length - i/\i<=xs.length/\Pv i σ H,⟨xs.length,by simp,XI _,h0⟩,?_⟩
 rintro i m σ H ⟨rfl,hi,p⟩
 have q:=hl i σ H hi p
 by_cases cj:i<xs.length
 ·refine .inr ⟨⟨xs,xs[i],q,by simp[cj]⟩,Pv (i+1),fun σ' H' p'=>⟨xs.length - (i+1),by lia,rfl,cj,p'⟩,fun x H' y=>?_⟩
  obtain ⟨e,y⟩:=y
  subst e
  exact hs i x σ _ (y xs q) p
 ·have e:i=xs.length:=by lia
  subst e
  exact .inl ⟨⟨xs,q,Rv _⟩,hd σ H p⟩
theorem eR {lo:Int} {n:Nat} {g:TG} {tb:TS} {D:Ends} {σ:St} {H:Hp} (Pv:Nat->St->Hp->Prop) (h0:Pv 0 σ H)
  (hs: ∀i σ H,i<n->Pv i σ H->g (.int (lo+i)) σ H fun σ2 H2=>tb { D with nx:=Pv (i+1),ct:=Pv (i+1),bk:=D.nx } σ2 H2) (hd: ∀σ H,Pv n σ H->D.nx σ H):
  ∃W:Nat->Nat->St->Hp->Prop,(∃m,W 0 m σ H)/\ ∀i m σ H,W i m σ H->
   ((FX lo n).stop i H/\D.nx σ H)\/((FX lo n).go i H/\ ∃N:St->Hp->Prop,(∀σ' H',N σ' H'-> ∃m',m'<m/\W (i+1) m' σ' H')/\ ∀x H',(FX lo n).D6 i H x H'->g x σ H' fun σ2 H2=>tb { D with nx:=N,ct:=N,bk:=D.nx } σ2 H2):=by
 refine ⟨fun i m σ H=>m=n - i/\i<=n/\Pv i σ H,⟨n,by simp,XI _,h0⟩,?_⟩
 rintro i m σ H ⟨rfl,hi,p⟩
 by_cases cj:i<n
 ·refine .inr ⟨cj,Pv (i+1),fun σ' H' p'=>⟨n - (i+1),by lia,rfl,cj,p'⟩,fun x H' y=>?_⟩
  obtain ⟨e,y⟩:=y
  subst e y
  exact hs i σ _ cj p
 ·have e:i=n:=by lia
  subst e
  exact .inl ⟨Rv _,hd σ H p⟩
abbrev R2:=V->V->Hp->VK->Prop
def gM (X:Cx) (f:Value->Value->Sem Value) (r:R2):Prop:=
 ∀(pins:List (Addr×Obj)) (s:Shared) (σ:St) (H:Hp) (x y:V) (v u:Value) (Q:VK),Inv X pins σ H s->RelV x v->RelV y u->r x y H Q->
  wpAny (model X.prog X.w) X.A (f v u) (EP X pins σ Q) X.xe s
def OI (X:Cx) (f:Value->Sem Value) (r:V->Hp->VK->Prop):Prop:=
 ∀(pins:List (Addr×Obj)) (s:Shared) (σ:St) (H:Hp) (x:V) (v:Value) (Q:VK),Inv X pins σ H s->RelV x v->r x H Q->
  wpAny (model X.prog X.w) X.A (f v) (EP X pins σ Q) X.xe s
def cZ (X:Cx) (f:Value) (r:List V->Hp->VK->Prop):Prop:=
 ∀(pins:List (Addr×Obj)) (s:Shared) (σ:St) (H:Hp) (xs:List V) (us:List Value) (Q:VK),Inv X pins σ H s->Vals xs us->r xs H Q->
  wpAny (model X.prog X.w) X.A (call f us) (EP X pins σ Q) X.xe s
def OJ (X:Cx) (r:V->Hp->(Bool->Hp->Prop)->Prop):Prop:=
 ∀(pins:List (Addr×Obj)) (s:Shared) (σ:St) (H:Hp) (x:V) (v:Value) (Q:Bool->Hp->Prop),Inv X pins σ H s->RelV x v->r x H Q->
  wpAny (model X.prog X.w) X.A (truthy v) (TP X pins σ Q) X.xe s
def Nu (r:R2) (ta tb:TE):TE:=fun σ H Q=>ta σ H fun x H1=>tb σ H1 fun y H2=>r x y H2 Q
def TQ (r:V->Hp->VK->Prop) (ta:TE):TE:=fun σ H Q=>ta σ H fun x H1=>r x H1 Q
def rI (C:Int->Int->Prop) (g:Int->Int->V):R2:=fun x y H Q=>I2 x y H fun i j H=>C i j/\Q (g i j) H
def D8 (g:Int->Int->V):R2:=fun x y H Q=>I2 x y H fun i j H=>Q (g i j) H
def rU (g:Int->V):V->Hp->VK->Prop:=fun x H Q=> ∃i,x= .int i/\Q (g i) H
section
variable {X:Cx} {a b c:Expr} {ta tb tc:TE} {pos:Pos}
theorem Hf (ha:PE X a ta) (hb:PE X b tb) {pins:List (Addr×Obj)} {s:Shared} {σ:St} {H:Hp} {R:V->V->Hp->Prop} (I:Inv X pins σ H s)
  (h:ta σ H fun x H1=>tb σ H1 fun y H2=>R x y H2) {Q:Value->Shared->Prop} {f:Value->Value->Sem Value}
  (hf: ∀v u s2 x y H2,Inv X pins σ H2 s2->RelV x v->RelV y u->R x y H2->wpAny (model X.prog X.w) X.A (f v u) Q X.xe s2):
  wpAny (model X.prog X.w) X.A (eval a X.env) (fun v s₁=>wpAny (model X.prog X.w) X.A (eval b X.env) (fun u s₂=>wpAny (model X.prog X.w) X.A (f v u) Q X.xe s₂) X.xe s₁) X.xe s:=by
 refine cg (ha pins s σ H _ I h) fun v s1 ⟨x,H1,I1,r1,q1⟩=>?_
 refine cg (hb pins s1 σ H1 _ I1 q1) fun u s2 ⟨y,H2,I2,r2,q2⟩=>?_
 exact hf v u s2 x y H2 I2 r1 r2 q2
theorem aC {op:Operator} {r:R2} (ho:gM X (binaryOp op) r) (ha:PE X a ta) (hb:PE X b tb):PE X (.BinOp a op b pos) (Nu r ta tb):=by
 intro pins s σ H Q I h
 exact wpAny_BinOp (Hf ha hb I h fun v u s2 x y H2 I2 rx ry q=>ho pins s2 σ H2 x y v u Q I2 rx ry q)
theorem mT {op:UnaryOp} {r:V->Hp->VK->Prop} (ho:OI X (unaryOp op) r) (ha:PE X a ta):PE X (.UnaryOp op a pos) (TQ r ta):=by
 intro pins s σ H Q I h
 exact UnaryOp_ (cg (ha pins s σ H _ I h) fun v s1 ⟨x,H1,I1,r1,q1⟩=>ho pins s1 σ H1 x v Q I1 r1 q1)
theorem Nv {f:Value->Value->Sem Value} {C:Int->Int->Prop} {g:Int->Int->Int}
  (rule: ∀(i j:Int) (t u:Tok) (s:Shared) (Q:Value->Shared->Prop) (E:Value->Shared->Prop),C i j->Q (.int (g i j) s.toks) { s with toks:=s.toks+1 }->wpAny (model X.prog X.w) X.A (f (.int i t) (.int j u)) Q E s):
  gM X f (rI C fun i j=> .int (g i j)):=by
 intro pins s σ H x y v u Q I rx ry h
 obtain ⟨i,j,rfl,rfl,hc,q⟩:=h
 obtain ⟨t,rfl⟩:=rx
 obtain ⟨t',rfl⟩:=ry
 exact rule i j t t' s _ _ hc ⟨.int (g i j),H,I.tok _,⟨_,rfl⟩,q⟩
theorem Lf {f:Value->Value->Sem Value} {g:Int->Int->Int}
  (rule: ∀(i j:Int) (t u:Tok) (s:Shared) (Q:Value->Shared->Prop) (E:Value->Shared->Prop),Q (.int (g i j) s.toks) { s with toks:=s.toks+1 }->wpAny (model X.prog X.w) X.A (f (.int i t) (.int j u)) Q E s):
  gM X f (D8 fun i j=> .int (g i j)):=by
 intro pins s σ H x y v u Q I rx ry h
 obtain ⟨i,j,rfl,rfl,q⟩:=h
 obtain ⟨t,rfl⟩:=rx
 obtain ⟨t',rfl⟩:=ry
 exact rule i j t t' s _ _ ⟨.int (g i j),H,I.tok _,⟨_,rfl⟩,q⟩
theorem Hg {f:Value->Value->Sem Value} {g:Int->Int->Bool}
  (rule: ∀(i j:Int) (t u:Tok) (s:Shared) (Q:Value->Shared->Prop) (E:Value->Shared->Prop),Q (.bool (g i j)) s->wpAny (model X.prog X.w) X.A (f (.int i t) (.int j u)) Q E s):
  gM X f (D8 fun i j=> .bl (g i j)):=by
 intro pins s σ H x y v u Q I rx ry h
 obtain ⟨i,j,rfl,rfl,q⟩:=h
 obtain ⟨t,rfl⟩:=rx
 obtain ⟨t',rfl⟩:=ry
 exact rule i j t t' s _ _ ⟨.bl (g i j),H,I,rfl,q⟩
def OK (i j:Int):Prop:=0<=j/\j<=1000000/\i.natAbs<2 ^ 64
def Hh (i j:Int):Prop:=(-(2 ^ 64)<i/\i<2 ^ 64)\/(-(2 ^ 64)<j/\j<2 ^ 64)
theorem Hh.ok {i j:Int} (h:Hh i j):IntMulOk i j:=by
 rcases h with ⟨h1,h2⟩ | ⟨h1,h2⟩
 ·exact .of_left (intBits_le_64 h1 h2)
 ·exact .of_right (intBits_le_64 h1 h2)
theorem bP:gM X (binaryOp .Add) (D8 fun i j=> .int (i+j)):=Lf fun _ _ _ _ _ _ _ q=>add_int q
theorem c_:gM X (binaryOp .Sub) (D8 fun i j=> .int (i - j)):=Lf fun _ _ _ _ _ _ _ q=>sub_int q
theorem gX:gM X (binaryOp .Mult) (rI Hh fun i j=> .int (i*j)):=Nv fun _ _ _ _ _ _ _ hc q=>mul_int q hc.ok
theorem dA:gM X (binaryOp .Mod) (rI (fun _ j=>0<j) fun i j=> .int (i%j)):=Nv fun i j _ _ _ _ _ hc q=>by
 have h1:(0:Int)<j:=hc
 exact mod_int' (by lia) (by rw[Int.fmod_eq_emod_of_nonneg i (by lia)];exact q)
theorem AX:gM X (binaryOp .Pow) (rI OK fun i j=> .int (i ^ j.toNat)):=Nv fun _ _ _ _ _ _ _ hc q=>pow_int_small hc.1 hc.2.1 hc.2.2 q
theorem TR {f:Value->Sem Value} {g:Int->Int}
  (rule: ∀(i:Int) (t:Tok) (s:Shared) (Q:Value->Shared->Prop) (E:Value->Shared->Prop),Q (.int (g i) s.toks) { s with toks:=s.toks+1 }->wpAny (model X.prog X.w) X.A (f (.int i t)) Q E s):
  OI X f (rU fun i=> .int (g i)):=by
 intro pins s σ H x v Q I rx h
 obtain ⟨i,rfl,q⟩:=h
 obtain ⟨t,rfl⟩:=rx
 exact rule i t s _ _ ⟨.int (g i),H,I.tok _,⟨_,rfl⟩,q⟩
theorem jk:OI X (unaryOp .USub) (rU fun i=> .int (-i)):=TR fun _ _ _ _ _ q=>neg_int q
end
noncomputable def Lg:V->V->Bool
 | .eK, .eK=>true | .eK, .int _=>true | .int _, .eK=>true | .eK, .bl _=>true | .bl _, .eK=>true | .eK, .str _=>true | .str _, .eK=>true
 | .int _, .int _=>true | .bl _, .bl _=>true | .str _, .str _=>true | .yU _, .yU _=>true
 | .int _, .str _=>true | .str _, .int _=>true | .bl _, .str _=>true | .str _, .bl _=>true
 | _,_=>false
def TU:R2:=fun x y H Q=>Lg x y=true/\Q (.bl (decide (x=y))) H
def TV:R2:=fun x y H Q=>Lg x y=true/\Q (.bl (!decide (x=y))) H
theorem xC {i j:Int}:decide (V.int i=V.int j)=(i==j):=by
 rw[Zu]
 simp
theorem AY {i j:Bool}:decide (V.bl i=V.bl j)=(i==j):=by
 rw[Zu]
 simp
theorem xD {i j:Str}:decide (V.str i=V.str j)=(i==j):=by
 rw[Zu]
 simp
theorem xE {i j:Array UInt8}:decide (V.yU i=V.yU j)=(i.toList==j.toList):=by
 rw[Zu]
 cases i
 cases j
 simp
section
variable {X:Cx} {a b c:Expr} {ta tb tc:TE} {pos:Pos}
theorem aV {pins:List (Addr×Obj)} {σ:St} {H:Hp} {s:Shared} {Q:VK} {k k':Bool} (I:Inv X pins σ H s) (q:Q (.bl k) H) (e:k=k'):EP X pins σ Q (.bool k') s:=by
 subst e
 exact ⟨.bl k,H,I,rfl,q⟩
theorem FZ:gM X (compareOp .Eq) TU:=by
 intro pins s σ H x y v u Q I rx ry h
 obtain ⟨hs,q⟩:=h
 cases x with
 | eK=>
  cases rx
  cases y with
  | eK=>cases ry;exact PySem.EqNone.eq_none_none (aV I q (by simp))
  | bl j=>cases ry;exact PySem.EqNone.eq_none_bool (aV I q (by simp))
  | int j=>obtain ⟨t',rfl⟩:=ry;exact PySem.EqNone.eq_none_int (aV I q (by simp))
  | str j=>obtain ⟨t',rfl⟩:=ry;exact PySem.EqNone.eq_none_str (aV I q (by simp))
  | _=>exact absurd (show false=true from hs) Xm
 | bl i=>
  cases rx
  cases y with
  | eK=>cases ry;exact PySem.EqNone.eq_bool_none (aV I q (by simp))
  | bl j=>cases ry;exact eq_bool (aV I q AY)
  | str j=>obtain ⟨t',rfl⟩:=ry;exact PySem.EqMixed.eq_bool_str (aV I q (by simp))
  | _=>exact absurd (show false=true from hs) Xm
 | int i=>
  obtain ⟨t,rfl⟩:=rx
  cases y with
  | eK=>cases ry;exact PySem.EqNone.eq_int_none (aV I q (by simp))
  | int j=>obtain ⟨t',rfl⟩:=ry;exact eq_int (aV I q xC)
  | str j=>obtain ⟨t',rfl⟩:=ry;exact PySem.EqMixed.eq_int_str (aV I q (by simp))
  | _=>exact absurd (show false=true from hs) Xm
 | str i=>
  obtain ⟨t,rfl⟩:=rx
  cases y with
  | eK=>cases ry;exact PySem.EqNone.eq_str_none (aV I q (by simp))
  | bl j=>cases ry;exact PySem.EqMixed.eq_str_bool (aV I q (by simp))
  | int j=>obtain ⟨t',rfl⟩:=ry;exact PySem.EqMixed.eq_str_int (aV I q (by simp))
  | str j=>obtain ⟨t',rfl⟩:=ry;exact eq_str (aV I q xD)
  | _=>exact absurd (show false=true from hs) Xm
 | yU i=>
  obtain ⟨t,rfl⟩:=rx
  cases y with
  | yU j=>obtain ⟨t',rfl⟩:=ry;exact PySem.W.eq_bytes (aV I q xE)
  | _=>exact absurd (show false=true from hs) Xm
 | _=>cases y<;>exact absurd (show false=true from hs) Xm
theorem AZ:gM X (compareOp .NotEq) TV:=by
 intro pins s σ H x y v u Q I rx ry h
 obtain ⟨hs,q⟩:=h
 cases x with
 | eK=>
  cases rx
  cases y with
  | eK=>cases ry;exact PySem.EqNone.ne_none_none (aV I q (by simp))
  | bl j=>cases ry;exact PySem.EqNone.ne_none_bool (aV I q (by simp))
  | int j=>obtain ⟨t',rfl⟩:=ry;exact PySem.EqNone.ne_none_int (aV I q (by simp))
  | str j=>obtain ⟨t',rfl⟩:=ry;exact PySem.EqNone.ne_none_str (aV I q (by simp))
  | _=>exact absurd (show false=true from hs) Xm
 | bl i=>
  cases rx
  cases y with
  | eK=>cases ry;exact PySem.EqNone.ne_bool_none (aV I q (by simp))
  | bl j=>cases ry;exact ne_bool (aV I q (congrArg not AY))
  | str j=>obtain ⟨t',rfl⟩:=ry;exact PySem.EqMixed.ne_bool_str (aV I q (by simp))
  | _=>exact absurd (show false=true from hs) Xm
 | int i=>
  obtain ⟨t,rfl⟩:=rx
  cases y with
  | eK=>cases ry;exact PySem.EqNone.ne_int_none (aV I q (by simp))
  | int j=>obtain ⟨t',rfl⟩:=ry;exact ne_int (aV I q (congrArg not xC))
  | str j=>obtain ⟨t',rfl⟩:=ry;exact PySem.EqMixed.ne_int_str (aV I q (by simp))
  | _=>exact absurd (show false=true from hs) Xm
 | str i=>
  obtain ⟨t,rfl⟩:=rx
  cases y with
  | eK=>cases ry;exact PySem.EqNone.ne_str_none (aV I q (by simp))
  | bl j=>cases ry;exact PySem.EqMixed.ne_str_bool (aV I q (by simp))
  | int j=>obtain ⟨t',rfl⟩:=ry;exact PySem.EqMixed.ne_str_int (aV I q (by simp))
  | str j=>obtain ⟨t',rfl⟩:=ry;exact ne_str (aV I q (congrArg not xD))
  | _=>exact absurd (show false=true from hs) Xm
 | yU i=>
  obtain ⟨t,rfl⟩:=rx
  cases y with
  | yU j=>obtain ⟨t',rfl⟩:=ry;exact PySem.W.ne_bytes (aV I q (congrArg not xE))
  | _=>exact absurd (show false=true from hs) Xm
 | _=>cases y<;>exact absurd (show false=true from hs) Xm
theorem A0:gM X (compareOp .Lt) (D8 fun i j=> .bl (decide (i<j))):=Hg fun _ _ _ _ _ _ _ q=>lt_int q
theorem p7:gM X (compareOp .Gt) (D8 fun i j=> .bl (decide (j<i))):=Hg fun _ _ _ _ _ _ _ q=>gt_int q
theorem F_:gM X (compareOp .GtE) (D8 fun i j=> .bl (decide (j<=i))):=Hg fun _ _ _ _ _ _ _ q=>ge_int q
theorem y0:gM X (compareOp .Lt) (fun x y H Q=> ∃i j,x= .str i/\y= .str j/\Q (.bl (decide (i.cps.toList<j.cps.toList))) H):=by
 intro pins s σ H x y v u Q I rx ry h
 obtain ⟨i,j,rfl,rfl,q⟩:=h
 obtain ⟨t,rfl⟩:=rx
 obtain ⟨t',rfl⟩:=ry
 exact lt_str (aV I q rfl)
theorem y6:gM X (compareOp .In) (fun x y H Q=> ∃i j,x= .str i/\y= .str j/\Q (.bl (!(Builtin.Str.occurrences j i 0 j.length 1).isEmpty)) H):=by
 intro pins s σ H x y v u Q I rx ry h
 obtain ⟨i,j,rfl,rfl,q⟩:=h
 obtain ⟨t,rfl⟩:=rx
 obtain ⟨t',rfl⟩:=ry
 exact in_str (aV I q rfl)
theorem aR (b:Expr) {op:CmpOp} (h:op≠ .In:=by decide) (h2:op≠ .NotIn:=by decide):behindInMarks op b=false:=by
 have e1:(op==CmpOp.In)=false:=by cases op<;>first | rfl | exact absurd rfl h
 have e2:(op==CmpOp.NotIn)=false:=by cases op<;>first | rfl | exact absurd rfl h2
 cases b<;>simp[behindInMarks,e1,e2]
theorem gm {op:CmpOp} {r:R2} (ho:gM X (compareOp op) r) (ha:PE X a ta) (hb:PE X b tb) (hm:behindInMarks op b=false):PE X (.Compare a [op] [b] pos) (Nu r ta tb):=by
 intro pins s σ H Q I h
 exact wpAny_Compare1 (Hf ha hb I h fun v u s2 x y H2 I2 rx ry q=>ho pins s2 σ H2 x y v u Q I2 rx ry q) hm
def Lh (t:TE):TT:=fun σ H Q=>t σ H fun x H'=>IB x H' Q
theorem aM {op:CmpOp} {r:R2} (ho:gM X (compareOp op) r) (ha:PE X a ta) (hb:PE X b tb) (hm:behindInMarks op b=false):PT X (.Compare a [op] [b] pos) (Lh (Nu r ta tb)):=by
 intro pins s σ H Q I h
 refine wpAny_isTrue_Compare1 (cg (ha pins s σ H _ I h) fun v s1 ⟨x,H1,I1,r1,q1⟩=>cg (hb pins s1 σ H1 _ I1 q1) fun u s2 ⟨y,H2,I2,r2,q2⟩=>
  cg (ho pins s2 σ H2 x y v u _ I2 r1 r2 q2) fun c s3 ⟨z,H3,I3,r3,k,e,q3⟩=>?_) hm
 subst e
 cases r3
 exact wpAny_truthy_bool ⟨H3,I3,q3⟩
def OL (K:PySem.W.Frag) (x:V) (H:Hp) (k:Bool):Prop:=
 match x with
 | .eK=>k=false
 | .bl b=>k=b
 | .int i=>k=(i != 0)
 | .str y=>y.length<=sizeLine/\k=((y.length:Int) != 0)
 | .yU y=>y.size<=sizeLine/\k=((y.size:Int) != 0)
 | .ref p=>(∃xs,a_ K H p xs/\k=!xs.isEmpty)\/(∃xs,me K H p xs/\k=!xs.isEmpty)\/ ∃aJ,H p=some (.dK aJ)/\k=!aJ.isEmpty
 | _=>False
theorem vL {κ:Type} {aJ:List (κ×V)} {vs:List (κ×Value)} (r:KV aJ vs):(!vs.isEmpty)=!aJ.isEmpty:=by
 cases r<;>rfl
theorem mU {xs:List V} {aF:List Value} (r:Vals xs aF):(!aF.toArray.isEmpty)=!xs.isEmpty:=by
 cases r<;>simp
theorem gY:(sizeLine:Nat)<2 ^ 63:=by rw[sizeLine_eq];decide
theorem Hi:OJ X (fun x H Q=> ∃k,OL X.K x H k/\Q k H):=by
 intro pins s σ H x v Q I rx h
 obtain ⟨k,e,q⟩:=h
 have hl:=gY
 have hs:sizeLine=16777216:=sizeLine_eq
 cases x with
 | eK=>
  cases rx
  have e':k=false:=e
  subst e'
  exact truthy_none ⟨H,I,q⟩
 | bl b=>
  cases rx
  have e':k=b:=e
  subst e'
  exact wpAny_truthy_bool ⟨H,I,q⟩
 | int i=>
  obtain ⟨t,rfl⟩:=rx
  have e':k=(i != 0):=e
  subst e'
  exact PySem.P.truthy_int ⟨H,I,q⟩
 | str y=>
  obtain ⟨t,rfl⟩:=rx
  obtain ⟨hy,e'⟩:y.length<=sizeLine/\k=((y.length:Int) != 0):=e
  subst e'
  exact PySem.P.truthy_str (by lia) ⟨H,I.tok _,q⟩
 | yU y=>
  obtain ⟨t,rfl⟩:=rx
  obtain ⟨hy,e'⟩:y.size<=sizeLine/\k=((y.size:Int) != 0):=e
  subst e'
  exact PySem.W.truthy_bytes (by lia) ⟨H,I.tok _,q⟩
 | ref p=>
  cases rx
  have e':(∃xs,a_ X.K H p xs/\k=!xs.isEmpty)\/(∃xs,me X.K H p xs/\k=!xs.isEmpty)\/ ∃aJ,H p=some (.dK aJ)/\k=!aJ.isEmpty:=e
  rcases e' with ⟨xs,hx,e'⟩ | ⟨xs,hx,e'⟩ | ⟨aJ,hx,e'⟩
  ·subst e'
   obtain ⟨aF,r,pl,hz⟩:=I.list hx
   have hlen:=r.length
   exact wpAny_truthy_list pl.isList (by simp only[WI];lia) ⟨H,I.tok _,by rw[mU r];exact q⟩
  ·subst e'
   obtain ⟨aF,r,pl,hz⟩:=I.tuple hx
   have hlen:=r.length
   exact truthy_tuple pl (by simp only[WI];lia) ⟨H,I.tok _,by rw[mU r];exact q⟩
  ·subst e'
   obtain ⟨hz,hS,vs,r,m⟩:aJ.length<=sizeLine/\(p==sysModules)=false/\ ∃vs,KV aJ vs/\s.heap.DictOf (cz X.prog X.w) p vs:=I.bN p _ hx
   have hlen:aJ.length=vs.length:=Paired.length r
   exact wpAny_truthy_dict hS m (by lia) ⟨H,I.tok _,by rw[vL r];exact q⟩
 | _=>exact (show False from e).elim
theorem vM:gM X (binaryOp .Add) (fun x y H Q=> ∃i j,x= .str i/\y= .str j/\i.length+j.length<=sizeLine/\Q (.str (i++j)) H):=by
 intro pins s σ H x y v u Q I rx ry h
 obtain ⟨i,j,rfl,rfl,hz,q⟩:=h
 obtain ⟨t,rfl⟩:=rx
 obtain ⟨t',rfl⟩:=ry
 exact add_str (fun t' tk=>⟨.str (i++j),H,I.tok _,⟨_,rfl⟩,q⟩) hz
theorem tQ:gM X (inplaceOp .Add) (fun x y H Q=> ∃i j,x= .str i/\y= .str j/\i.length+j.length<=sizeLine/\Q (.str (i++j)) H):=by
 intro pins s σ H x y v u Q I rx ry h
 obtain ⟨i,j,rfl,rfl,hz,q⟩:=h
 obtain ⟨t,rfl⟩:=rx
 obtain ⟨t',rfl⟩:=ry
 exact iadd_str (fun t' tk=>⟨.str (i++j),H,I.tok _,⟨_,rfl⟩,q⟩) hz
theorem vals1 {x:V} {us:List Value} (r:Vals [x] us): ∃u,us=[u]/\RelV x u:=by
 cases r with
 | cons r1 r2=>cases r2;exact ⟨_,rfl,r1⟩
theorem vals2 {x y:V} {us:List Value} (r:Vals [x,y] us): ∃u w',us=[u,w']/\RelV x u/\RelV y w':=by
 cases r with
 | cons r1 r2=>
  cases r2 with
  | cons r3 r4=>cases r4;exact ⟨_,_,rfl,r1,r3⟩
theorem y7 (hc:X.calm=true):cZ X (.builtin "max") (fun xs H Q=> ∃i j,xs=[.int i, .int j]/\Q (.int (if j>i then j else i)) H):=by
 intro pins s σ H xs us Q I r h
 obtain ⟨i,j,rfl,q⟩:=h
 obtain ⟨u,w',rfl,⟨t,rfl⟩,⟨t',rfl⟩⟩:=vals2 r
 refine max_two_ints (I.ok.hd hc) fun h' tk k=>⟨_,H,I.kept k,?_,q⟩
 by_cases hj:j>i
 ·rw[if_pos hj,if_pos hj];exact ⟨_,rfl⟩
 ·rw[if_neg hj,if_neg hj];exact ⟨_,rfl⟩
theorem y8:cZ X (.type "int") (fun xs H Q=>(∃i,xs=[.int i]/\Q (.int i) H)\/ ∃k,xs=[.bl k]/\Q (.int (if k then 1 else 0)) H):=by
 intro pins s σ H xs us Q I r h
 rcases h with ⟨i,rfl,q⟩ | ⟨k,rfl,q⟩
 ·obtain ⟨u,rfl,t,rfl⟩:=vals1 r
  exact call_int_int ⟨.int i,H,I,⟨_,rfl⟩,q⟩
 ·obtain ⟨u,rfl,r1⟩:=vals1 r
  cases r1
  exact call_int_bool ⟨.int (if k then 1 else 0),H,I.tok _,⟨_,rfl⟩,q⟩
end
structure Hj (h:Heap) (x dx C:Addr) (mA:Str->Option Value):Prop where
 obj:h.get? x=some (PySem.W.instObj C dx)
 ns:h.Ns1 dx mA
 ne:dx≠x
theorem y9 {h:Heap} {dx:Addr} {mA:Str->Option Value} (n:h.Ns1 dx mA): ∃od,h.get? dx=some od/\ ∀name,PySem.W.lookIn name od=some (mA name):=by
 obtain ⟨o,es,ep,ho,hd,hk,_,hm⟩:=n
 refine ⟨o,ho,fun name=>?_⟩
 have e:=hm name
 unfold nsFind findBy at e
 rw[<-Array.find?_toList]at e
 unfold PySem.W.lookIn
 rw[hd]
 dsimp only
 split
 ·rename_i y q
  rw[q]at e
  exact congrArg some e
 ·rename_i q
  rw[q]at e
  have a:es.toList.any (·.refKey)=false:=by
   rw[List.any_eq_false]
   intro y hy
   obtain ⟨z,t,pA⟩:=hk y (Array.mem_toList_iff.mp hy)
   simp[DictEntry.refKey,pA]
  have a': ¬es.toList.any (·.refKey)=true:=by rw[a];exact Xm
  rw[if_neg a']
  exact congrArg some e
theorem Hj.look {h:Heap} {x dx C:Addr} {mA:Str->Option Value} (I:Hj h x dx C mA): ∃od,PySem.W.InstAt h x (PySem.W.instObj C dx) C (some od)/\ ∀name,PySem.W.lookIn name od=some (mA name):=
 let ⟨od,ho,hl⟩:=y9 I.ns
 ⟨od,⟨I.obj,rfl,rfl,ho⟩,hl⟩
section
variable {P:Program} {w:World} {H H':Hp} {h h':Heap} {a C dx:Addr} {fs TH:List (Str×V)}
theorem D9 (bN:jh P w H h) (e:H a=some (.ins C dx fs)): ∃mA,Hj h a dx C mA/\(∀f,vG (fs.lookup f) (mA f))/\PySem.Within mA (fs.map (·.1))/\fs.length<=1000/\H dx=some (.own a):=by
 obtain ⟨d,z,ne,ob,mA,n,r,q⟩:=(show bI P w H h a (.ins C dx fs) from bN a _ e)
 exact ⟨mA,⟨ob,n,ne⟩,r,q,z,d⟩
end
structure OM (K:PySem.W.Frag) (C:Addr):Prop where
 pg:PySem.W.plainGet K C Str.empty=true
 hd:PySem.W.hasDictIn K C=true
 po:PySem.W.plainOver K C=true
 sa:PySem.W.findIn K (.ref C) "__setattr__"=some (some (.builtin "object.__setattr__"))
theorem OM.get {K:PySem.W.Frag} {C:Addr} (c:OM K C) (f:Str):PySem.W.plainGet K C f=true:=c.pg
section
variable {X:Cx} {pins:List (Addr×Obj)} {σ:St} {H:Hp} {s:Shared} {A:Around} {E:Value->Shared->Prop} {Q:Value->Shared->Prop} {c:Value} {b:Bool}
inductive mh (K:PySem.W.Frag) (H:Hp):V->Value->Prop where
 | eK:mh K H .eK (.type "NoneType")
 | bl (x:Bool):mh K H (.bl x) (.type "bool")
 | int (i:Int):mh K H (.int i) (.type "int")
 | str (x:Str):mh K H (.str x) (.type "str")
 | Jt (x:UInt64):mh K H (.Jt x) (.type "float")
 | lst {a:Addr} {xs:List V} (e:H a=some (.lst xs)):mh K H (.ref a) (.type "list")
 | tJ {a:Addr} {o:Obj} {xs:List V} (e:H a=some (.tJ o (.lst xs))):mh K H (.ref a) (.type "list")
 | tup {a:Addr} {xs:List V} (e:H a=some (.tup xs)):mh K H (.ref a) (.type "tuple")
 | dK {a:Addr} {aJ:List (Key×V)} (e:H a=some (.dK aJ)):mh K H (.ref a) (.type "dict")
 | dT {a:Addr} {aJ:List (List Key×V)} (e:H a=some (.dT aJ)):mh K H (.ref a) (.type "dict")
 | ins {a C dx:Addr} {fs:List (Str×V)} (e:H a=some (.ins C dx fs)) (cl:OM K C) (ha:PySem.W.findIn K (.ref C) "__class__"=some (some (.builtin "object.__class__")))
   (hn:PySem.W.specialIn K (.builtin "object.__class__") "__get__"=some (some (.builtin "getset_descriptor.__get__"))) (Rn:PySem.W.takesIn K (.builtin "object.__class__")=some true)
   (hm:PySem.W.mroIn K C (.type "object")=some true):mh K H (.ref a) (.ref C)
theorem kE {x:V} {u t:Value} (I:Inv X pins σ H s) (rx:RelV x u) (ty:mh X.K H x t) (e:PySem.W.kitOne X.K t c=some b) (h: ∀tk,Q (.bool b) { s with toks:=tk }):
  wpAny (model X.prog X.w) A (call (.builtin "isinstance") [u,c]) Q E s:=by
 cases ty with
 | eK=>cases (show u=Value.none from rx);exact Yo PySem.W.kitx_none I.qY True.intro e (fun z=>nomatch z) h
 | bl y=>cases (show u=Value.bool y from rx);exact Yo PySem.W.kitx_bool I.qY True.intro e (fun z=>nomatch z) h
 | int i=>obtain ⟨t,q⟩:=(show ∃t,u=Value.int i t from rx);cases q;exact Yo PySem.W.kitx_int I.qY True.intro e (fun z=>nomatch z) h
 | str y=>obtain ⟨t,q⟩:=(show ∃t,u=Value.str y t from rx);cases q;exact Yo PySem.W.kitx_str I.qY True.intro e (fun z=>nomatch z) h
 | Jt y=>obtain ⟨t,q⟩:=(show ∃t,u=Value.float y t from rx);cases q;exact Yo PySem.W.kitx_float I.qY True.intro e (fun z=>nomatch z) h
 | @lst a xs ea=>
  cases (show u=Value.ref a from rx)
  obtain ⟨_,_,n,_,h1⟩:=(show bI X.prog X.w H s.heap a (.lst xs) from I.bN a _ ea)
  exact Yo PySem.W.kitx_list I.qY ⟨_,h1,rfl⟩ e (fun z=>nomatch z) h
 | @tJ a ob xs ea=>
  cases (show u=Value.ref a from rx)
  obtain ⟨_,_,_,n,_,h1⟩:=(show bI X.prog X.w H s.heap a (.tJ ob (.lst xs)) from I.bN a _ ea)
  exact Yo PySem.W.kitx_list I.qY ⟨_,h1,rfl⟩ e (fun z=>nomatch z) h
 | @tup a xs ea=>
  cases (show u=Value.ref a from rx)
  obtain ⟨_,_,_,p⟩:=(show bI X.prog X.w H s.heap a (.tup xs) from I.bN a _ ea)
  obtain ⟨o,h1,h2,_⟩:=p
  exact Yo PySem.W.kitx_tuple I.qY ⟨o,h1,h2⟩ e (fun z=>nomatch z) h
 | @dK a aJ ea=>
  cases (show u=Value.ref a from rx)
  obtain ⟨_,_,vs,_,p⟩:=(show bI X.prog X.w H s.heap a (.dK aJ) from I.bN a _ ea)
  obtain ⟨o,es,ep,h1,h2,_⟩:=p
  exact Yo PySem.W.kitx_dict I.qY ⟨o,h1,h2.1⟩ e (fun z=>nomatch z) h
 | @dT a aJ ea=>
  cases (show u=Value.ref a from rx)
  obtain ⟨_,_,xs,_,o,es,ep,h1,h2,_⟩:=(show bI X.prog X.w H s.heap a (.dT aJ) from I.bN a _ ea)
  exact Yo PySem.W.kitx_dict I.qY ⟨o,h1,h2.1⟩ e (fun z=>nomatch z) h
 | @ins a C dx fs ea cl ha hn Rn hm=>
  cases (show u=Value.ref a from rx)
  obtain ⟨mA,O,_⟩:=D9 I.bN ea
  obtain ⟨od,J,_⟩:=O.look
  exact Yo (PySem.W.kitx_own (cl.get _) cl.hd ha hn Rn hm) I.qY J e (fun z=>nomatch z) h
end
structure cF (k:Nat) (A:Around):Prop where
 hd:A.handled=none
 dp:A.depth+3*k+5<recursionLimit
 un:A.units+16*k+200<cLine
 gd:A.guards=some []
theorem cF.mono {j k:Nat} {A:Around} (r:cF k A) (h:j<=k):cF j A:=⟨r.hd,by have:=r.dp;lia,by have:=r.un;lia,r.gd⟩
theorem cF.deeper {k:Nat} {A:Around} (r:cF (k+1) A) (env:Env):cF k (A.deeper env):=
 ⟨r.hd,by have:=r.dp;show A.depth+1+3*k+5<_;lia,by have:=r.un;show A.units+3+16*k+200<_;lia,r.gd⟩
theorem cF.in1 {k:Nat} {A:Around} (r:cF (k+1) A):cF k A.in1:=
 ⟨r.hd,by have:=r.dp;show A.depth+3*k+5<_;lia,by have:=r.un;show A.units+1+16*k+200<_;lia,r.gd⟩
theorem cF.depth {k:Nat} {A:Around} (r:cF k A):A.depth<recursionLimit:=by have:=r.dp;lia
theorem cF.units {k:Nat} {A:Around} (r:cF k A):A.units+64<cLine:=by have:=r.un;lia
def Hk:TA:=fun _ H Q=>Q [] H
def A1 (ta:TE) (tr:TA):TA:=fun σ H Q=>ta σ H fun x H1=>tr σ H1 fun xs H2=>Q (x::xs) H2
section
variable {X:Cx} {e:Expr} {es:List Expr} {te:TE} {t:TA} {pos:Pos}
theorem eZ:PA X [] Hk:=fun _ _ _ _ H Q I h=>Calls.spliced_nil ⟨[],H,I, .nil,h⟩
theorem ai (ha:PE X e te) (hr:PA X es t) (hs:starEach (e::es) X.env=(false,eval e X.env)::starEach es X.env:=by rfl):PA X (e::es) (A1 te t):=by
 intro pos pins s σ H Q I h
 rw[hs]
 show wpAny _ _ (spliced ((false,eval e X.env)::backTo pos (starEach es X.env))) _ _ s
 refine Calls.spliced_cons (cg (ha pins s σ H _ I h) fun u s1 ⟨x,H1,I1,r1,q1⟩=>?_)
 exact cg (hr pos pins s1 σ H1 _ I1 q1) fun us s2 ⟨xs,H2,I2,r2,q2⟩=>⟨x::xs,H2,I2, .cons r1 r2,q2⟩
def ON (t:TA):TE:=fun σ H Q=>t σ H fun xs H1=>xs.length<=sizeLine/\ ∀p,H1 p=none->Q (.ref p) (upd H1 p (.tup xs))
def OO (t:TA):TE:=fun σ H Q=>t σ H fun xs H1=>xs.length<=sizeLine/\ ∀p,H1 p=none->Q (.ref p) (upd H1 p (.lst xs))
theorem kF {x1} (h:PA X es t):PE X (.Tuple es x1 pos) (ON t):=by
 intro pins s σ H Q I hq
 refine wpAny_Tuple_spliced (cg (h pos pins s σ H _ I hq) fun us s1 ⟨xs,H1,I1,r,z,q⟩=>⟨by rw[<-r.length];exact z,?_⟩)
 have hf:H1 s1.heap.objs.size=none:=I1.bN.fresh (Rv _)
 refine ⟨.ref s1.heap.objs.size,upd H1 s1.heap.objs.size (.tup xs),I1.laid (t':=s1.toks) (fun b u e=>Rw _ e) (Rv _) ?_,rfl,q _ hf⟩
 exact ⟨z,us,r,⟨_,Xr _ rfl,rfl,_,rfl⟩⟩
theorem fI (h:PA X es t):PE X (.List es pos) (OO t):=by
 intro pins s σ H Q I hq
 refine wpAny_List_spliced (cg (h pos pins s σ H _ I hq) fun us s1 ⟨xs,H1,I1,r,z,q⟩=>⟨by rw[<-r.length];exact z,?_⟩)
 have hf:H1 s1.heap.objs.size=none:=I1.bN.fresh (Rv _)
 refine ⟨.ref s1.heap.objs.size,upd H1 s1.heap.objs.size (.lst xs),I1.laid (t':=s1.toks) (fun b u e=>Rw _ e) (Rv _) ?_,rfl,q _ hf⟩
 exact ⟨z,us,0,r,Xr _ rfl⟩
end
abbrev Sp:=List V->Hp->VK->XK->Prop
abbrev y_:=List Env->Hp->Shared->XK->Value->Shared->Prop
structure vN (P:Program) (w:World) (K:PySem.W.Frag) (mg:Str->Option Value) (base:Heap) (A:Around) (outer:List Env) (s:Shared) (H:Hp):Prop where
 frames:A.frames=some outer
 mod:Mod K mg base
 bs: ∀b o,base.get? b=some o->s.heap.get? b=some o/\H b=none
 DY:base.objs.size<=s.heap.objs.size
 md:s.heap.FunFrames base outer
 GZ: ∀b∈xx outer,H b=none
 bN:jh P w H s.heap
 bare:AllBare s.gens
def CE (outer:List Env) (P:Program) (w:World) (H:Hp) (s:Shared) (Q:VK) (u:Value) (s':Shared):Prop:=
 ∃v H',s'.os=s.os/\AllBare s'.gens/\Un (xx outer) [] H H' s.heap s'.heap/\jh P w H' s'.heap/\RelV v u/\Q v H'
def CR (CX:y_) (outer:List Env) (P:Program) (w:World) (H:Hp) (s:Shared) (Q:VK) (E:XK) (r:Result) (s':Shared):Prop:=
 match r with
 | .ok (.ret u)=>CE outer P w H s Q u s'
 | .ok _=>False
 | .error e=>CX outer H s E e s'
structure bp (P:Program) (w:World) (K:PySem.W.Frag) (mg:Str->Option Value) (base:Heap) (CX:y_) (k:Nat) (f:Addr) (fd:FuncData) (ps:List Str) (sp:Sp):Prop where
 len: ∀vs H Q E,sp vs H Q E->vs.length=ps.length
 run: ∀(A:Around) (outer:List Env) (s:Shared) (H:Hp) (args:Args) (us:List Value) (vs:List V) (Q:VK) (E:XK),cF k A->vN P w K mg base A outer s H->BindsTo s fd args (ps.zip us)->Vals vs us->sp vs H Q E->
  codeAny (model P w) A (.call (.ref f) args) (CR CX outer P w H s Q E) s
theorem vN.in1 {P:Program} {w:World} {K:PySem.W.Frag} {mg:Str->Option Value} {base:Heap} {A:Around} {outer:List Env} {s:Shared} {H:Hp} (e:vN P w K mg base A outer s H):
  vN P w K mg base A.in1 outer s H:=⟨e.frames,e.mod,e.bs,e.DY,e.md,e.GZ,e.bN,e.bare⟩
section
variable {X:Cx} {pins:List (Addr×Obj)} {σ:St} {H:Hp} {s s':Shared}
theorem Inv.Lj (I:Inv X pins σ H s):vN X.prog X.w X.K X.mg X.base X.A X.stack s H:=
 ⟨I.ok.frames,I.ok.mod,I.bs,XG I.ok.DY I.sz,I.stack,I.xA,I.bN,I.bare⟩
theorem Inv.after {Q:VK} {u:Value} (I:Inv X pins σ H s) (h:CE X.stack X.prog X.w H s Q u s'):EP X pins σ Q u s':=by
 obtain ⟨v,H',os,bare,un,bN,r,q⟩:=h
 obtain ⟨hh,g,d,t,OP⟩:=s'
 obtain rfl:OP=s.os:=os
 exact ⟨v,H',I.call (h':=hh) (g':=g) (d':=d) (t':=t) (ch:=[]) un bN bare (fun b z=>absurd z (by simp)),r,q⟩
end
def Ga (sp:Sp) (D_:List V) (E:XK) (t:TA):TE:=fun σ H Q=>t σ H fun vs H1=>sp (vs++D_) H1 Q E
def Binds (K:PySem.W.Frag) (fd:FuncData) (ps:List Str) (ds:List Value):Prop:=
 ∀(s:Shared) (us:List Value),K.In s.heap->(us++ds).length=ps.length->BindsTo s fd ⟨us,[]⟩ (ps.zip (us++ds))
theorem Binds.all {K:PySem.W.Frag} {fd:FuncData} {ps:List Str} (h: ∀us:List Value,us.length=ps.length->bindArgs fd ⟨us,[]⟩=pure (ps.zip us)):Binds K fd ps []:=fun s us _ hl=>by
 rw[XA]at hl ⊢
 exact .of_eq (h us hl)
def Passes (CX:y_) (X:Cx) (E:XK):Prop:= ∀(pins:List (Addr×Obj)) (σ:St) (H:Hp) (s:Shared) (e:Value) (s':Shared),Inv X pins σ H s->CX X.stack H s E e s'->X.xe e s'
section
variable {X:Cx} {CX:y_} {k:Nat} {f C:Addr} {fd:FuncData} {ps:List Str} {sp:Sp} {D_:List V} {ds:List Value} {E:XK} {x m:Str} {p pos apos:Pos} {e o:Expr} {es:List Expr} {ta:TE} {t:TA}
theorem Hl {pins:List (Addr×Obj)} {σ:St} {H:Hp} {s:Shared} {Q:VK} {us:List Value} {vs:List V} (F:bp X.prog X.w X.K X.mg X.base CX k f fd ps sp) (hr:cF k X.A) (hb:Binds X.K fd ps ds) (hd:Vals D_ ds) (hx:Passes CX X E)
  (I:Inv X pins σ H s) (r:Vals vs us) (h:sp (vs++D_) H Q E):wpAny (model X.prog X.w) X.A (call (.ref f) us) (EP X pins σ Q) X.xe s:=by
 have r2:Vals (vs++D_) (us++ds):=r.append hd
 have hl:(us++ds).length=ps.length:=by rw[<-r2.length];exact F.len _ _ _ _ h
 refine wpAny_call (codeAny_mono (F.run X.A X.stack s H ⟨us,[]⟩ (us++ds) (vs++D_) Q E hr I.Lj (hb s us I.qY hl) r2 h) fun r s' hq=>?_)
 cases r with
 | error e=>exact hx pins σ H s e s' I hq
 | ok fl=>
  cases fl with
  | ret u=>exact I.after hq
  | next=>exact False.elim hq
  | brk=>exact False.elim hq
  | cont=>exact False.elim hq
theorem Ea (F:bp X.prog X.w X.K X.mg X.base CX k f fd ps sp) (hr:cF k X.A) (hg:Gl X x) (hm:X.mg x=some (.ref f)) (hk:PySem.W.keepIn X.K (.ref f)=true) (hb:Binds X.K fd ps ds) (hd:Vals D_ ds) (hx:Passes CX X E)
  (ha:PA X (e::es) t) (Lk:(x==("__debug__":Str))=false:=by decide) (he:starEach (e::es) X.env=(false,eval e X.env)::starEach es X.env:=by rfl) (vA:(backTo pos (starEach es X.env)).any (·.1)=false:=by rfl):
  PE X (.Call (.Name x p) (e::es) [] pos) (Ga sp D_ E t):=by
 intro pins s σ H Q I h
 refine wpAny_Call_Name_kw (D3 I hg hm ?_ Lk)
 refine PySem.W.callWith_K (h₀:=X.base) I.ok.mod.Og hk (cg (ha pos pins s σ H _ I h) fun us s1 ⟨vs,H1,I1,r,q⟩=>⟨I1.qY,?_⟩) he vA
 exact Hl F hr hb hd hx I1 r q
end
structure aB (N P:List Str) (sc:Scope):Prop where
 kind:sc.kind= .function
 co:sc.isCoroutine=false
 gen:sc.isGenerator=false
 nd:N.Nodup
 pre:N.take P.length=P
 par: ∀x∈P,sc.names.lookup x=some .local\/sc.names.lookup x=some .cell
 Hm: ∀y∈sc.names,y.2≠ .free
theorem p8 {kindOf:Str->Option NameKind} {x:Str}: ∀{binds:List (Str×Value)} {m:Str->Option Value},(∀v,(x,v)∉binds)->bindL kindOf binds m x=m x
 | [],_,_=>rfl
 |(n,v)::r,m,h=>by
  unfold bindL
  rw[p8 fun w hw=>h w (NA _ hw)]
  split
  ·have:x≠n:=by rintro rfl;exact h v NB
   simp[this]
  ·rfl
theorem p9 {kindOf:Str->Option NameKind} {x:Str}: ∀{binds:List (Str×Value)} {m:Str->Option Value},(∀v,(x,v)∉binds)->bindC kindOf binds m x=m x
 | [],_,_=>rfl
 |(n,v)::r,m,h=>by
  unfold bindC
  rw[p9 fun w hw=>h w (NA _ hw)]
  split
  ·rfl
  ·have:x≠n:=by rintro rfl;exact h v NB
   simp[this]
theorem qa {kindOf:Str->Option NameKind} {x:Str} {v:Value}: ∀{P:List Str} {vs:List Value} {i:Nat} {m:Str->Option Value},P.Nodup->P[i]? =some x->vs[i]? =some v->kindOf x=some .local->
  bindL kindOf (P.zip vs) m x=some v
 | [],_,_,_,_,h,_,_=>by simp at h
 | _::_,[],_,_,_,_,h,_=>by simp at h
 | p::P,w::vs,0,m,nd,h1,h2,hk=>by
  simp at h1 h2;subst h1;subst h2
  show bindL kindOf ((p,w)::P.zip vs) m p=_
  unfold bindL
  rw[p8 fun v hv=>(XD.mp nd).1 (ZV hv).1,if_pos hk]
  simp
 | p::P,w::vs,i+1,m,nd,h1,h2,hk=>by
  show bindL kindOf ((p,w)::P.zip vs) m x=_
  unfold bindL
  exact qa (i:=i) (XD.mp nd).2 (by simpa using h1) (by simpa using h2) hk
theorem qb {kindOf:Str->Option NameKind} {x:Str} {v:Value}: ∀{P:List Str} {vs:List Value} {i:Nat} {m:Str->Option Value},P.Nodup->P[i]? =some x->vs[i]? =some v->kindOf x≠some .local->
  bindC kindOf (P.zip vs) m x=some v
 | [],_,_,_,_,h,_,_=>by simp at h
 | _::_,[],_,_,_,_,h,_=>by simp at h
 | p::P,w::vs,0,m,nd,h1,h2,hk=>by
  simp at h1 h2;subst h1;subst h2
  show bindC kindOf ((p,w)::P.zip vs) m p=_
  unfold bindC
  rw[p9 fun v hv=>(XD.mp nd).1 (ZV hv).1,if_neg hk]
  simp
 | p::P,w::vs,i+1,m,nd,h1,h2,hk=>by
  show bindC kindOf ((p,w)::P.zip vs) m x=_
  unfold bindC
  exact qb (i:=i) (XD.mp nd).2 (by simpa using h1) (by simpa using h2) hk
noncomputable def start (N:List Str) (vs:List V):St:=vs.map some++List.replicate (N.length - vs.length) none
noncomputable def rj (CX:y_) (P:Program) (w:World) (K:PySem.W.Frag) (mg:Str->Option Value) (base:Heap) (N:List Str) (qual:Str) (scope:Scope) (f:Addr) (cd:Value) (A:Around) (outer:List Env) (s:Shared) (H:Hp) (E:XK):Cx where
 prog:=P
 w:=w
 K:=K
 mg:=mg
 base:=base
 A:=A.deeper (envOfC qual scope s.heap.objs.size f cd)
 N:=N
 s₀:=s
 H₀:=H
 env:=envOfC qual scope s.heap.objs.size f cd
 outer:=outer
 stack:=envOfC qual scope s.heap.objs.size f cd::outer
 ex:=[]
 calm:=true
 fn:=fun _=>true
 pn:=[]
 xe:=fun e s'=>wpAny (model P w) (A.deeper (envOfC qual scope s.heap.objs.size f cd)) (leaving (envOfC qual scope s.heap.objs.size f cd) e) (fun _ Hn=>CX outer H s E e Hn) (fun e' Hn=>CX outer H s E e' Hn) s'
theorem tR {sc:Scope} {n:Nat} {x:Str} (h:sc.names.lookup x=some .cell): ∃c,(cellsFrom n sc.names []).lookup x=some c:=by
 have q:=ZP sc.names n [] (.inl h)
 exact Option.isSome_iff_exists.mp q
theorem qc {CX:y_} {P:Program} {w:World} {K:PySem.W.Frag} {mg:Str->Option Value} {base:Heap} {N ps:List Str} {qual:Str} {scope:Scope} {f:Addr} {cd:Value} {A:Around} {outer:List Env} {s s1:Shared} {H:Hp} {E:XK} {us:List Value} {vs:List V}
  (S:aB N ps scope) (hd:A.handled=none) (e0:vN P w K mg base A outer s H) (hl:vs.length=ps.length) (r:Vals vs us)
  (x:InCallC s s.heap.objs.size (bindL (envOfC qual scope s.heap.objs.size f cd).kindOf (ps.zip us) fun _=>none) (cellsFrom (s.heap.objs.size+1) scope.names []) (bindC (envOfC qual scope s.heap.objs.size f cd).kindOf (ps.zip us) fun _=>none) s1):
  Inv (rj CX P w K mg base N qual scope f cd A outer s H E) [] (start N vs) H s1:=by
 have vA:ps.length<=N.length:=by have:=congrArg List.length S.pre;rw[Rt]at this;lia
 obtain ⟨h1,tk,rfl,hk⟩:=x.done
 have Ll: ∀b:Addr,b∉(rj CX P w K mg base N qual scope f cd A outer s H E).ex:=fun b z=>absurd (show b∈([]:List Addr) from z) (by simp)
 refine ⟨⟨e0.mod,S.kind,rfl,rfl,Rv _,fun y z c h1 h2=>?_,fun y hy=>?_,fun y c _ h=>?_,fun _=>hd,Around.frames_deeper e0.frames, .inr ⟨rfl,rfl⟩,fun b z=>absurd z (Ll b),e0.bs,e0.DY,fun b _ _=>Ll b,fun b z=>absurd z (Ll b),e0.md,e0.GZ⟩,
  rfl,e0.bare,Un.kept hk,⟨_,x.toInCall.ns,fun i y v h1 h2 h3=>?_⟩,fun y c h=>⟨_,x.cell y c h⟩,e0.bN.fresh (Rv _),fun y c h=>?_,fun p hp=>absurd (show p∈([]:List (Addr×Obj)) from hp) (by simp),e0.bN.kept hk,?_⟩
 ·exact name_of_addr x.apart (Za h1) (Za h2)
 ·have hy:scope.names.lookup y=some .cell\/scope.names.lookup y=some .free:=hy
  rcases hy with hy | hy
  ·exact tR hy
  ·exact absurd rfl (S.Hm _ (Za hy))
 ·exact YI (x.above y c (Za h))
 ·have hi:i<vs.length:=by
   unfold start at h2
   by_cases hi:i<vs.length
   ·exact hi
   ·rw[Xw (by simpa using hi)]at h2
    rw[List.getElem?_replicate]at h2
    split at h2<;>cases h2
  have ha:vs[i]? =some v:=by
   unfold start at h2
   rw[X4 (by simpa using hi),XC]at h2
   cases e:vs[i]? with
   | none=>rw[e]at h2;cases h2
   | some a=>rw[e]at h2;cases h2;rfl
  obtain ⟨u,hu,rv⟩:=r.get ha
  have hp:ps[i]? =some y:=by
   rw[<-S.pre,Xt (by lia)];exact h1
  have Ro:ps.Nodup:=by rw[<-S.pre];exact S.nd.sublist (ZF _ _)
  refine ⟨u,rv,?_⟩
  rcases S.par y (Xo hp) with k | k
  ·exact .inl ⟨k,qa Ro hp hu k⟩
  ·obtain ⟨c,e⟩:=tR (n:=s.heap.objs.size+1) k
   refine .inr ⟨.inl k,c,e,?_⟩
   have q:=x.cell y c e
   rw[qb Ro hp hu (by show scope.names.lookup y≠_;rw[k];decide)]at q
   exact q
 ·exact e0.bN.fresh (YI (x.above y c (Za h)))
 ·unfold start
  show _=N.length
  rw[Jy,WH,List.length_replicate]
  lia
theorem Gb {CX:y_} {P:Program} {w:World} {K:PySem.W.Frag} {mg:Str->Option Value} {base:Heap} {k:Nat} {f:Addr} {name qual:Str} {params:Arguments} {body:List Stmt} {scope:Scope} {dV kV doc pm cE ct oc:Value} {an od:Option Addr}
  {tF:Array (Option Value)} {N ps:List Str} {sp:Sp} (lk:K.lookup f=some ⟨oc,od, .func (PySem.W.fnOf name qual params body scope dV kV doc pm an cE ct),tF⟩) (qZ:PySem.W.codeIn K cE qual=true) (S:aB N ps scope)
  (len: ∀vs H Q E,sp vs H Q E->vs.length=ps.length)
  (mV: ∀(A:Around) (outer:List Env) (s:Shared) (H:Hp) (vs:List V) (Q:VK) (E:XK),cF k (A.deeper (envOfC qual scope s.heap.objs.size f cE))->sp vs H Q E->
   ∃t,vv (rj CX P w K mg base N qual scope f cE A outer s H E) body t/\t { nx:=fun _ H'=>Q .eK H',rt:=Q } (start N vs) H):
  bp P w K mg base CX (k+1) f (PySem.W.fnOf name qual params body scope dV kV doc pm an cE ct) ps sp:=by
 refine ⟨len,fun A outer s H args us vs Q E hr e0 hb r tS=>?_⟩
 have hl:=len _ _ _ _ tS
 have KX:K.In s.heap:=e0.mod.Og.keeps fun b o e=>(e0.bs b o e).1
 have lim:s.heap.NoLimit:=e0.mod.nolimit.keeps fun b o e=>(e0.bs b o e).1
 have fu: ∀y∈ps.zip us,scope.names.lookup y.1=some .local\/(scope.names.lookup y.1=some .cell/\((cellsFrom (s.heap.objs.size+1) scope.names []).lookup y.1).isSome=true):=fun ⟨n,v⟩ hy=>by
  rcases S.par n (ZV hy).1 with q | q
  ·exact .inl q
  ·exact .inr ⟨q,ZP _ _ _ (.inl q)⟩
 refine codeAny_call_function hr.depth (KX _ _ lk) rfl S.co S.gen rfl (PySem.W.codeRec_of KX qZ) (hb _ _ _ _ ?_)
 refine wpAny_newFunctionEnv_cells S.kind fu fun env he s1 x=>?_
 subst he
 refine ⟨lim.keeps x.toInCall.keep,codeAny_func ?_⟩
 obtain ⟨t,ht,hq⟩:=mV A outer s H vs Q E (hr.deeper _) tS
 have I:Inv (rj CX P w K mg base N qual scope f cE A outer s H E) [] (start N vs) H s1:=qc S hr.hd e0 hl r x
 refine wpAny_mono (ht [] s1 (start N vs) H _ I hq) (fun fl s' hs=>?_) fun e s' hs=>hs
 have fin: ∀{σ':St} {H':Hp} {v:V} {u:Value},Inv (rj CX P w K mg base N qual scope f cE A outer s H E) [] σ' H' s'->RelV v u->Q v H'->CE outer P w H s Q u s':=
  fun {σ' H' v u} J rv q=>⟨v,H',J.os,J.bare,J.base,J.bN,rv,q⟩
 cases fl with
 | ret u=>
  obtain ⟨v,σ',H',J,rv,q⟩:=hs
  exact fin J rv q
 | next=>
  obtain ⟨σ',H',J,q⟩:=hs
  exact fin (v:=V.eK) (u:=Value.none) J rfl q
 | brk=>
  obtain ⟨_,_,_,q⟩:=hs
  exact False.elim q
 | cont=>
  obtain ⟨_,_,_,q⟩:=hs
  exact False.elim q
section
variable {X:Cx} {x:Str} {p pos:Pos} {e:Expr} {es:List Expr} {t:TA} {id T:String} {r:List V->Hp->VK->Prop}
def OQ (r:List V->Hp->VK->Prop) (t:TA):TE:=fun σ H Q=>t σ H fun vs H1=>r vs H1 Q
theorem aH (hc:cZ X (.builtin id) r) (hg:Gl X x) (hm:X.mg x=none) (hv:bootBuiltins x=some (.builtin id)) (ha:PA X (e::es) t) (hn:x≠"__name__":=by decide) (Lk:(x==("__debug__":Str))=false:=by decide)
  (he:starEach (e::es) X.env=(false,eval e X.env)::starEach es X.env:=by rfl) (vA:(backTo pos (starEach es X.env)).any (·.1)=false:=by rfl):PE X (.Call (.Name x p) (e::es) [] pos) (OQ r t):=by
 intro pins s σ H Q I h
 refine wpAny_Call_Name_kw (fH I hg hm hv ?_ hn Lk)
 exact PyProof.Rows.callWith_builtin1 (cg (ha pos pins s σ H _ I h) fun us s1 ⟨vs,H1,I1,r1,q1⟩=>hc pins s1 σ H1 vs us Q I1 r1 q1) he vA
theorem kG (hc:cZ X (.type T) r) (hg:Gl X x) (hm:X.mg x=none) (hv:bootBuiltins x=some (.type T)) (ha:PA X (e::es) t) (hn:x≠"__name__":=by decide) (Lk:(x==("__debug__":Str))=false:=by decide)
  (he:starEach (e::es) X.env=(false,eval e X.env)::starEach es X.env:=by rfl) (vA:(backTo pos (starEach es X.env)).any (·.1)=false:=by rfl):PE X (.Call (.Name x p) (e::es) [] pos) (OQ r t):=by
 intro pins s σ H Q I h
 refine wpAny_Call_Name_kw (fH I hg hm hv ?_ hn Lk)
 exact Yj (cg (ha pos pins s σ H _ I h) fun us s1 ⟨vs,H1,I1,r1,q1⟩=>hc pins s1 σ H1 vs us Q I1 r1 q1) he vA
end
end L2
namespace HT
open PySem PyProof.Rows
section
variable {prog:Program} {w:World} {A:Around} {E:Value->Shared->Prop} {s:Shared}
noncomputable def iW (n d:Nat):Option Int->Nat
 | none=>d
 | some v=>if v<0 then (v+(n:Int)).toNat else min v.toNat n
theorem mW (n d:Nat):iW n d none=d:=rfl
theorem gn (n d k:Nat):iW n d (some (k:Int))=min k n:=by
 show (if (k:Int)<0 then ((k:Int)+(n:Int)).toNat else min (k:Int).toNat n)=min k n
 rw[if_neg (by lia),XN]
theorem Ho (n d:Nat) (hd:d<=n) (o:Option Int):iW n d o<=n:=by
 cases o with
 | none=>exact hd
 | some v=>
  show (if v<0 then (v+(n:Int)).toNat else min v.toNat n)<=n
  by_cases hv:v<0
  ·rw[if_pos hv];lia
  ·rw[if_neg hv];exact Nat.min_le_right _ _
end
end HT
namespace L2
open PySem PySem.Spec PyProof.Rows
abbrev TO:=St->Hp->(Option Int->Hp->Prop)->Prop
def PO (X:Cx) (e:Option Expr) (t:TO):Prop:=
 ∀(pins:List (Addr×Obj)) (s:Shared) (σ:St) (H:Hp) (Q:Option Int->Hp->Prop),Inv X pins σ H s->t σ H Q->
  wpAny (model X.prog X.w) X.A (evalPart e X.env) (fun u s'=> ∃o H',Inv X pins σ H' s'/\IsPart u o/\Q o H') X.xe s
def Eb:TO:=fun _ H Q=>Q none H
def Lm (t:TE):TO:=fun σ H Q=>t σ H fun x H1=> ∃i,x= .int i/\Q (some i) H1
theorem intsAre_of {ns:List Int}: ∀{us:List Value},Vals (ns.map V.int) us->IntsAre us ns:=by
 induction ns with
 | nil=>intro us r;rw[Qam]at r;cases r;exact .nil
 | cons n ns ih=>
  intro us r
  rw[XM]at r
  cases r with
  | cons r1 r2=>
   obtain ⟨t,e⟩:=r1
   subst e
   exact .cons n t (ih r2)
section
variable {X:Cx} {e:Expr} {te:TE} {lo hi:Option Expr} {tl th:TO} {pos p2:Pos}
theorem b_:PO X none Eb:=by
 intro pins s σ H Q I h
 rw[evalPart_none]
 exact wpAny_pure ⟨none,H,I, .none,h⟩
theorem bz (h:PE X e te):PO X (some e) (Lm te):=by
 intro pins s σ H Q I hw
 rw[evalPart_some]
 refine cg (h pins s σ H _ I hw) fun u s1 ⟨x,H1,I1,r1,q1⟩=>?_
 obtain ⟨i,rfl,q⟩:=q1
 obtain ⟨t,rfl⟩:=r1
 exact ⟨some i,H1,I1, .int i t,q⟩
def Nw (X:Cx) (r:V->Option Int->Option Int->Hp->VK->Prop):Prop:=
 ∀(pins:List (Addr×Obj)) (s:Shared) (σ:St) (H:Hp) (x:V) (v vl vu:Value) (lo hi:Option Int) (sl:Addr) (Q:VK),Inv X pins σ H s->RelV x v->s.heap.IsSliceOf sl vl vu .none->IsPart vl lo->IsPart vu hi->r x lo hi H Q->
  ∃T id,typeLookup (.type T) "__getitem__"=pure (some (.builtin id))/\s.TypeIs v T/\wpAny (model X.prog X.w) X.A (getItem v (.ref sl)) (EP X pins σ Q) X.xe s
def TY (r:V->Option Int->Option Int->Hp->VK->Prop) (te:TE) (tl th:TO):TE:=fun σ H Q=>te σ H fun x H1=>tl σ H1 fun l H2=>th σ H2 fun u H3=>r x l u H3 Q
theorem br {r:V->Option Int->Option Int->Hp->VK->Prop} (hr:Nw X r) (he:PE X e te) (hl:PO X lo tl) (hu:PO X hi th):PE X (.Subscript e (.Slice lo hi none p2) pos) (TY r te tl th):=by
 intro pins s σ H Q I h
 refine Subscript_ (cg (he pins s σ H _ I h) fun v s1 ⟨x,H1,I1,r1,q1⟩=>?_)
 refine wpAny_Slice (cg (hl pins s1 σ H1 _ I1 q1) fun vl s2 ⟨l,H2,I2,pl,q2⟩=>cg (hu pins s2 σ H2 _ I2 q2) fun vu s3 ⟨u,H3,I3,pu,q3⟩=>?_)
 rw[evalPart_none]
 refine wpAny_pure ?_
 have I4:Inv X pins σ H3 { s3 with heap:=s3.heap.push { cls:= .type "slice",data:= .fields #[vl,vu, .none] } }:=I3.kept (t':=s3.toks) fun b ob q=>Rw _ q
 obtain ⟨T,id,hT,ht,hg⟩:=hr pins { s3 with heap:=s3.heap.push { cls:= .type "slice",data:= .fields #[vl,vu, .none] } } σ H3 x v vl vu l u s3.heap.objs.size Q I4 r1 (Heap.IsSliceOf.new ..) pl pu q3
 show wpAny (model X.prog X.w) X.A (subscriptTail e (.Slice lo hi none p2) v (.ref s3.heap.objs.size)) (EP X pins σ Q) X.xe { s3 with heap:=s3.heap.push { cls:= .type "slice",data:= .fields #[vl,vu, .none] } }
 exact tail_any (ops:=[.ref s3.heap.objs.size,v]) ht hT hg (by with_unfolding_all rfl)
noncomputable def tT (xs:List V) (lo hi:Option Int):List V:=(xs.drop (HT.iW xs.length 0 lo)).take (HT.iW xs.length xs.length hi - HT.iW xs.length 0 lo)
theorem tU (xs:List V) (lo hi:Option Int):(tT xs lo hi).length<=xs.length:=by
 unfold tT
 rw[Rt,Xi]
 lia
end
noncomputable def DP (n:Nat) (i:Int):Option Nat:=if 0<=i then (if i<n then some i.toNat else none) else if -(n:Int)<=i then some (i+n).toNat else none
noncomputable def mC {α:Type} (xs:List α) (i:Int):Option α:=(DP xs.length i).bind fun j=>xs[j]?
theorem xF {n:Nat} {i:Int} {j:Nat} (h:DP n i=some j):seqIndex? i n=some j/\j<n/\ -(n:Int)<=i/\i<n:=by
 unfold DP at h
 by_cases h0:0<=i
 ·rw[if_pos h0]at h
  by_cases h1:i<n
  ·rw[if_pos h1]at h
   have e:i.toNat=j:=WK h
   exact ⟨by rw[seqIndex_of h0 h1,e],by lia,by lia,h1⟩
  ·rw[if_neg h1]at h;cases h
 ·rw[if_neg h0]at h
  by_cases h1: -(n:Int)<=i
  ·rw[if_pos h1]at h
   have e:(i+n).toNat=j:=WK h
   exact ⟨by rw[seqIndex_neg (by lia) h1,e],by lia,h1,by lia⟩
  ·rw[if_neg h1]at h;cases h
theorem xG {α:Type} {xs:List α} {i:Int} {v:α} (h:mC xs i=some v): ∃j,seqIndex? i xs.length=some j/\xs[j]? =some v/\j<xs.length/\ -(xs.length:Int)<=i/\i<xs.length:=by
 unfold mC at h
 cases e:DP xs.length i with
 | none=>rw[e]at h;cases h
 | some j=>
  rw[e]at h
  obtain ⟨h1,h2,h3,h4⟩:=xF e
  exact ⟨j,h1,h,h2,h3,h4⟩
theorem dM {α:Type} {xs:List α} {j:Nat} {v:α} (h:xs[j]? =some v):mC xs (j:Int)=some v:=by
 have hj:j<xs.length:=(Ru.mp h).1
 have e:DP xs.length (j:Int)=some j:=by
  unfold DP
  rw[if_pos (by lia),if_pos (by lia)];simp
 unfold mC;rw[e];exact h
theorem mX {α:Type} (xs:List α) (v:α):mC (xs++[v]) (-1)=some v:=by
 have hl:(xs++[v]).length=xs.length+1:=by simp
 have e:DP (xs++[v]).length (-1)=some xs.length:=by
  unfold DP
  rw[hl,if_neg (by decide),if_pos (by lia)]
  congr 1
  lia
 unfold mC
 rw[e]
 show (xs++[v])[xs.length]? =some v
 simp
def Ec (b:Expr):Prop:= ∀o i,subscripted b false o i=operate [o,i] (getItem o i)
def Ln (X:Cx) (r:R2):Prop:=
 ∀(value slice:Expr) (pins:List (Addr×Obj)) (s:Shared) (σ:St) (H:Hp) (x y:V) (v u:Value) (Q:VK),Inv X pins σ H s->RelV x v->RelV y u->r x y H Q->
  subscripted slice false v u=operate [v,u] (getItem v u)->wpAny (model X.prog X.w) X.A (subscriptTail value slice v u) (EP X pins σ Q) X.xe s
def AE (X:Cx) (id:String) (r:V->List V->Hp->VK->Prop):Prop:=
 ∀(pins:List (Addr×Obj)) (s:Shared) (σ:St) (H:Hp) (x:V) (xs:List V) (v:Value) (us:List Value) (Q:VK),Inv X pins σ H s->RelV x v->Vals xs us->r x xs H Q->
  wpAny (model X.prog X.w) X.A (call (.builtin id) (v::us)) (EP X pins σ Q) X.xe s
section
variable {X:Cx} {a b:Expr} {ta tb:TE} {pos:Pos}
theorem b8 {r:R2} (hr:Ln X r) (ha:PE X a ta) (hb:PE X b tb) (hs:Ec b):PE X (.Subscript a b pos) (Nu r ta tb):=by
 intro pins s σ H Q I h
 exact Subscript_ (Hf ha hb I h fun v u s2 x y H2 I2 rx ry q=>hr a b pins s2 σ H2 x y v u Q I2 rx ry q (hs _ _))
inductive A2 (K:PySem.W.Frag) (x:V) (y:V) (H:Hp) (Q:VK):Prop
 | mk (p:_) (xs:_) (i:_) (v:_) (_:x= .ref p) (_:y= .int i) (_:a_ K H p xs) (_:mC xs i=some v) (_:Q v H):A2 K x y H Q
def Lo (K:PySem.W.Frag):R2:=A2 K
inductive A3 (x:V) (y:V) (H:Hp) (Q:VK):Prop
 | mk (z:_) (i:_) (c:_) (_:x= .str z) (_:y= .int i) (_:z.length<=sizeLine) (_:mC z.cps.toList i=some c) (_:Q (.str ⟨#[c]⟩) H):A3 x y H Q
def OR:R2:=A3
theorem Ed:Ln X (Lo X.K):=by
 intro value slice pins s σ H x y v u Q I rx ry h hs
 obtain ⟨p,xs,i,z,rfl,rfl,hq,he,q⟩:=h
 cases rx
 obtain ⟨t,rfl⟩:=ry
 obtain ⟨aF,r,pl,hz⟩:=I.list hq
 obtain ⟨j,h1,h2,h3,h4,h5⟩:=xG he
 obtain ⟨w,ew,G9⟩:=r.get h2
 have hl:=r.length
 have hn:=gY
 have fin:EP X pins σ Q w s:=⟨z,H,I,G9,q⟩
 by_cases h0:0<=i
 ·have hj:i.toNat=j:=by
   rw[seqIndex_of h0 h5]at h1
   exact WK h1
  exact item_listR pl.isList h0 (by lia) (by rw[hj];simpa using ew) fin hs
 ·have hj:(i+(aF.toArray.size:Int)).toNat=j:=by
   rw[seqIndex_neg (by lia) h4]at h1
   rw[WI, <-hl]
   exact WK h1
  exact subscriptTail_builtinR (x:=w) pl.isList.typeIs slot_list_getitem.lookup
   (wpAny_getItem_list_neg (Q:=fun r s'=>r=w/\EP X pins σ Q r s') pl.isList (by lia) (by rw[WI]<;>lia) (by lia) (by rw[hj];simpa using ew) ⟨rfl,fin⟩) hs
theorem Hq:Ln X OR:=by
 intro value slice pins s σ H x y v u Q I rx ry h hs
 obtain ⟨z,i,c,rfl,rfl,hz,he,q⟩:=h
 obtain ⟨t,rfl⟩:=rx
 obtain ⟨t',rfl⟩:=ry
 obtain ⟨j,h1,h2,h3,h4,h5⟩:=xG he
 have hl:z.cps.toList.length=z.length:=by simp[Str.length]
 rw[hl]at h1 h4 h5
 have hn:=gY
 exact tail_any (typeIs_str s z t) slot_str_getitem.lookup (getItem_str (c:=c) (by
  have e1:decide (i< -(2 ^ 63:Int))=false:=decide_eq_false (by lia)
  have e2:decide (i ≥ 2 ^ 63)=false:=decide_eq_false (by lia)
  rw[e1,e2,ZJ]) (by rw[h1];simpa using h2) ⟨.str ⟨#[c]⟩,H,I.tok _,⟨_,rfl⟩,q⟩) hs
theorem vO (aF:List Value) (n j:Nat) (u:Value):Obj.mapSeq (·.setIfInBounds j u) { cls:= .type "list",data:= .seq aF.toArray n }={ cls:= .type "list",data:= .seq (aF.set j u).toArray n }:=by
 simp[Obj.mapSeq]
theorem Inv.lst {pins:List (Addr×Obj)} {σ:St} {H:Hp} {s:Shared} {p:Addr} {xs:List V} (I:Inv X pins σ H s) (h:H p=some (.lst xs)):
  ∃(aF:List Value) (n:Nat),Vals xs aF/\s.heap.get? p=some { cls:= .type "list",data:= .seq aF.toArray n }/\xs.length<=sizeLine:=by
 obtain ⟨z,aF,n,r,e⟩:=I.bN p _ h
 exact ⟨aF,n,r,e,z⟩
theorem Inv.Hr {pins:List (Addr×Obj)} {σ:St} {H:Hp} {s:Shared} {p:Addr} {xs ys:List V} {aF its':List Value} {n n':Nat} {f:Obj->Obj} (I:Inv X pins σ H s) (h:H p=some (.lst xs))
  (ho:s.heap.get? p=some { cls:= .type "list",data:= .seq aF.toArray n }) (hf:f { cls:= .type "list",data:= .seq aF.toArray n }={ cls:= .type "list",data:= .seq its'.toArray n' }) (r:Vals ys its') (hz:ys.length<=sizeLine) (t:Nat):
  Inv X pins σ (upd H p (.lst ys)) { s with heap:=s.heap.update p f,toks:=t }:=by
 have e:(s.heap.update p f).get? p=some { cls:= .type "list",data:= .seq its'.toArray n' }:=by
  rw[Y8 f ho (by rw[hf]<;>rfl),hf]
 refine I.write (x:=p) (e:=p) (by rw[h];trivial) (.inl rfl) (fun b u hb q=>(X0 _ _ (Ne.symm hb)).trans q) ⟨_,e⟩ ?_
 exact ⟨hz,its',n',r,e⟩
inductive xH (o:V) (i:V) (v:V) (H:Hp) (Q:(Hp->Prop)):Prop
 | mk (p:_) (xs:_) (k:_) (j:_) (_:o= .ref p) (_:i= .int k) (_:H p=some (.lst xs)) (_:DP xs.length k=some j) (_:Q (upd H p (.lst (xs.set j v)))):xH o i v H Q
def Lp:V->V->V->Hp->(Hp->Prop)->Prop:=xH
theorem set_list:K8 X Lp:=by
 intro pins s σ H o i v ov iv u Q I ro ri rv h
 obtain ⟨p,xs,k,j,rfl,rfl,hp,hj,q⟩:=h
 cases ro
 obtain ⟨t,rfl⟩:=ri
 obtain ⟨aF,n,r,ho,hz⟩:=I.lst hp
 obtain ⟨h1,h2,h3,h4⟩:=xF hj
 have hl:=r.length
 have hn:=gY
 have I':Inv X pins σ (upd H p (.lst (xs.set j v))) { s with heap:=s.heap.update p (Obj.mapSeq (·.setIfInBounds j u)) }:=
  I.Hr hp ho (vO aF n j u) (r.set rv j) (by rw[List.length_set];exact hz) s.toks
 by_cases h0:0<=k
 ·have hk:k.toNat=j:=by
   rw[seqIndex_of h0 h4]at h1
   exact WK h1
  exact PySem.W.ki_setAt ho h0 (by lia) (by rw[WI, <-hl];exact h4) (by rw[hk];exact ⟨_,I',q⟩)
 ·have hk:(k+(aF.toArray.size:Int)).toNat=j:=by
   rw[seqIndex_neg (by lia) h3]at h1
   rw[WI, <-hl]
   exact WK h1
  exact PySem.W.ki_setBack ho (by lia) (by rw[WI, <-hl];exact h3) (by lia) (by rw[hk];exact ⟨_,I',q⟩)
theorem rk (lo hi:Option Int) (n:Nat):(sliceBounds lo hi none n).1=((HT.iW n 0 lo:Nat):Int)/\(sliceBounds lo hi none n).2.1=((HT.iW n n hi:Nat):Int)/\(sliceBounds lo hi none n).2.2=1:=by
 refine ⟨?_,?_,rfl⟩
 ·cases lo with
  | none=>simp[sliceBounds,HT.iW]
  | some i=>
   simp only[sliceBounds,HT.iW,Option.getD_none,show (1:Int)>0 by decide,if_true]
   by_cases h:i<0
   ·simp only[h,if_true]<;>lia
   ·simp only[h,if_false]<;>lia
 ·cases hi with
  | none=>simp[sliceBounds,HT.iW]
  | some i=>
   simp only[sliceBounds,HT.iW,Option.getD_none,show (1:Int)>0 by decide,if_true]
   by_cases h:i<0
   ·simp only[h,if_true]<;>lia
   ·simp only[h,if_false]<;>lia
theorem pB (aF:List Value) (lo hi:Option Int):slicePick aF.toArray lo hi none=((aF.drop (HT.iW aF.length 0 lo)).take (HT.iW aF.length aF.length hi - HT.iW aF.length 0 lo)).toArray:=by
 obtain ⟨h1,h2,h3⟩:=rk lo hi aF.toArray.size
 unfold slicePick
 rw[h1,h2,h3]
 simp only[sliceRange_one,pick_run,WI]<;>rfl
inductive A4 (K:PySem.W.Frag) (x:V) (lo:Option Int) (hi:Option Int) (H:Hp) (Q:VK):Prop
 | mk (a:_) (xs:_) (_:x= .ref a) (_:a_ K H a xs) (_: ∀p,H p=none->Q (.ref p) (upd H p (.lst (tT xs lo hi)))):A4 K x lo hi H Q
def Lq (K:PySem.W.Frag):V->Option Int->Option Int->Hp->VK->Prop:=A4 K
theorem Ee:Nw X (Lq X.K):=by
 intro pins s σ H x v vl vu lo hi sl Q I rx hs pl pu h
 obtain ⟨a,xs,rfl,hx,q⟩:=h
 cases rx
 obtain ⟨aF,r,ht,hz⟩:=I.list hx
 have hlen:=r.length
 refine ⟨"list",_,slot_list_getitem.lookup,ht.isList.typeIs,?_⟩
 refine wpAny_getItem_list_slice ht.isList hs pl pu .none (by simp) ?_ (by rw[WI]<;>lia)
 rw[pB, <-hlen]
 refine ⟨.ref s.heap.objs.size,_,I.laid (t':=s.toks) (o:= .lst (tT xs lo hi)) (fun b ob q=>Rw _ q) (Rv _) ?_,rfl,q _ (I.bN.fresh (Rv _))⟩
 exact ⟨XG (tU xs lo hi) hz,_,0,(r.drop (HT.iW xs.length 0 lo)).take (HT.iW xs.length xs.length hi - HT.iW xs.length 0 lo),Xr _ rfl⟩
noncomputable def gI:V->Bool
 | .eK=>true
 | .bl _=>true
 | .int _=>true
 | .str _=>true
 | _=>false
noncomputable def za:V->V->Bool
 | .eK, .eK=>true
 | .bl a, .bl b=>a==b
 | .bl a, .int b=>(if a then 1 else 0)==b
 | .int a, .bl b=>a==(if b then 1 else 0)
 | .int a, .int b=>a==b
 | .str a, .str b=>a==b
 | _,_=>false
theorem Hs {A:Around} {s:Shared} {y x:V} {u v:Value} (ry:RelV y u) (rx:RelV x v) (fy:gI y=true) (fx:gI x=true):SeqAt.EqAt A s u v (za y x):=by
 cases y with
 | eK=>
  cases ry
  cases x with
  | eK=>cases rx;exact SeqAt.EqAt.same _
  | bl b=>cases rx;exact SeqAt.EqAt.none_bool b
  | int b=>obtain ⟨t,rfl⟩:=rx;exact SeqAt.EqAt.none_int b t
  | str b=>obtain ⟨t,rfl⟩:=rx;exact SeqAt.EqAt.none_str b t
  | _=>exact absurd (show false=true from fx) Xm
 | bl a=>
  cases ry
  cases x with
  | eK=>cases rx;exact SeqAt.EqAt.bool_none a
  | bl b=>cases rx;exact SeqAt.EqAt.bool_bool a b
  | int b=>obtain ⟨t,rfl⟩:=rx;exact SeqAt.EqAt.bool_int a b t
  | str b=>obtain ⟨t,rfl⟩:=rx;exact SeqAt.EqAt.bool_str a b t
  | _=>exact absurd (show false=true from fx) Xm
 | int a=>
  obtain ⟨t',rfl⟩:=ry
  cases x with
  | eK=>cases rx;exact SeqAt.EqAt.int_none a t'
  | bl b=>cases rx;exact SeqAt.EqAt.int_bool a t' b
  | int b=>obtain ⟨t,rfl⟩:=rx;exact SeqAt.EqAt.int_int a t' b t
  | str b=>obtain ⟨t,rfl⟩:=rx;exact SeqAt.EqAt.int_str a t' b t
  | _=>exact absurd (show false=true from fx) Xm
 | str a=>
  obtain ⟨t',rfl⟩:=ry
  cases x with
  | eK=>cases rx;exact SeqAt.EqAt.str_none a t'
  | bl b=>cases rx;exact SeqAt.EqAt.str_bool a t' b
  | int b=>obtain ⟨t,rfl⟩:=rx;exact SeqAt.EqAt.str_int a t' b t
  | str b=>obtain ⟨t,rfl⟩:=rx;exact SeqAt.EqAt.str_str a t' b t
  | _=>exact absurd (show false=true from fx) Xm
 | _=>exact absurd (show false=true from fy) Xm
noncomputable def tV (x:V) (u:Value):Bool:=match u with
 | .none=>za .eK x
 | .bool b=>za (.bl b) x
 | .int i _=>za (.int i) x
 | .str z _=>za (.str z) x
 | _=>false
theorem vP {x y:V} {u:Value} (r:RelV y u) (f:gI y=true):tV x u=za y x:=by
 cases y with
 | eK=>cases r;rfl
 | bl b=>cases r;rfl
 | int i=>obtain ⟨t,rfl⟩:=r;rfl
 | str z=>obtain ⟨t,rfl⟩:=r;rfl
 | _=>exact absurd (show false=true from f) Xm
theorem jE {x:V}: ∀{xs:List V} {us:List Value},Vals xs us->xs.all gI=true->us.any (tV x)=xs.any fun y=>za y x
 | _,_, .nil,_=>rfl
 | y::xs,u::us, .cons r t,f=>by
  rw[List.all_cons,Y9]at f
  rw[Zs,Zs,vP r f.1,jE t f.2]
theorem fO {A:Around} {s:Shared} {x:V} {v:Value} (rx:RelV x v) (fx:gI x=true): ∀{xs:List V} {us:List Value},Vals xs us->xs.all gI=true-> ∀u∈us,SeqAt.EqAt A s u v (tV x u)
 | _,_, .nil,_=>fun u hu=>by cases hu
 | y::xs,u::us, .cons r t,f=>fun u' hu=>by
  rw[List.all_cons,Y9]at f
  rcases T4.mp hu with rfl | hu
  ·rw[vP r f.1];exact Hs r rx f.1 fx
  ·exact fO rx fx t f.2 u' hu
noncomputable def xI (x:V) (xs:List V):Bool:=xs.any fun y=>za y x
inductive Gd (K:PySem.W.Frag) (neg:Bool) (x:V) (y:V) (H:Hp) (Q:VK):Prop
 | mk (p:_) (xs:_) (_:y= .ref p) (_:(a_ K H p xs\/me K H p xs)) (_:gI x=true) (_:xs.all gI=true) (_:Q (.bl (if neg then !xI x xs else xI x xs)) H):Gd K neg x y H Q
def Ny (K:PySem.W.Frag) (neg:Bool):R2:=Gd K neg
theorem zc:gM X (compareOp .In) (Ny X.K false):=by
 intro pins s σ H x y v u Q I rx ry h
 obtain ⟨p,xs,rfl,hq,fx,fs,q⟩:=h
 cases ry
 rcases hq with hq | hq
 ·obtain ⟨aF,r,pl,hz⟩:=I.list hq
  refine SeqAt.in_listAt (tV x) pl.isList (fun w hw=>fO rx fx r fs w (by simpa using hw)) ⟨.bl _,H,I,rfl,?_⟩
  rw[show aF.toArray.any (tV x)=aF.any (tV x) by simp,jE r fs]
  exact q
 ·obtain ⟨aF,r,pl,hz⟩:=I.tuple hq
  refine SeqAt.in_tupleAt (tV x) pl (fun w hw=>fO rx fx r fs w (by simpa using hw)) ⟨.bl _,H,I,rfl,?_⟩
  rw[show aF.toArray.any (tV x)=aF.any (tV x) by simp,jE r fs]
  exact q
theorem rl:gM X (compareOp .NotIn) (Ny X.K true):=by
 intro pins s σ H x y v u Q I rx ry h
 obtain ⟨p,xs,rfl,hq,fx,fs,q⟩:=h
 cases ry
 rcases hq with hq | hq
 ·obtain ⟨aF,r,pl,hz⟩:=I.list hq
  refine SeqAt.notIn_listAt (tV x) pl.isList (fun w hw=>fO rx fx r fs w (by simpa using hw)) ⟨.bl _,H,I,rfl,?_⟩
  rw[show aF.toArray.any (tV x)=aF.any (tV x) by simp,jE r fs]
  exact q
 ·obtain ⟨aF,r,pl,hz⟩:=I.tuple hq
  refine SeqAt.notIn_tupleAt (tV x) pl (fun w hw=>fO rx fx r fs w (by simpa using hw)) ⟨.bl _,H,I,rfl,?_⟩
  rw[show aF.toArray.any (tV x)=aF.any (tV x) by simp,jE r fs]
  exact q
theorem rm:cZ X (.builtin "len") (fun xs H Q=> ∃p ys,xs=[.ref p]/\(a_ X.K H p ys\/me X.K H p ys)/\Q (.int ys.length) H):=by
 intro pins s σ H xs us Q I r h
 obtain ⟨p,ys,rfl,hq,q⟩:=h
 obtain ⟨u,rfl,rx⟩:=vals1 r
 cases rx
 have hn:=gY
 rcases hq with hq | hq
 ·obtain ⟨aF,r',pl,hz⟩:=I.list hq
  have hlen:=r'.length
  exact Calls.call_len_list pl.isList (by simp only[WI]<;>lia) ⟨.int ys.length,H,I.tok _,⟨s.toks+1,by rw[WI,hlen]⟩,q⟩
 ·obtain ⟨aF,r',pl,hz⟩:=I.tuple hq
  have hlen:=r'.length
  exact len_tuple pl (by simp only[WI]<;>lia) ⟨.int ys.length,H,I.tok _,⟨s.toks+1,by rw[WI,hlen]⟩,q⟩
theorem rp:cZ X (.builtin "len") (fun xs H Q=> ∃z,xs=[.str z]/\z.length<=sizeLine/\Q (.int z.length) H):=by
 intro pins s σ H xs us Q I r h
 obtain ⟨z,rfl,hz,q⟩:=h
 obtain ⟨u,rfl,t,rfl⟩:=vals1 r
 have hn:=gY
 exact len_str (by lia) ⟨.int z.length,H,I.tok _,⟨_,rfl⟩,q⟩
def OS (K:PySem.W.Frag) (T:String) (x:V) (H:Hp):Prop:=match x with
 | .str _=>T="str"
 | .int _=>T="int"
 | .ref p=>(T="list"/\ ∃xs,a_ K H p xs)\/(T="tuple"/\ ∃o,K.lookup p=some o/\o.cls= .type "tuple"/\o.dict=none)\/
   (T="dict"/\((∃aJ,H p=some (.dK aJ))\/ ∃aJ,H p=some (.dT aJ)))\/(T="set"/\ ∃S n,H p=some (.set S n))
 | _=>False
theorem A5 {pins:List (Addr×Obj)} {σ:St} {H:Hp} {s:Shared} {T:String} {x:V} {v:Value} (I:Inv X pins σ H s) (r:RelV x v) (ty:OS X.K T x H):
  s.TypeIs v T/\ ∀a,v= .ref a-> ∃ob,s.heap.get? a=some ob/\ob.dict=none:=by
 cases x with
 | str z=>
  obtain ⟨t,rfl⟩:=r
  cases (show T="str" from ty)
  exact ⟨typeIs_str s z t,fun _ e=>nomatch e⟩
 | int i=>
  obtain ⟨t,rfl⟩:=r
  cases (show T="int" from ty)
  exact ⟨typeIs_int s i t,fun _ e=>nomatch e⟩
 | ref p=>
  cases r
  rcases ty with ⟨rfl,xs,hq⟩ | ⟨rfl,o,hk,hc,hd⟩ | ⟨rfl,hk⟩ | ⟨rfl,S,n,hk⟩
  ·obtain ⟨aF,_,pl,_⟩:=I.list hq
   refine ⟨pl.isList.typeIs,fun a e=>?_⟩
   cases e
   obtain ⟨o,n,e,c,hd,_⟩:=pl
   exact ⟨o,e,hd⟩
  ·refine ⟨⟨o,I.qY p o hk,hc⟩,fun a e=>?_⟩
   cases e
   exact ⟨o,I.qY _ o hk,hd⟩
  ·have z: ∃o,s.heap.get? p=some o/\o.ExactDict:=by
    rcases hk with ⟨aJ,hk⟩ | ⟨aJ,hk⟩
    ·obtain ⟨_,_,_,_,o,_,_,e,ex,_⟩:=I.bN p _ hk
     exact ⟨o,e,ex⟩
    ·obtain ⟨_,_,_,_,o,_,_,e,ex,_⟩:=I.bN p _ hk
     exact ⟨o,e,ex⟩
   obtain ⟨o,e,ex⟩:=z
   refine ⟨⟨o,e,ex.1⟩,fun a e2=>?_⟩
   cases e2
   exact ⟨o,e,ex.2.1⟩
  ·obtain ⟨o,_,_,_,e,ex,_⟩:=I.bN p _ hk
   refine ⟨⟨o,e,ex.1⟩,fun a e2=>?_⟩
   cases e2
   exact ⟨o,e,ex.2.1⟩
 | _=>exact False.elim ty
def Lr (K:PySem.W.Frag) (T:String) (r:V->List V->Hp->VK->Prop) (to:TE):TE:=fun σ H Q=>to σ H fun x H1=>OS K T x H1/\r x [] H1 Q
def Rp (K:PySem.W.Frag) (T:String) (r:V->List V->Hp->VK->Prop) (to:TE) (t:TA):TE:=fun σ H Q=>to σ H fun x H1=>OS K T x H1/\t σ H1 fun xs H2=>r x xs H2 Q
variable {o e:Expr} {es:List Expr} {to:TE} {t:TA} {name:Str} {apos gN:Pos} {T id:String} {r:V->List V->Hp->VK->Prop}
theorem Ht (pa:PlainAttrs T) (slot:Slot T name id) (Hu:typeOf (.builtin id)=pure (.type "method_descriptor")) (hm:AE X id r) (ho:PE X o to)
  (mY:attributeBase o name X.env (eval o X.env)=eval o X.env:=by rfl) (gZ:(apos.endLine==gN.line)=true:=by rfl):PE X (.Call (.Attribute o name apos) [] [] gN) (Lr X.K T r to):=by
 intro pins s σ H Q I h
 refine wpAny_Call_method0_late mY gZ (cg (ho pins s σ H _ I h) fun v s1 ⟨x,H1,I1,r1,ty,q1⟩=>?_)
 obtain ⟨h1,h2⟩:=A5 I1 r1 ty
 exact ⟨T,id,pa,slot,Hu,h1,h2,Calls.callWith_builtin rfl (PySem.evalArgs_none (hm pins s1 σ H1 x [] v [] Q I1 r1 .nil q1))⟩
theorem Ls (pa:PlainAttrs T) (slot:Slot T name id) (Hu:typeOf (.builtin id)=pure (.type "method_descriptor")) (hm:AE X id r) (ho:PE X o to) (ha:PA X (e::es) t)
  (mY:attributeBase o name X.env (eval o X.env)=eval o X.env:=by rfl)
  (ze:((backTo gN (starEach (e::es) X.env)).all (fun x=>!x.1)&&(backToKw gN (keywordEach [] X.env)).all (fun x=>x.1.isSome)
   &&decide ((e::es).length+([]:List Keyword).length+(if ([]:List Keyword).isEmpty then 0 else 1)<30))=true:=by rfl)
  (gZ:(apos.endLine==gN.line)=true:=by rfl) (hs:starEach (e::es) X.env=(false,eval e X.env)::starEach es X.env:=by rfl) (vQ:(backTo gN (starEach es X.env)).any (·.1)=false:=by rfl):
  PE X (.Call (.Attribute o name apos) (e::es) [] gN) (Rp X.K T r to t):=by
 intro pins s σ H Q I h
 refine wpAny_Call_method_late mY ze gZ rfl (cg (ho pins s σ H _ I h) fun v s1 ⟨x,H1,I1,r1,ty,q1⟩=>?_)
 obtain ⟨h1,h2⟩:=A5 I1 r1 ty
 refine ⟨T,id,pa,slot,Hu,h1,h2,?_⟩
 have hA:=ha gN pins s1 σ H1 _ I1 q1
 rw[hs]at hA ⊢
 refine Calls.callWith_builtin (by show (false||(backTo gN (starEach es X.env)).any (·.1))=false;rw[vQ]<;>rfl) (Calls.evalArgs_plain ?_)
 exact cg hA fun us s2 ⟨vs,H2,I2,r2,q2⟩=>hm pins s2 σ H2 x vs v us Q I2 r1 r2 q2
end
def Lv (X:Cx) (id:String) (r:V->List V->Hp->VK->Prop):Prop:=
 ∀(pins:List (Addr×Obj)) (s:Shared) (σ:St) (H:Hp) (x:V) (xs:List V) (v:Value) (us:List Value) (Q:VK),Inv X pins σ H s->RelV x v->Vals xs us->r x xs H Q->
  wpAny (model X.prog X.w) X.A (call (.builtin id) (v::us)) (EP X pins σ Q) X.xe s
theorem Vals.one: ∀{x:V} {us:List Value},Vals [x] us-> ∃u,us=[u]/\RelV x u
 | _,_, .cons r .nil=>⟨_,rfl,r⟩
theorem Vals.zero: ∀{us:List Value},Vals [] us->us=[]
 | _, .nil=>rfl
theorem Vals.dropLast {xs:List V} {us:List Value} (h:Vals xs us):Vals xs.dropLast us.dropLast:=by
 induction h with
 | nil=>exact .nil
 | cons r t ih=>
  cases t with
  | nil=>exact .nil
  | cons q t'=>exact .cons r ih
theorem Vals.eraseIdx: ∀{xs:List V} {us:List Value} (i:Nat),Vals xs us->Vals (xs.eraseIdx i) (us.eraseIdx i)
 | _,_,_, .nil=> .nil
 | _,_,0, .cons _ t=>t
 | _,_,i+1, .cons r t=> .cons r (Vals.eraseIdx i t)
theorem Vals.reverse {xs:List V} {us:List Value} (h:Vals xs us):Vals xs.reverse us.reverse:=by
 induction h with
 | nil=>exact .nil
 | cons r t ih=>rw[ZG,ZG];exact Vals.append ih (.cons r .nil)
theorem vR {α:Type} (l:List α):l.eraseIdx (l.length - 1)=l.dropLast:=by
 induction l with
 | nil=>rfl
 | cons a r ih=>
  cases r with
  | nil=>rfl
  | cons b r=>
   have e:(a::b::r).length - 1=((b::r).length - 1)+1:=by
    have h1:(a::b::r).length=r.length+2:=rfl
    have h2:(b::r).length=r.length+1:=rfl
    lia
   rw[e,Zi,ih]
   all_goals rfl
theorem kH {α:Type}: ∀(l:List α) (i:Nat),(l.eraseIdx i).length<=l.length
 | [],_=>Rv _
 | _::_,0=>YS _
 | _::r,i+1=>Qap (kH r i)
section
variable {X:Cx} {pins:List (Addr×Obj)} {σ:St} {H:Hp} {s:Shared} {l b:Addr} {xs ys zs:List V}
theorem Inv.A6 {aF its':List Value} {n:Nat} {f:Array Value->Array Value} {t':Nat} (I:Inv X pins σ H s) (hH:H l=some (.lst xs))
  (e:s.heap.get? l=some { cls:= .type "list",data:= .seq aF.toArray n }) (hf:f aF.toArray=its'.toArray) (hv:Vals ys its') (hz:ys.length<=sizeLine):
  Inv X pins σ (upd H l (.lst ys)) { s with heap:=s.heap.update l (Obj.mapSeq f),toks:=t' }:=by
 have q:=PySem.IsL.update e f
 rw[hf]at q
 refine I.write (x:=l) (e:=l) (by rw[hH];exact trivial) (.inl rfl) (fun b' u hb hu=>(X0 s.heap (Obj.mapSeq f) (Ne.symm hb)).trans hu) ⟨_,q⟩ ?_
 exact ⟨hz,its',_,hv,q⟩
theorem Inv.OT {aF:List Value} {t':Nat} (I:Inv X pins σ H s) (hv:Vals ys aF) (hz:ys.length<=sizeLine):
  Inv X pins σ (upd H s.heap.objs.size (.lst ys)) { s with heap:=s.heap.push { cls:= .type "list",data:= .seq aF.toArray },toks:=t' }:=
 I.laid (fun _ _ q=>Rw _ q) (Rv _) ⟨hz,aF,0,hv,Xr _ rfl⟩
theorem Inv.fresh (I:Inv X pins σ H s):H s.heap.objs.size=none:=I.bN.fresh (Rv _)
theorem Inv.tW (I:Inv X pins σ H s) (hH:H l=some (.lst xs)):xs.length<=sizeLine/\ ∃(aF:List Value) (n:Nat),Vals xs aF/\xs.length=aF.length/\s.heap.get? l=some { cls:= .type "list",data:= .seq aF.toArray n }:=by
 obtain ⟨z,aF,n,r,e⟩:=I.bN l _ hH
 exact ⟨z,aF,n,r,r.length,e⟩
end
section
variable {X:Cx}
inductive qd (x:V) (vs:List V) (H:Hp) (Q:VK):Prop
 | mk (l:_) (xs:_) (y:_) (_:x= .ref l) (_:vs=[y]) (_:H l=some (.lst xs)) (_:xs.length<sizeLine) (_:Q .eK (upd H l (.lst (xs++[y])))):qd x vs H Q
def Ef:V->List V->Hp->VK->Prop:=qd
theorem eS:Lv X "list.append" Ef:=by
 intro pins s σ H x vs v us Q I rx rv h
 obtain ⟨l,xs,y,rfl,rfl,hH,hz,q⟩:=h
 cases rx
 obtain ⟨u,rfl,ru⟩:=rv.one
 obtain ⟨z,aF,n,r,hl,e⟩:=I.tW hH
 refine call_meets F.slot_list_append ⟨_,e,rfl⟩ F.entry_list_append (F.args_list_append_2 _ _) (PySem.list_append l aF.toArray n u (by rw[WI];lia)) ⟨e,?_⟩
 refine ⟨.eK,_,I.A6 (its':=aF++[u]) hH e (by simp) (r.append (.cons ru .nil)) ?_,rfl,q⟩
 rw[Jy,List.length_singleton]
 lia
inductive A7 (x:V) (vs:List V) (H:Hp) (Q:VK):Prop
 | mk (l:_) (xs:_) (y:_) (_:x= .ref l) (_:vs=[]) (_:H l=some (.lst xs)) (_:xs[xs.length - 1]? =some y) (_:Q y (upd H l (.lst xs.dropLast))):A7 x vs H Q
def OU:V->List V->Hp->VK->Prop:=A7
theorem Hv:Lv X "list.pop" OU:=by
 intro pins s σ H x vs v us Q I rx rv h
 obtain ⟨l,xs,y,rfl,rfl,hH,hy,q⟩:=h
 cases rx
 have OV:=rv.zero
 subst OV
 obtain ⟨z,aF,n,r,hl,e⟩:=I.tW hH
 obtain ⟨u,hu,ru⟩:=r.get hy
 have Nz:aF.toArray[aF.toArray.size - 1]? =some u:=by
  show aF.toArray[aF.length - 1]? =some u
  rw[<-Xy, <-hl]
  exact hu
 refine call_meets F.slot_list_pop ⟨_,e,rfl⟩ F.entry_list_pop (F.args_list_pop_1 _) (MeetsSeq.list_pop_last l aF.toArray n u Nz (by rw[WI];lia)) ⟨e,?_⟩
 refine ⟨y,_,I.A6 (its':=aF.dropLast) hH e ?_ r.dropLast ?_,ru,q⟩
 ·show aF.toArray.eraseIdxIfInBounds (aF.toArray.size - 1)=aF.dropLast.toArray
  rw[WI,Zq,vR]
 ·rw[List.length_dropLast]
  lia
inductive tX (x:V) (vs:List V) (H:Hp) (Q:VK):Prop
 | mk (l:_) (xs:_) (i:_) (k:_) (y:_) (_:x= .ref l) (_:vs=[.int i]) (_:H l=some (.lst xs)) (_: -(2 ^ 63)<=i) (_:i<2 ^ 63) (_:seqIndex? i xs.length=some k) (_:xs[k]? =some y) (_:Q y (upd H l (.lst (xs.eraseIdx k)))):tX x vs H Q
def Hw:V->List V->Hp->VK->Prop:=tX
theorem tY:Lv X "list.pop" Hw:=by
 intro pins s σ H x vs v us Q I rx rv h
 obtain ⟨l,xs,i,k,y,rfl,rfl,hH,h1,h2,hk,hy,q⟩:=h
 cases rx
 obtain ⟨u,rfl,ru⟩:=rv.one
 obtain ⟨t,rfl⟩:=ru
 obtain ⟨z,aF,n,r,hl,e⟩:=I.tW hH
 obtain ⟨w,hw,G9⟩:=r.get hy
 refine call_meets F.slot_list_pop ⟨_,e,rfl⟩ F.entry_list_pop (F.args_list_pop_2 _ _)
  (MeetsSeq.list_pop_at l aF.toArray n i t k w (fitsIndex_both h1 h2) (by rw[WI, <-hl];exact hk) (by rw[<-Xy];exact hw) (by rw[WI];lia)) ⟨e,?_⟩
 refine ⟨y,_,I.A6 (its':=aF.eraseIdx k) hH e ?_ (r.eraseIdx k) ?_,G9,q⟩
 ·show aF.toArray.eraseIdxIfInBounds k=(aF.eraseIdx k).toArray
  rw[Zq]
 ·have:=kH xs k
  lia
inductive mZ (x:V) (vs:List V) (H:Hp) (Q:VK):Prop
 | mk (l:_) (xs:_) (_:x= .ref l) (_:vs=[]) (_:H l=some (.lst xs)) (_:Q .eK (upd H l (.lst xs.reverse))):mZ x vs H Q
def A8:V->List V->Hp->VK->Prop:=mZ
theorem vS:Lv X "list.reverse" A8:=by
 intro pins s σ H x vs v us Q I rx rv h
 obtain ⟨l,xs,rfl,rfl,hH,q⟩:=h
 cases rx
 have OV:=rv.zero
 subst OV
 obtain ⟨z,aF,n,r,hl,e⟩:=I.tW hH
 refine call_meets F.slot_list_reverse ⟨_,e,rfl⟩ F.entry_list_reverse (F.args_list_reverse_1 _) (AutoSeq1.list_reverse_list_0 l aF.toArray n (by rw[WI];lia)) ⟨e,?_⟩
 refine ⟨.eK,_,I.A6 (its':=aF.reverse) hH e (by simp) r.reverse ?_,rfl,q⟩
 rw[Xq]
 lia
inductive A9 (x:V) (y:V) (H:Hp) (Q:VK):Prop
 | mk (l:_) (b:_) (xs:_) (zs:_) (_:x= .ref l) (_:y= .ref b) (_:H l=some (.lst xs)) (_:H b=some (.lst zs)) (_:xs.length+zs.length<=sizeLine) (_: ∀p,H p=none->Q (.ref p) (upd H p (.lst (xs++zs)))):A9 x y H Q
def OW:R2:=A9
theorem A_:gM X (binaryOp .Add) OW:=by
 intro pins s σ H x y v u Q I rx ry h
 obtain ⟨l,b,xs,zs,rfl,rfl,hH,hB,hz,q⟩:=h
 cases rx
 cases ry
 obtain ⟨z,aF,n,r,hl,e⟩:=I.tW hH
 obtain ⟨z2,Lw,n2,r2,Ge,e2⟩:=I.tW hB
 refine PySem.P.add_list e e2 ?_ (by rw[WI,WI];lia)
 have ea:aF.toArray++Lw.toArray=(aF++Lw).toArray:=by simp
 rw[ea]
 exact ⟨.ref _,_,I.OT (t':=s.toks) (r.append r2) (by rw[Jy];lia),rfl,q _ I.fresh⟩
end
end L2
namespace Rq
open PySem PySem.W PySem.Calls PyProof.Rows
theorem mi {P:Params} {h:Heap}: ∀(ns:List Int) (vs:List Value),WellAll P h vs (ns.map WData.int)->IntsAre vs ns:=by
 intro ns
 induction ns with
 | nil=>
  intro vs w
  rw[Qam]at w
  cases w
  exact .nil
 | cons n ns ih=>
  intro vs w
  rw[XM]at w
  cases w with
  | cons a b=>
   cases a
   exact .cons _ _ (ih _ b)
theorem zf {l:OpenLaw} {n:Nat} (hn:l.most=some n) {P:Params} {h:Heap} {args:List WData} {vals:List Value}
  (Eg:l.row.toRowW.claim.pre args=true) (Jx:WellAll P h vals args):
  ∃a vs ns,vals=[Value.ref a]/\args=[WData.list (ns.map WData.int)]/\h.get? a=some { cls:= .type "list",data:= .seq vs.toArray }/\IntsAre vs ns/\ns.length<=n:=by
 have TZ:WShape.hasAll [] args [.list .int]=true:=(pre_splitW Eg).1
 have hc:l.pre.holds [] { args:=args }=true:=(pre_splitW Eg).2
 obtain ⟨d,r,rfl,h1,h2⟩:=hasAllW_cons TZ
 obtain rfl:=hasAllW_nil h2
 obtain ⟨xs,rfl,h3⟩:=hasW_list h1
 obtain ⟨ns,rfl⟩:=items_int h3
 have hlen:ns.length<=n:=by
  unfold OpenLaw.pre at hc
  have h4:(WTm.not (.lt (.lit (.int (n:Int))) (.len (.arg 0)))).holds [] { args:=[.list (ns.map .int)] }=true:=by
   have h4:=(holds_andW hc).1
   rw[hn]at h4
   exact h4
  have h5:=condW_of h4 (w_not (w_lt w_lit (w_len_list (w_arg rfl))))
  rw[WH]at h5
  refine Nat.le_of_not_lt fun q=>?_
  have q':(n:Int)<((ns.length:Nat):Int):=by lia
  first
   |(rw[decide_eq_true q']at h5;exact absurd h5 (by decide))
   |(simp at h5;lia)
 cases Jx with
 | cons w1 w2=>
  cases w2
  cases w1 with
  | list ho tZ=>exact ⟨_,_,ns,rfl,rfl,ho,mi ns _ tZ,hlen⟩
theorem zg (l:OpenLaw) (args:List WData):l.row.toRowW.claim.post args (.bool true) args=true:=
 postW_of (r:=l.row.toRowW) (X:=(true==true))
  (show WShape.has [] (.bool true) .bool=true by first | rfl | decide | simp[WShape.has,WShape.arms,WShape.armsAll])
  (show (WTm.eq .res (.lit (.bool true))).value [] { args:=args,res:=some (.bool true),after:=args }=some (.bool (true==true)) from w_eq_bool (w_res rfl) w_lit) rfl
theorem t5 {l:OpenLaw} {n:Nat} {q:Program} {loose:List Str} {XP:(Str->Option Value)->Heap->Prop} {YP:World->Heap->Prop} {d:DefRec}
  (hn:l.most=some n) (Lx:d.params.defaults=[])
  (call: ∀(w:World) (s₀ s₁:Shared) (mg mb:Str->Option Value) (fa:Addr) (o:Obj) (pm cd doc:Value) (a:Addr) (vs:List Value) (ns:List Int),
   Ground q loose [] XP w s₀ mg mb s₁.heap->YP w s₁.heap->
   s₁.heap.get? fa=some o->o.data= .func (docDef d.name d.params d.body d.scope pm cd doc)->s₁.heap.CodeRec cd d.name->mg d.name=some (.ref fa)->
   s₁.heap.get? a=some { cls:= .type "list",data:= .seq vs.toArray }->IntsAre vs ns->ns.length<=n->s₁.gens= #[]->
   codeAny (model l.prog w) callerA (.call (.ref fa) ⟨[.ref a],[]⟩) (fun r s'=>r= .ok (.ret (.bool true))/\OldK s₁.heap s'.heap/\s'.os=s₁.os/\AllBare s'.gens) s₁):
  WalkO q loose XP YP l.row.toRowW d [] (fun f vs=>PySem.call f vs):=by
 intro w s₀ s₁ mg mb G Y fa o pm cd doc dV kV ho hd qZ hD hmg hg args vals as Eg T1 WG Jx Rr
 obtain rfl:dV= .none:=Dflts.none hD Lx
 obtain rfl:kV= .none:=Dflts.noKw hD
 obtain ⟨a,vs,ns,rfl,rfl,Hx,hints,hlen⟩:=zf hn Eg Jx
 refine enter_call (codeAny_mono (call w s₀ s₁ mg mb fa o pm cd doc a vs ns G Y ho (fd_plain hd) qZ hmg Hx hints hlen hg) fun r s' hq=>?_)
 obtain ⟨rfl,h2,h3,h4⟩:=hq
 exact ⟨.inl ⟨.bool true, .bool true,[],rfl,fun _=>rfl, .bool true,zg l _,fun _=>⟨List.Pairwise.nil,fun _ hm=>(nomatch hm)⟩⟩,h2,h3,h4⟩
end Rq
namespace L2
open PySem PySem.Spec PyProof.Rows
theorem qe: ∀{vs:List Value} {ns:List Int},IntsAre vs ns->Vals (ns.map V.int) vs
 | _,_, .nil=> .nil
 | _,_, .cons n t h=> .cons ⟨t,rfl⟩ (qe h)
noncomputable def cQ (s:Stmt):Arguments:=match s with
 | .FunctionDef _ a _ _ _ _ _ _ _ _=>a
 | _=>{ posonlyargs:=[],args:=[],vararg:=none,kwonlyargs:=[],kw_defaults:=[],kwarg:=none,defaults:=[] }
noncomputable def cA (s:Stmt):List Stmt:=match s with
 | .FunctionDef _ _ b _ _ _ _ _ _ _=>b
 | _=>[]
noncomputable def aq (s:Stmt):Scope:=match s with
 | .FunctionDef _ _ _ _ _ _ sc _ _ _=>sc
 | _=>{ kind:= .function,names:=[],isGenerator:=false,isCoroutine:=false }
abbrev dB:y_:=fun _ _ _ _ _ _=>False
abbrev E0:XK:=fun _ _ _=>False
theorem Ly {X:Cx}:Passes dB X E0:=fun _ _ _ _ _ _ _ h=>h.elim
structure HA (K:PySem.W.Frag) (x qual:Str) (st:Stmt) (f:Addr) (fd:FuncData):Prop where
 ex: ∃(oc:Value) (od:Option Addr) (kV doc pm:Value) (an:Option Addr) (cE ct:Value) (tF:Array (Option Value)),
  fd=PySem.W.fnOf x qual (cQ st) (cA st) (aq st) .none kV doc pm an cE ct/\K.lookup f=some ⟨oc,od, .func fd,tF⟩/\PySem.W.codeIn K cE qual=true
 kp:PySem.W.keepIn K (.ref f)=true
section
variable {P:Program} {w:World} {K:PySem.W.Frag} {mg:Str->Option Value} {base:Heap}
theorem HA.ok {x qual:Str} {st:Stmt} {f:Addr} {fd:FuncData} {N ps:List Str} {k:Nat} {sp:Sp} (F:HA K x qual st f fd) (S:aB N ps (aq st)) (len: ∀vs H Q E,sp vs H Q E->vs.length=ps.length)
  (mV: ∀(cE:Value) (A:Around) (outer:List Env) (s:Shared) (H:Hp) (vs:List V) (Q:VK) (E:XK),cF k (A.deeper (envOfC qual (aq st) s.heap.objs.size f cE))->sp vs H Q E->
   ∃t,vv (rj dB P w K mg base N qual (aq st) f cE A outer s H E).DN (cA st) t/\t { nx:=fun _ H'=>Q .eK H',rt:=Q } (start N vs) H):bp P w K mg base dB (k+1) f fd ps sp:=by
 obtain ⟨oc,od,kV,doc,pm,an,cE,ct,tF,rfl,lk,qZ⟩:=F.ex
 refine Gb lk qZ S len fun A outer s H vs Q E hr tS=>?_
 obtain ⟨t,h,q⟩:=mV cE A outer s H vs Q E hr tS
 exact ⟨t,h.DN,q⟩
theorem HA.binds {x qual:Str} {st:Stmt} {f:Addr} {fd:FuncData} {ps:List Str} (F:HA K x qual st f fd)
  (h: ∀(kV doc pm:Value) (an:Option Addr) (cE ct:Value) (us:List Value),us.length=ps.length->bindArgs (PySem.W.fnOf x qual (cQ st) (cA st) (aq st) .none kV doc pm an cE ct) ⟨us,[]⟩=pure (ps.zip us)):Binds K fd ps []:=by
 obtain ⟨oc,od,kV,doc,pm,an,cE,ct,tF,rfl,lk,qZ⟩:=F.ex
 exact .all (h kV doc pm an cE ct)
theorem Ba {x qual:Str} {st:Stmt} {f:Addr} {oc:Value} {od an:Option Addr} {tF:Array (Option Value)} {kV doc pm cE ct:Value} (l:K.lookup f=some ⟨oc,od, .func (PySem.W.fnOf x qual (cQ st) (cA st) (aq st) .none kV doc pm an cE ct),tF⟩)
  (c:PySem.W.codeIn K cE qual=true) (k:PySem.W.keepIn K (.ref f)=true):HA K x qual st f (PySem.W.fnOf x qual (cQ st) (cA st) (aq st) .none kV doc pm an cE ct):=⟨⟨oc,od,kV,doc,pm,an,cE,ct,tF,rfl,l,c⟩,k⟩
end
theorem Bb {A:Around} {k:Nat} (hr:cF k A):A.units+1<cLine:=Zy (Nat.add_le_add_left (by decide:1<=64) _) hr.units
section
variable {X:Cx}
theorem pv (i:Nat) {x:Str} {pos:Pos} (hN:X.N[i]? =some x:=by rfl) (hv:KZ X.env.scope x:=by first | exact Or.inl rfl | exact Or.inr (Or.inl rfl) | exact Or.inr (Or.inr rfl)) (hd:(x==("__debug__":Str))=false:=by decide)
  (qZ:(x==("__classdict__":Str))=false:=by decide):PE X (.Name x pos) (K3 i):=vH hN hv hd qZ
end
theorem Eh {A B:Prop} (h:B):if false=true then A else B:=by
 rw[if_neg Xm]
 exact h
theorem Lz {A B:Prop} (h:A):if true=true then A else B:=by
 rw[if_pos rfl]
 exact h
theorem gO {c A B:Prop} [Decidable c] (h1:c->A) (h2: ¬c->B):if c then A else B:=by
 by_cases h:c
 ·rw[if_pos h]
  exact h1 h
 ·rw[if_neg h]
  exact h2 h
def ay (H H':Hp):Prop:= ∀b o,H b=some o->H' b=some o
theorem ay.refl (H:Hp):ay H H:=fun _ _ h=>h
theorem ay.trans {H H1 H2:Hp} (a:ay H H1) (b:ay H1 H2):ay H H2:=fun c o h=>b c o (a c o h)
theorem ay.free {H H':Hp} (e:ay H H') {l:Addr} (h:H' l=Option.none):H l=Option.none:=by
 cases q:H l with
 | none=>rfl
 | some o=>
  rw[e l o q]at h
  cases h
theorem ay.seq {K:PySem.W.Frag} {H H':Hp} {a:Addr} {xs:List V} (e:ay H H') (h:a_ K H a xs):a_ K H' a xs:=by
 rcases h with (h | ⟨o,h⟩) | h
 ·exact .inl (.inl (e _ _ h))
 ·exact .inl (.inr ⟨o,e _ _ h⟩)
 ·exact .inr h
noncomputable def gP (env:Env):List (Str×NameKind)->List (Str×Addr)->List (Str×Addr)
 | [],acc=>acc
 |(n,k)::r,acc=>gP env r (if k== .free then (match env.cells.lookup n with | some a=>(n,a)::acc | none=>acc) else acc)
theorem eI {env:Env}: ∀(names:List (Str×NameKind)) (acc:List (Str×Addr)),(∀y∈names,y.2= .free-> ∃c,env.cells.lookup y.1=some c)->
  (forIn names acc fun (x:Str×NameKind) (cs:List (Str×Addr))=>(if (x.2==NameKind.free)=true then do let a <-cellOf env x.1;pure (ForInStep.yield ((x.1,a)::cs)) else pure (ForInStep.yield cs):Sem (ForInStep (List (Str×Addr)))))=pure (gP env names acc)
 | [],acc,_=>rfl
 |(n,k)::r,acc,h=>by
  rw[Qay]
  have hr: ∀y∈r,y.2= .free-> ∃c,env.cells.lookup y.1=some c:=fun y hy=>h y (NA _ hy)
  cases hk:(k==NameKind.free) with
  | false=>
   have e1:gP env ((n,k)::r) acc=gP env r acc:=by
    show gP env r (if (k==NameKind.free)=true then (match env.cells.lookup n with | some a=>(n,a)::acc | none=>acc) else acc)=_
    rw[hk,if_neg Xm]
   rw[e1, <-eI r acc hr]
   simp only[hk,Y0,if_false,pure_bind]
  | true=>
   obtain ⟨c,hc⟩:=h (n,k) NB (by simpa using hk)
   have e1:gP env ((n,k)::r) acc=gP env r ((n,c)::acc):=by
    have o9:env.cells.lookup n=some c:=hc
    show gP env r (if (k==NameKind.free)=true then (match env.cells.lookup n with | some a=>(n,a)::acc | none=>acc) else acc)=_
    rw[hk,o9,if_pos rfl]
   have e2:cellOf env n=pure c:=by
    have o9:env.cells.lookup n=some c:=hc
    unfold cellOf
    rw[o9]
   rw[e1, <-eI r ((n,c)::acc) hr]
   simp only[hk,if_true,e2,pure_bind]
theorem i5 {scope:Scope} {env:Env} (h: ∀y∈scope.names,y.2= .free-> ∃c,env.cells.lookup y.1=some c):closureFor scope env=pure (gP env scope.names []):=by
 have e:=eI scope.names [] h
 simp only[closureFor]
 rw[e]
 rfl
theorem kJ {env:Env} {x:Str} {c:Addr}: ∀(names:List (Str×NameKind)) (acc:List (Str×Addr)),(∀y d,acc.lookup y=some d->env.cells.lookup y=some d)->(gP env names acc).lookup x=some c->env.cells.lookup x=some c
 | [],acc,ha,h=>ha x c h
 |(n,k)::r,acc,ha,h=>by
  refine kJ r _ (fun y d q=>?_) h
  by_cases hk:(k==NameKind.free)=true
  ·rw[if_pos hk]at q
   cases e:env.cells.lookup n with
   | none=>rw[e]at q;exact ha y d q
   | some a=>
    rw[e]at q
    have q':List.lookup y ((n,a)::acc)=some d:=q
    rw[X5]at q'
    cases hy:(y==n) with
    | true=>
     rw[hy]at q'
     have:y=n:=by simpa using hy
     subst this
     rw[e];exact q'
    | false=>rw[hy]at q';exact ha y d q'
  ·rw[if_neg hk]at q;exact ha y d q
theorem t6 {env:Env} {x:Str}: ∀(names:List (Str×NameKind)) (acc:List (Str×Addr)),(∃c,acc.lookup x=some c)-> ∃c,(gP env names acc).lookup x=some c
 | [],acc,h=>h
 |(n,k)::r,acc,⟨c,hc⟩=>by
  refine t6 r _ ?_
  by_cases hk:(k==NameKind.free)=true
  ·rw[if_pos hk]
   cases e:env.cells.lookup n with
   | none=>exact ⟨c,hc⟩
   | some a=>
    show ∃c,List.lookup x ((n,a)::acc)=some c
    rw[X5]
    cases hy:(x==n) with
    | true=>exact ⟨a,rfl⟩
    | false=>exact ⟨c,hc⟩
  ·rw[if_neg hk];exact ⟨c,hc⟩
theorem m6 {env:Env} {x:Str}: ∀(names:List (Str×NameKind)) (acc:List (Str×Addr)),(∀y∈names,y.2= .free-> ∃c,env.cells.lookup y.1=some c)->names.lookup x=some .free-> ∃c,(gP env names acc).lookup x=some c
 | [],acc,_,h=>by simp at h
 |(n,k)::r,acc,hf,h=>by
  have hr: ∀y∈r,y.2= .free-> ∃c,env.cells.lookup y.1=some c:=fun y hy=>hf y (NA _ hy)
  rw[X5]at h
  cases hy:(x==n) with
  | true=>
   rw[hy]at h
   have hk:k= .free:=WK h
   subst hk
   have hx:x=n:=by simpa using hy
   subst hx
   obtain ⟨c,hc⟩:=hf (x, .free) NB rfl
   have o9:env.cells.lookup x=some c:=hc
   refine t6 r _ ⟨c,?_⟩
   rw[if_pos (show (NameKind.free==NameKind.free)=true by decide),o9]
   show List.lookup x ((x,c)::acc)=some c
   rw[X5]
   simp
  | false=>
   rw[hy]at h
   exact m6 r _ hr h
theorem jF {env:Env}: ∀{names:List (Str×NameKind)} {x:Str},names.lookup x=some .free->
  ((names.map fun (n,k)=>if (k==NameKind.free&&env.scope.kind== .function&&env.kindOf n==some .cell) then (n,NameKind.cell) else (n,k)).lookup x=some .cell\/
   (names.map fun (n,k)=>if (k==NameKind.free&&env.scope.kind== .function&&env.kindOf n==some .cell) then (n,NameKind.cell) else (n,k)).lookup x=some .free)
 | [],_,h=>by simp at h
 |(n,k)::r,x,h=>by
  have ih:= @jF env r x
  show (List.lookup x ((if (k==NameKind.free&&env.scope.kind== .function&&env.kindOf n==some .cell)=true then (n,NameKind.cell) else (n,k))::_)=_\/List.lookup x ((if (k==NameKind.free&&env.scope.kind== .function&&env.kindOf n==some .cell)=true then (n,NameKind.cell) else (n,k))::_)=_)
  cases hx:x==n with
  | true=>
   simp only[X5,hx]at h
   cases h
   by_cases hc:((NameKind.free==NameKind.free)&&env.scope.kind== .function&&env.kindOf n==some .cell)=true
   ·rw[if_pos hc];simp[X5,hx]
   ·rw[if_neg hc];simp[X5,hx]
  | false=>
   simp only[X5,hx]at h
   by_cases hc:(k==NameKind.free&&env.scope.kind== .function&&env.kindOf n==some .cell)=true
   ·rw[if_pos hc];simp only[X5,hx];exact ih h
   ·rw[if_neg hc];simp only[X5,hx];exact ih h
theorem jG {env:Env}: ∀{names:List (Str×NameKind)} {x:Str},(∀y∈names,y.2≠ .cell)->
  ((names.map fun (n,k)=>if (k==NameKind.free&&env.scope.kind== .function&&env.kindOf n==some .cell) then (n,NameKind.cell) else (n,k)).lookup x=some .cell\/
   (names.map fun (n,k)=>if (k==NameKind.free&&env.scope.kind== .function&&env.kindOf n==some .cell) then (n,NameKind.cell) else (n,k)).lookup x=some .free)->names.lookup x=some .free
 | [],_,_,h=>by simp at h
 |(n,k)::r,x,hn,h=>by
  have ih:= @jG env r x (fun y hy=>hn y (NA _ hy))
  have hk:=hn (n,k) NB
  have h':(List.lookup x ((if (k==NameKind.free&&env.scope.kind== .function&&env.kindOf n==some .cell)=true then (n,NameKind.cell) else (n,k))::(r.map fun (n,k)=>if (k==NameKind.free&&env.scope.kind== .function&&env.kindOf n==some .cell) then (n,NameKind.cell) else (n,k)))=some .cell\/List.lookup x ((if (k==NameKind.free&&env.scope.kind== .function&&env.kindOf n==some .cell)=true then (n,NameKind.cell) else (n,k))::(r.map fun (n,k)=>if (k==NameKind.free&&env.scope.kind== .function&&env.kindOf n==some .cell) then (n,NameKind.cell) else (n,k)))=some .free):=h
  cases hx:x==n with
  | true=>
   rw[X5,hx]
   by_cases hc:(k==NameKind.free&&env.scope.kind== .function&&env.kindOf n==some .cell)=true
   ·have:(k==NameKind.free)=true:=by
     rw[Y9,Y9]at hc;exact hc.1.1
    have Gf:k= .free:=by simpa using this
    rw[Gf]
   ·rw[if_neg hc]at h'
    simp only[X5,hx]at h'
    rcases h' with h' | h'
    ·exact absurd (WK h') hk
    ·exact h'
  | false=>
   rw[X5,hx]
   by_cases hc:(k==NameKind.free&&env.scope.kind== .function&&env.kindOf n==some .cell)=true
   ·rw[if_pos hc]at h';simp only[X5,hx]at h';exact ih h'
   ·rw[if_neg hc]at h';simp only[X5,hx]at h';exact ih h'
abbrev DQ:Value->Shared->Prop:=fun _ _=>False
theorem rz {prog:Program} {w:World} {A:Around} {R:Result->Shared->Prop} {s:Shared} {elt target iter:Expr} {ifs:List Expr} {scope:Scope} {pos:Pos} {it acc:Value} {env:Env} (I:Nat->Shared->Prop)
  (turn: ∀n s,I n s->wpAny (model prog w) A (pyNext it) (fun r s₁=>match r with
   | none=>R (.ok .next) s₁
   | some v=>wpAny (model prog w) A (letOwnedTupleGo target it v) (fun _ Rx=>wpAny (model prog w) A (assign target env v) (fun _ s₂=>
     wpAny (model prog w) A (forIn ifs true fun c r=>if r=true then do let ok <-isTrue c env (eval c env);pure (ForInStep.yield ok) else pure (ForInStep.yield r)) (fun ok s₃=>
      if ok=true then wpAny (model prog w) A (eval elt env) (fun x s₄=>
       wpAny (model prog w) A (call (.builtin "list.append") [acc,x]) (fun _ s₅=> ∃m,m<n/\I m s₅) DQ s₄) DQ s₃
      else ∃m,m<n/\I m s₃) DQ s₂) DQ Rx) DQ s₁) DQ s)
  (n:Nat) (h:I n s):codeAny (model prog w) A (.compLoop (.ListComp elt [⟨target,iter,ifs,0⟩] scope pos) 0 it acc env) R s:=by
 refine codeAny_loop rfl I (fun n s hI=>?_) n h
 show wpAny _ A ((compTurn (.ListComp elt [⟨target,iter,ifs,0⟩] scope pos) 0 it acc env).onRaise (fun x=>do noteFrame x env;theTreesLotGoes x)) _ _ s
 refine wpAny_noted ?_
 rw[compTurn_list]
 have no: ∀{F:Value->Shared->Prop} (e:Value) (s':Shared),DQ e s'->F e s':=fun _ _ h=>h.elim
 refine wpAny_bind (wpAny_standAt (wpAny_bind (wpAny_mono (turn n s hI) (fun r s₁ h₁=>?_) no)))
 cases r with
 | none=>exact wpAny_pure h₁
 | some v=>
  refine wpAny_bind (wpAny_mono h₁ (fun _ Rx T7=>?_) no)
  refine wpAny_bind (wpAny_mono T7 (fun _ s₂ h₂=>wpAny_bind (wpAny_mono h₂ (fun ok s₃ h₃=>?_) no)) no)
  cases ok with
  | false=>exact wpAny_pure ⟨rfl,h₃⟩
  | true=>
   exact wpAny_bind (wpAny_bind (wpAny_mono h₃ (fun x s₄ h₄=>wpAny_bind (wpAny_mono h₄ (fun _ s₅ h₅=>wpAny_pure (wpAny_pure ⟨rfl,h₅⟩)) no)) no))
noncomputable def bu (X:Cx) (scope:Scope) (C:Addr) (Nc:List Str) (s:Shared) (H:Hp) (fp:List Addr):Cx where
 prog:=X.prog
 w:=X.w
 K:=X.K
 mg:=X.mg
 base:=X.base
 A:=X.A
 N:=Nc
 s₀:=s
 H₀:=H
 env:=compEnvC scope (gP X.env scope.names []) C X.env
 outer:=X.stack
 stack:=X.stack
 ex:=fp
 fn:=fun _=>false
 calm:=X.calm
 pn:=[]
 xe:=DQ
def iX (X:Cx) (scope:Scope):List Str->List (Option Nat)->Prop
 | [],[]=>True
 | _::ys,none::os=>iX X scope ys os
 | y::ys,some j::os=>(X.N[j]? =some y/\scope.names.lookup y=some .free/\(X.env.kindOf y=some .cell\/X.env.kindOf y=some .free))/\iX X scope ys os
 | _,_=>False
noncomputable def jH (σ:St) (ix:List (Option Nat)):St:=ix.map fun o=>match o with | none=>none | some j=>(σ[j]?).getD none
def Wk:St->St->Prop
 | [],[]=>True
 | none::a,_::b=>Wk a b
 | some v::a,w::b=>w=some v/\Wk a b
 | _,_=>False
theorem Wk.len: ∀{a b:St},Wk a b->a.length=b.length
 | [],[],_=>rfl
 | none::a,_::b,h=>congrArg (· +1) (Wk.len (a:=a) (b:=b) h)
 | some _::a,_::b,h=>congrArg (· +1) (Wk.len (a:=a) (b:=b) h.2)
theorem Wk.get: ∀{a b:St} {i:Nat} {v:V},Wk a b->a[i]? =some (some v)->b[i]? =some (some v)
 | [],[],i,v,_,h=>by simp at h
 | none::a,x::b,0,v,_,h=>by simp at h
 | none::a,x::b,i+1,v,k,h=>by
  have:=Wk.get (a:=a) (b:=b) (i:=i) (v:=v) k (by simpa using h)
  simpa using this
 | some y::a,x::b,0,v,k,h=>by
  have e:y=v:=by simpa using h
  subst e
  simp[k.1]
 | some y::a,x::b,i+1,v,k,h=>by
  have:=Wk.get (a:=a) (b:=b) (i:=i) (v:=v) k.2 (by simpa using h)
  simpa using this
theorem iX.len {X:Cx} {scope:Scope}: ∀{N:List Str} {ix:List (Option Nat)},iX X scope N ix->ix.length=N.length
 | [],[],_=>rfl
 | _::ys,none::os,h=>congrArg (· +1) (iX.len (N:=ys) (ix:=os) h)
 | _::ys,some _::os,h=>congrArg (· +1) (iX.len (N:=ys) (ix:=os) h.2)
theorem iX.get {X:Cx} {scope:Scope}: ∀{N:List Str} {ix:List (Option Nat)} {i j:Nat},iX X scope N ix->ix[i]? =some (some j)-> ∃y,N[i]? =some y/\X.N[j]? =some y/\scope.names.lookup y=some .free/\(X.env.kindOf y=some .cell\/X.env.kindOf y=some .free)
 | [],[],i,j,_,h=>by simp at h
 | y::ys,none::os,0,j,_,h=>by simp at h
 | y::ys,none::os,i+1,j,k,h=>by
  obtain ⟨z,h1,h2⟩:=iX.get (N:=ys) (ix:=os) (i:=i) (j:=j) k (by simpa using h)
  exact ⟨z,by simpa using h1,h2⟩
 | y::ys,some j'::os,0,j,k,h=>by
  have e:j'=j:=by simpa using h
  subst e
  exact ⟨y,by simp,k.1⟩
 | y::ys,some j'::os,i+1,j,k,h=>by
  obtain ⟨z,h1,h2⟩:=iX.get (N:=ys) (ix:=os) (i:=i) (j:=j) k.2 (by simpa using h)
  exact ⟨z,by simpa using h1,h2⟩
theorem zh {σ:St} {ix:List (Option Nat)} {i:Nat} {v:V} (h:(jH σ ix)[i]? =some (some v)): ∃j,ix[i]? =some (some j)/\σ[j]? =some (some v):=by
 unfold jH at h
 rw[XC]at h
 cases e:ix[i]? with
 | none=>rw[e]at h;cases h
 | some o=>
  rw[e]at h
  cases o with
  | none=>cases h
  | some j=>
   refine ⟨j,rfl,?_⟩
   have h':some ((σ[j]?).getD none)=some (some v):=h
   cases q:σ[j]? with
   | none=>rw[q]at h';cases h'
   | some z=>rw[q]at h';cases h';rfl
theorem vT {X:Cx} {pins:List (Addr×Obj)} {σ:St} {H:Hp} {s:Shared} (I:Inv X pins σ H s) {scope:Scope} {Nc:List Str} {ix:List (Option Nat)} (vB:iX X scope Nc ix) (fM: ∀y∈scope.names,y.2≠ .cell)
  (fu:scope.kind= .function) (Bc: ∀y∈scope.names,y.2= .free->X.env.kindOf y.1=some .cell\/X.env.kindOf y.1=some .free) {fp:List Addr} (hf: ∀b∈fp,mf X pins H b) (LA: ∀b∈fp, ∃o,s.heap.get? b=some o)
  {C:Addr} {h':Heap} {t':Nat} {m0:Str->Option Value} (hC:s.heap.objs.size<=C) (Gg:h'.Ns C m0) (k: ∀b o,s.heap.get? b=some o->h'.get? b=some o):
  Inv (bu X scope C Nc s H fp) [] (jH σ ix) H { s with heap:=h',toks:=t' }:=by
 have Jz: ∀y∈scope.names,y.2= .free-> ∃c,X.env.cells.lookup y.1=some c:=fun y hy e=>I.ok.has y.1 (Bc y hy e)
 have jI: ∀{x:Str} {c:Addr},(gP X.env scope.names []).lookup x=some c->X.env.cells.lookup x=some c:=fun {x c} e=>kJ scope.names [] (fun y d q=>by simp at q) e
 refine ⟨⟨I.ok.mod,fu,I.ok.glob,I.ok.blt,hC,fun x y c h1 h2=>I.ok.inj x y c (jI h1) (jI h2),fun x hx=>?_,fun x c h=>?_,I.ok.hd,I.ok.frames, .inl rfl,fun b hb=>?_,I.bs,XG I.ok.DY I.sz,fun b o e hb=>?_,fun b hb hs=>?_,I.stack,I.xA⟩,
  rfl,I.bare,Un.kept k,⟨m0,Gg,fun i x v h1 h2 h3=>?_⟩,fun x c e=>?_,I.bN.fresh hC,fun x c e=>I.gU x c (jI e),fun p hp=>absurd (show p∈([]:List (Addr×Obj)) from hp) (by simp),I.bN.kept k,?_⟩
 ·have D5:scope.names.lookup x=some .free:=jG fM hx
  exact m6 scope.names [] Jz D5
 ·exact absurd (show false=true from h) (by decide)
 ·refine ⟨?_,fun x c e=>(hf b hb).2.2.2.2.1 x c (jI e)⟩
  obtain ⟨o,ho⟩:=LA b hb
  exact XB (Xv (Xj ho) hC)
 ·rcases (hf b hb).2.2.2.1 with z | z
  ·exact I.ok.AN b o e z
  ·exact absurd (Xv (Xj e) (XG I.ok.DY z)) (X_ _)
 ·rcases T4.mp (I.mQ b hs) with z | z
  ·exact (hf b hb).2.1 z
  ·exact (hf b hb).2.2.1 z
 ·obtain ⟨j,e1,e2⟩:=zh h2
  obtain ⟨y,y1,y2,y3,y4⟩:=vB.get e1
  have Ry:Nc[i]? =some x:=h1
  rw[y1]at Ry
  cases Ry
  obtain ⟨m,hn,hl⟩:=I.loc
  have hv:KZ X.env.scope x:=by
   rcases y4 with z | z
   ·exact .inr (.inl z)
   ·exact .inr (.inr z)
  obtain ⟨u,r,l⟩:=hl j x v y2 e2 hv
  refine ⟨u,r, .inr ⟨jF y3,?_⟩⟩
  rcases l with ⟨l,_⟩ | ⟨_,c,hc,q⟩
  ·rcases y4 with z | z
   ·rw[z]at l;cases l
   ·rw[z]at l;cases l
  ·obtain ⟨c',o9⟩:=m6 scope.names [] Jz y3
   have e:=jI o9
   rw[hc]at e
   cases e
   obtain ⟨o,ho,hd⟩:=q
   exact ⟨c,o9,o,k _ _ ho,hd⟩
 ·obtain ⟨v,o,ho,hd⟩:=I.cell x c (jI e)
  exact ⟨v,o,k _ _ ho,hd⟩
 ·show (jH σ ix).length=Nc.length
  unfold jH
  rw[WH]
  exact vB.len
theorem zk {X:Cx} {pins xB:List (Addr×Obj)} {σ σ':St} {H H':Hp} {s s':Shared} (I:Inv X pins σ H s) {scope:Scope} {Nc:List Str} {fp:List Addr} {C D:Addr} (J:Inv (bu X scope C Nc s H fp) xB σ' H' s')
  (hf: ∀b∈fp,mf X pins H b) (hD:s.heap.objs.size<=D) (hC:s.heap.objs.size<=C) (HB:D≠C) {aF:List Value} {n:Nat} {acc:List V} (eD:s'.heap.get? D=some { cls:= .type "list",data:= .seq aF.toArray n }) (r:Vals acc aF)
  (hz:acc.length<=sizeLine) (nD:H' D=none) {oC:Obj} (eC:s'.heap.get? C=some oC) (dC: ∀v,oC.data≠ .cell v):Inv X (pins++[(C,oC)]) σ (upd H' D (.lst acc)) s':=by
 have lt: ∀b o,s.heap.get? b=some o->b≠D:=fun b o e=>XB (Xv (Xj e) hD)
 have U:Un (xx X.stack) fp H H' s.heap s'.heap:=J.base
 have U':Un (xx X.stack) fp H (upd H' D (.lst acc)) s.heap s'.heap:=
  ⟨U.keep,U.slot,fun b o e n hx=>by rw[ao (lt b o e)];exact U.free b o e n hx,U.there,fun b xs e=>by rw[ao (aA (U.kB b xs e) nD)];exact U.kB b xs e,
   fun b o u e=>by rw[ao (aA (U.mP b o u e) nD)];exact U.mP b o u e,fun b ps e=>by
    obtain ⟨more,q⟩:=U.pj b ps e
    exact ⟨more,by rw[ao (aA q nD)];exact q⟩⟩
 have bN:jh X.prog X.w (upd H' D (.lst acc)) s'.heap:=fun b u e=>by
  by_cases hb:b=D
  ·subst hb
   rw[ah]at e;cases e
   exact ⟨hz,aF,n,r,eD⟩
  ·rw[ao hb]at e
   exact (J.bN b u e).iV (fun c v _ q=>q) (fun c q=>by rw[ao (aA q nD)];exact q) fun c xs q=>by rw[ao (aA q nD)];exact q
 have I':Inv X pins σ (upd H' D (.lst acc)) s':=I.K2 (ch:=fp) J.os U' bN J.bare fun b hb=>by
  obtain ⟨_,h1,_,h2,h3,h4⟩:=hf b hb
  exact ⟨h2,h1,h3,h4⟩
 refine I'.eL fun p hp=>?_
 rcases T3.mp hp with z | z
 ·exact I'.pin p (T6 _ z)
 ·have e:p=(C,oC):=Hy.mp z
  subst e
  refine ⟨eC,?_,Zw (Xv I.lt hC),I.D0 hC,dC⟩
  rw[ao (Ne.symm HB)]
  exact J.free
def PF (Y:Cx) (ifs:List Expr) (tc:TT):Prop:=
 ∀(pins:List (Addr×Obj)) (s:Shared) (σ:St) (H:Hp) (Q:Bool->Hp->Prop),Inv Y pins σ H s->tc σ H Q->
  wpAny (model Y.prog Y.w) Y.A (forIn ifs true fun c r=>if r=true then do let ok <-isTrue c Y.env (eval c Y.env);pure (ForInStep.yield ok) else pure (ForInStep.yield r)) (TP Y pins σ Q) Y.xe s
def LB:TT:=fun _ H Q=>Q true H
theorem fJ {Y:Cx}:PF Y [] LB:=fun _ _ _ H _ I h=>wpAny_tests_nil ⟨H,I,h⟩
theorem rA {Y:Cx} {c:Expr} {tc:TT} (h:PT Y c tc):PF Y [c] tc:=fun pins s σ H Q I hw=>wpAny_tests_one (h pins s σ H Q I hw)
def qf (J:It) (σc:St) (g:TG) (tc:TT) (te:TE) (Q:VK) (H1:Hp):Prop:=
 ∃W:Nat->Nat->List V->Hp->Prop,(∃m,W 0 m [] H1)/\ ∀i m acc H,W i m acc H->acc.length<sizeLine/\
 ((J.stop i H/\ ∀D,H D=none->Q (.ref D) (upd H D (.lst acc)))\/
  (J.go i H/\ ∀x H',J.D6 i H x H'->g x σc H' fun σ2 H2=>Wk σc σ2/\tc σ2 H2 fun b H3=>if b=true then te σ2 H3 fun v H4=> ∃m',m'<m/\W (i+1) m' (acc++[v]) H4 else ∃m',m'<m/\W (i+1) m' acc H3))
def t9 (wi:TI) (ix:List (Option Nat)) (g:TG) (tc:TT) (te:TE):TE:=fun σ H Q=>wi σ H fun J H1=>qf J (jH σ ix) g tc te Q H1
theorem qg {X:Cx} {tg iter elt:Expr} {ifs:List Expr} {scope:Scope} {pos:Pos} {wi:TI} {g:TG} {tc:TT} {te:TE} {Nc:List Str} {ix:List (Option Nat)} (hi:PI X tg iter wi) (i6:X.calm=true) (vB:iX X scope Nc ix)
  (fM: ∀y∈scope.names,y.2≠ .cell) (fu:scope.kind= .function) (Bc: ∀y∈scope.names,y.2= .free->X.env.kindOf y.1=some .cell\/X.env.kindOf y.1=some .free)
  (hG: ∀C s H fp,PG (bu X scope C Nc s H fp) tg g) (hT: ∀C s H fp,PF (bu X scope C Nc s H fp) ifs tc) (hE: ∀C s H fp,PE (bu X scope C Nc s H fp) elt te)
  {pins:List (Addr×Obj)} {s:Shared} {σ:St} {H:Hp} {Q:VK} (I:Inv X pins σ H s) (h:t9 wi ix g tc te σ H Q) {RR:Value->Addr->Result->Shared->Prop}
  (T8: ∀(D C:Addr) (oC:Obj) (m:Str->Option Value) (H':Hp) (s':Shared),s'.heap.get? C=some oC->s'.heap.Ns C m->mf X pins H' C->Inv X (pins++[(C,oC)]) σ H' s'->Q (.ref D) H'->RR (.ref D) C (.ok .next) s'):
  wpAny (model X.prog X.w) X.A (eval iter X.env) (fun v s1=>wpAny (model X.prog X.w) X.A (pyIter v) (fun it s2=>wpAny (model X.prog X.w) X.A (newList []) (fun acc s3=>
   wpAny (model X.prog X.w) X.A (newFunctionEnv scope X.env.globals (gP X.env scope.names []) [] X.env.qual none .none (some X.env)) (fun LC s4=>
    codeAny (model X.prog X.w) X.A (.compStart (.ListComp elt [⟨tg,iter,ifs,0⟩] scope pos) 0 it acc { LC with scope:=relabel scope X.env }) (RR acc LC.locals) s4) X.xe s3) X.xe s2) X.xe s1) X.xe s:=by
 refine cg (hi pins s σ H _ I h) fun v s1 h1=>cg h1 fun OC s2 h2=>?_
 obtain ⟨it,fp,tn,J,H2,e,I2,T,kq,f2,W,⟨m0,w0⟩,turn⟩:=h2
 subst e
 refine wpAny_newObj_type (wpAny_newFunctionEnv fM (by intro y hy;simp at hy) (fun h₁ HC Ei=>?_) fu)
 dsimp only at HC Ei ⊢
 generalize Gh:s2.heap.push { cls:= .type "list",dict:=none,data:= .seq ([]:List Value).toArray }=P2 at HC Ei ⊢
 have hC:P2.objs.size=s2.heap.objs.size+1:=by rw[<-Gh,Zd]
 have HB:s2.heap.objs.size≠P2.objs.size:=by rw[hC];exact XB (Yy _)
 have HE:s2.heap.objs.size<=P2.objs.size:=by rw[hC];exact YS _
 have G1: ∀b,b<s2.heap.objs.size->b≠P2.objs.size:=fun b hb=>by rw[hC];exact XB (Y3 hb)
 have old: ∀b o,s2.heap.get? b=some o->h₁.get? b=some o:=fun b o e=>Ei.extBut b o (G1 b (Xj e)) (Rw _ (Gh▸Rw _ e))
 have rB:h₁.get? s2.heap.objs.size=some { cls:= .type "list",data:= .seq ([]:List Value).toArray }:=Ei.extBut _ _ HB (Rw _ (Gh▸Xr _ rfl))
 have Rz:tn 0 h₁:=T.keep 0 _ _ kq fun b _ o e=>old b o e
 have LA: ∀b∈fp, ∃o,s2.heap.get? b=some o:=fun b hb=>let ⟨o,e,_⟩:=T.obj 0 _ kq b hb;⟨o,e⟩
 have RA: ∀b∈fp,s2.heap.objs.size≠b:=fun b hb=>let ⟨o,e⟩:=LA b hb;Zw (Xj e)
 have IY:=vT I2 vB fM fu Bc f2 LA (t':=s2.toks+([]:List (Str×Value)).length) HE HC old
 have OX: ∀b,s2.heap.objs.size<=b->b∉xx X.stack:=fun b hb hs=>by
  rcases T4.mp (I2.mQ b hs) with z | z
  ·exact absurd (Xv I2.lt hb) (by rw[z];exact X_ _)
  ·exact I2.D0 hb z
 have jI: ∀{x:Str} {c:Addr},(gP X.env scope.names []).lookup x=some c->X.env.cells.lookup x=some c:=fun {x c} e=>kJ scope.names [] (fun y d q=>by simp at q) e
 have LD: ∀x c,(gP X.env scope.names []).lookup x=some c->c≠s2.heap.objs.size:=fun x c e z=>by
  obtain ⟨v,q⟩:=I2.cell x c (jI e)
  exact absurd (q.lt) (by rw[z];exact X_ _)
 have fY: ∀{pl:List (Addr×Obj)} {H':Hp},(∀p∈pl,p.1=s2.heap.objs.size)->(∀b∈fp,H' b=none)-> ∀b∈fp,mf (bu X scope P2.objs.size Nc s2 H2 fp) pl H' b:=fun {pl H'} vA hn b hb=>by
  refine ⟨hn b hb,?_,?_, .inl hb,fun x c e=>(f2 b hb).2.2.2.2.1 x c (jI e),fun p hp=>?_⟩
  ·obtain ⟨o,e⟩:=LA b hb
   exact G1 b (Xj e)
  ·intro hs
   rcases T4.mp (I2.mQ b hs) with z | z
   ·exact (f2 b hb).2.1 z
   ·exact (f2 b hb).2.2.1 z
  ·rw[vA p hp]
   exact RA b hb
 have loop: ∀s₃:Shared,s₃={ s2 with heap:=h₁,toks:=s2.toks+([]:List (Str×Value)).length }->
   codeAny (model X.prog X.w) X.A (.compLoop (.ListComp elt [⟨tg,iter,ifs,0⟩] scope pos) 0 (.ref it) (.ref s2.heap.objs.size) (compEnvC scope (gP X.env scope.names []) P2.objs.size X.env)) (RR (.ref s2.heap.objs.size) P2.objs.size) s₃:=by
  rintro s₃ rfl
  refine rz (fun n s'=> ∃i acc aF nn H',Inv (bu X scope P2.objs.size Nc s2 H2 fp) [] (jH σ ix) H' s'/\tn i s'.heap/\(∀b∈fp,H' b=none)/\
   s'.heap.get? s2.heap.objs.size=some { cls:= .type "list",data:= .seq (aF:List Value).toArray nn }/\Vals acc aF/\H' s2.heap.objs.size=none/\W i n acc H') ?_ m0
   ⟨0,[],[],0,H2,IY,Rz,fun b hb=>(f2 b hb).1,rB, .nil,I2.bN.fresh (Rv _),w0⟩
  rintro n s3 ⟨i,acc,aF,nn,H3,I3,vz,Le,eD,rv,nD,w3⟩
  obtain ⟨hz,alt⟩:=turn i n acc H3 w3
  have IP:Inv (bu X scope P2.objs.size Nc s2 H2 fp) [(s2.heap.objs.size,{ cls:= .type "list",data:= .seq aF.toArray nn })] (jH σ ix) H3 s3:=I3.eL fun p hp=>by
   have e:p=(s2.heap.objs.size,_):=Hy.mp hp
   subst e
   refine ⟨eD,nD,HB,OX _ (Rv _),fun v z=>?_⟩
   have z':Data.seq aF.toArray nn=Data.cell v:=z
   cases z'
  have vA: ∀p∈[(s2.heap.objs.size,({ cls:= .type "list",data:= .seq aF.toArray nn }:Obj))],p.1=s2.heap.objs.size:=fun p hp=>by
   have e:p=(s2.heap.objs.size,_):=Hy.mp hp
   rw[e]
  rcases alt with ⟨stop,fin⟩ | ⟨go,step⟩
  ·refine cg (T.done (bu X scope P2.objs.size Nc s2 H2 fp) rfl rfl rfl i6 i _ s3 _ H3 DQ IP (fY vA Le) vz stop) fun r s4 zz=>?_
   obtain ⟨hr,I4⟩:=zz
   subst hr
   obtain ⟨m,hn,_⟩:=id I4.loc
   obtain ⟨oC,es,ep,eC,dC,_⟩:=id hn
   have T9:=(I4.pin (s2.heap.objs.size,_) (T6 _ (Hy.mpr rfl))).1
   have OY:=fin _ nD
   refine T8 _ _ oC m _ s4 eC hn ?_ (zk I2 I4 f2 (Rv _) HE HB T9 rv (YI hz) nD eC fun v z=>?_) OY
   ·refine I2.rh HE ?_
    rw[ao (Ne.symm HB)]
    exact I4.free
   ·rw[dC]at z;cases z
  ·refine cg (T.item (bu X scope P2.objs.size Nc s2 H2 fp) rfl rfl rfl i6 i _ s3 _ H3 DQ IP (fY vA Le) vz go) fun r s4 zz=>?_
   obtain ⟨u,hr,h4⟩:=zz
   subst hr
   refine cg h4 fun _ s5 zz=>?_
   obtain ⟨x,H5,I5,r5,y5,ku,OG⟩:=zz
   have OH:=I5.pinned (fY vA OG) (T.obj _ _ ku)
   refine cg (hG _ s2 H2 fp _ s5 _ H5 x u _ OH r5 (step x H5 y5)) fun _ s6 zz=>?_
   obtain ⟨σ6,H6,I6,wk,q6⟩:=zz
   refine cg (hT _ s2 H2 fp _ s6 σ6 H6 _ I6 q6) fun b s7 zz=>?_
   obtain ⟨H7,I7,q7⟩:=zz
   have again: ∀{H9:Hp} {s9:Shared} {m':Nat},Inv (bu X scope P2.objs.size Nc s2 H2 fp) ([(s2.heap.objs.size,({ cls:= .type "list",data:= .seq aF.toArray nn }:Obj))]++mS fp s5.heap) σ6 H9 s9->
     (s9.heap.get? s2.heap.objs.size=some { cls:= .type "list",data:= .seq aF.toArray nn }/\H9 s2.heap.objs.size=none)/\tn (i+1) s9.heap/\(∀b∈fp,H9 b=none)/\Inv (bu X scope P2.objs.size Nc s2 H2 fp) [] (jH σ ix) H9 s9:=fun {H9 s9 m'} I9=>by
    have pD:=I9.pin (s2.heap.objs.size,_) (T6 _ (Xx _ (Hy.mpr rfl)))
    refine ⟨⟨pD.1,pD.2.1⟩,T.keep _ _ _ ku fun b hb o e=>(I9.pin (b,o) (T6 _ (T6 _ (gk hb e)))).1,fun b hb=>?_,?_⟩
    ·obtain ⟨o,e,d⟩:=T.obj _ _ ku b hb
     exact (I9.pin (b,o) (T6 _ (T6 _ (gk hb e)))).2.1
    ·exact (I9.weak wk.len fun i v e=>wk.get e).eL fun p hp=>absurd hp (by simp)
   cases b with
   | false=>
    rw[if_neg Xm]at q7 ⊢
    obtain ⟨m',hm,w7⟩:=q7
    obtain ⟨⟨e7,n7⟩,t7,f7,J7⟩:=again (m':=0) I7
    exact ⟨m',hm,i+1,acc,aF,nn,H7,J7,t7,f7,e7,rv,n7,w7⟩
   | true=>
    rw[if_pos rfl]at q7 ⊢
    refine cg (hE _ s2 H2 fp _ s7 σ6 H7 _ I7 q7) fun y s8 zz=>?_
    obtain ⟨v,H8,I8,r8,m',hm,w8⟩:=zz
    obtain ⟨⟨e8,n8⟩,t8,f8,J8⟩:=again (m':=0) I8
    refine wpAny_list_append_plain (items:=aF.toArray) ⟨nn,e8⟩ (fun h9 T_ RB=>?_) (by rw[WI, <-rv.length];exact YI hz)
    obtain ⟨n9,e9⟩:=T_
    refine ⟨m',hm,i+1,acc++[v],aF++[y],n9,H8,J8.turned (t':=s8.toks) (fun b o hb e=>(RB.2 b hb).trans e) n8 HB (.inr (Rv _)) LD (fun p hp=>absurd hp (by simp[bu])),?_,f8,?_,rv.append (.cons r8 .nil),n8,w8⟩
    ·exact T.keep _ _ _ t8 fun b hb o e=>(RB.2 b (Ne.symm (RA b hb))).trans e
    ·simpa using e9
 exact codeAny_compStart_list (loop _ rfl) (T.self _ 0 _ _ _ Rz (loop _ rfl))
theorem Ej {X:Cx} {tg iter elt:Expr} {ifs:List Expr} {scope:Scope} {pos:Pos} {wi:TI} {g:TG} {tc:TT} {te:TE} (Nc:List Str) (ix:List (Option Nat)) (hi:PI X tg iter wi) (i6:X.calm=true) (vB:iX X scope Nc ix)
  (fM: ∀y∈scope.names,y.2≠ .cell) (fu:scope.kind= .function) (Bc: ∀y∈scope.names,y.2= .free->X.env.kindOf y.1=some .cell\/X.env.kindOf y.1=some .free)
  (vU: ∀x∈scope.names,x.2= .local->scope.names.lookup x.1=some .local)
  (hG: ∀C s H fp,PG (bu X scope C Nc s H fp) tg g) (hT: ∀C s H fp,PF (bu X scope C Nc s H fp) ifs tc) (hE: ∀C s H fp,PE (bu X scope C Nc s H fp) elt te)
  (hs: ∀x,foldedSetIterable iter X.env x=pure x:=by intro _;rfl):PE X (.ListComp elt [⟨tg,iter,ifs,0⟩] scope pos) (t9 wi ix g tc te):=by
 intro pins s σ H Q I h
 rw[eval_ListComp]
 have Jz: ∀y∈scope.names,y.2= .free-> ∃c,X.env.cells.lookup y.1=some c:=fun y hy e=>I.ok.has y.1 (Bc y hy e)
 refine wpAny_comprehension_free (use:=none) rfl hs (i5 Jz) fu vU (qg hi i6 vB fM fu Bc hG hT hE I h (RR:=fun acc C=>compPost (model X.prog X.w) X.A X.xe none (EP X pins σ Q) acc C) ?_)
 intro D C oC m H' s' eC hn fC I' q
 refine ⟨m,hn,fun h' OZ=>⟨.ref D,H',?_,rfl,q⟩⟩
 exact I'.gW.turned (t':=s'.toks) (fun b o hb e=>(OZ.2 b hb).trans e) fC.1 fC.2.1 fC.2.2.2.1 fC.2.2.2.2.1 fC.2.2.2.2.2
theorem Ek {X:Cx} {i:Nat} {x:Str} {tg iter elt:Expr} {ifs:List Expr} {scope:Scope} {pos Bd pos':Pos} {wi:TI} {g:TG} {tc:TT} {te:TE} (Nc:List Str) (ix:List (Option Nat)) (hN:X.N.Nodup) (O0:X.N[i]? =some x) (hx:Loc X.env.scope x)
  (HF:swapsWith (.ListComp elt [⟨tg,iter,ifs,0⟩] scope pos) (some (.Name x pos')) Bd.line X.env=pure true) (hi:PI X tg iter wi) (i6:X.calm=true) (vB:iX X scope Nc ix)
  (fM: ∀y∈scope.names,y.2≠ .cell) (fu:scope.kind= .function) (Bc: ∀y∈scope.names,y.2= .free->X.env.kindOf y.1=some .cell\/X.env.kindOf y.1=some .free)
  (vU: ∀x∈scope.names,x.2= .local->scope.names.lookup x.1=some .local)
  (hG: ∀C s H fp,PG (bu X scope C Nc s H fp) tg g) (hT: ∀C s H fp,PF (bu X scope C Nc s H fp) ifs tc) (hE: ∀C s H fp,PE (bu X scope C Nc s H fp) elt te)
  (hs: ∀x,foldedSetIterable iter X.env x=pure x:=by intro _;rfl) (hf:X.fn x=true\/X.env.scope.names.lookup x=some .local:=by first | exact .inl rfl | exact .inr rfl | assumption):
  PS X (.Assign [.Name x pos'] (.ListComp elt [⟨tg,iter,ifs,0⟩] scope pos) Bd) (AV (t9 wi ix g tc te) (tM i)):=by
 intro pins s σ H E I h
 have Jz: ∀y∈scope.names,y.2= .free-> ∃c,X.env.cells.lookup y.1=some c:=fun y hy e=>I.ok.has y.1 (Bc y hy e)
 rw[exec_Assign_Name_used _ _ _ _ HF]
 refine wpAny_bind (wpAny_standAt (wpAny_bind ?_))
 show wpAny _ X.A (do let _ <-comprehension (.ListComp elt [⟨tg,iter,ifs,0⟩] scope pos) scope X.env _ (newList []) false (eval iter X.env) (some (assign (.Name x pos') X.env))) _ _ s
 refine wpAny_bind (wpAny_mono (wpAny_comprehension_free (use:=some (assign (.Name x pos') X.env)) (Q:=fun _ s'=>SP X pins E .next s') rfl hs (i5 Jz) fu vU
  (qg hi i6 vB fM fu Bc hG hT hE I h (RR:=fun acc C=>compPost (model X.prog X.w) X.A X.xe (some (assign (.Name x pos') X.env)) (fun _ s'=>SP X pins E .next s') acc C) ?_)) (fun _ s' hq=>wpAny_pure (wpAny_pure hq)) fun _ _ e=>e)
 intro D C oC m H' s' eC hn fC I' q
 show wpAny _ X.A (assign (.Name x pos') X.env (.ref D)) _ _ _
 refine wpAny_assign_Name (cY I' hN O0 hx (show RelV (.ref D) _ from rfl) (fun Hn RC=>?_) hf)
 have pC:=RC.pin (C,oC) (T6 _ (T6 _ (Hy.mpr rfl)))
 refine ⟨m,?_,fun h' OZ=>?_⟩
 ·obtain ⟨o,es,ep,e,r⟩:=hn
  rw[eC]at e;cases e
  exact ⟨oC,es,ep,pC.1,r⟩
 ·refine ⟨_,H',RC.gW.turned (t':=Hn.toks) (fun b o hb e=>(OZ.2 b hb).trans e) fC.1 fC.2.1 fC.2.2.2.1 fC.2.2.2.2.1 fC.2.2.2.2.2,q⟩
noncomputable def S (l:List Nat):Str:=⟨l.toArray⟩
theorem bV (l:List Nat):(S l).cps.toList=l:=by simp[S]
theorem cL (l:List Nat):(S l).length=l.length:=by simp[S,Str.length]
theorem rC (l:List Nat):(S l).cps.size=l.length:=by simp[S]
theorem Be {a b:List Nat} (h:S a=S b):a=b:=by
 have:=congrArg (fun x:Str=>x.cps.toList) h
 simpa [S]using this
theorem O1 (x:Str):x=S x.cps.toList:=by cases x;simp[S]
theorem Gi (a b:List Nat):S a++S b=S (a++b):=by
 apply Str.ext'
 apply ZO.mp
 simp[S,Str.cps_append]
theorem Gj {a b:List Nat}:decide (V.str (S a)=V.str (S b))=decide (a=b):=by
 by_cases h:a=b
 ·subst h;simp
 ·rw[decide_eq_false h,decide_eq_false]
  intro q
  exact h (Be (V.str.inj q))
noncomputable def cut {α:Type} (xs:List α) (lo hi:Option Int):List α:=(xs.drop (HT.iW xs.length 0 lo)).take (HT.iW xs.length xs.length hi - HT.iW xs.length 0 lo)
theorem t_ (n d:Nat) (v:Int):max 0 (min (if v<0 then v+(n:Int) else v) (n:Int))=((HT.iW n d (some v):Nat):Int):=by
 show _=(((if v<0 then (v+(n:Int)).toNat else min v.toNat n):Nat):Int)
 by_cases hv:v<0
 ·simp only[if_pos hv];lia
 ·simp only[if_neg hv];lia
theorem lM (lo hi:Option Int) (n:Nat):Builtin.Str.strSliceIndices lo hi 1 n=(List.range (HT.iW n n hi - HT.iW n 0 lo)).map (HT.iW n 0 lo+ ·):=by
 have h1:(1:Int)>0:=by decide
 rw[<-sliceRange_one]
 unfold Builtin.Str.strSliceIndices
 simp only[h1,if_true]
 congr 1
 ·cases lo with
  | none=>rfl
  | some v=>exact t_ n 0 v
 ·cases hi with
  | none=>rfl
  | some v=>exact t_ n n v
theorem El (l:List Nat) (lo hi:Option Int):Txt.slice (S l) lo hi=S (cut l lo hi):=by
 have hx:((Builtin.Str.strSliceIndices lo hi 1 (S l).length).filterMap ((S l).cps[·]?))=cut l lo hi:=by
  rw[cL,lM,pick_run,bV]
  rfl
 have hlen:(Builtin.Str.strSliceIndices lo hi 1 (S l).length).length=HT.iW l.length l.length hi - HT.iW l.length 0 lo:=by
  rw[cL,lM,WH,List.length_range]
 unfold Txt.slice
 by_cases hc:((1:Int)==1&&(Builtin.Str.strSliceIndices lo hi 1 (S l).length).length==(S l).length)=true
 ·rw[if_pos hc]
  rw[hlen,cL]at hc
  have e:HT.iW l.length l.length hi - HT.iW l.length 0 lo=l.length:=by simpa using hc
  have h2:=HT.Ho l.length l.length (Rv _) hi
  have e0:HT.iW l.length 0 lo=0\/l.length=0:=by lia
  unfold cut
  rw[e]
  rcases e0 with z | z
  ·rw[z];simp
  ·have:l=[]:=Yn z
   subst this
   simp
 ·rw[if_neg hc]
  rw[hx]
  rfl
section
variable {X:Cx}
theorem gQ {x:Str} {j pos} (l:List Nat) (h:x=S l):PE X (.Constant (.str x) j pos) (tC (.str (S l))):=by
 subst h
 exact G3
def Bf:R2:=fun x y H Q=> ∃a b,x= .str (S a)/\y= .str (S b)/\a.length+b.length<=sizeLine/\Q (.str (S (a++b))) H
theorem fv:gM X (binaryOp .Add) Bf:=by
 intro pins s σ H x y v u Q I rx ry h
 obtain ⟨a,b,rfl,rfl,hz,q⟩:=h
 exact vM pins s σ H _ _ v u Q I rx ry ⟨S a,S b,rfl,rfl,by rw[cL,cL];exact hz,by rw[Gi];exact q⟩
theorem Bg:gM X (inplaceOp .Add) Bf:=by
 intro pins s σ H x y v u Q I rx ry h
 obtain ⟨a,b,rfl,rfl,hz,q⟩:=h
 exact tQ pins s σ H _ _ v u Q I rx ry ⟨S a,S b,rfl,rfl,by rw[cL,cL];exact hz,by rw[Gi];exact q⟩
inductive xJ (x:V) (y:V) (H:Hp) (Q:VK):Prop
 | mk (l:_) (i:_) (c:_) (_:x= .str (S l)) (_:y= .int i) (_:l.length<=sizeLine) (_:mC l i=some c) (_:Q (.str (S [c])) H):xJ x y H Q
def LF:R2:=xJ
theorem mj:Ln X LF:=by
 intro value slice pins s σ H x y v u Q I rx ry h hs
 obtain ⟨l,i,c,rfl,rfl,hz,he,q⟩:=h
 exact Hq value slice pins s σ H _ _ v u Q I rx ry ⟨S l,i,c,rfl,rfl,by rw[cL];exact hz,by rw[bV];exact he,q⟩ hs
def O2:V->Option Int->Option Int->Hp->VK->Prop:=fun x lo hi H Q=> ∃l,x= .str (S l)/\l.length<=sizeLine/\Q (.str (S (cut l lo hi))) H
theorem jJ:Nw X O2:=by
 intro pins s σ H x v vl vu lo hi sl Q I rx hs pl pu h
 obtain ⟨l,rfl,hz,q⟩:=h
 obtain ⟨t,rfl⟩:=rx
 refine ⟨"str",_,F.slot_str_getitem.lookup,typeIs_str _ _ _,?_⟩
 have key: ∀(a b:Option (Int×Tok)),vl=partValue a->vu=partValue b->a.map (·.1)=lo->b.map (·.1)=hi->wpAny (model X.prog X.w) X.A (getItem (.str (S l) t) (.ref sl)) (EP X pins σ Q) X.xe s:=by
  rintro a b rfl rfl rfl rfl
  obtain ⟨o,e,c,d⟩:=hs
  refine wpAny_getItem_str_slice (l:=a) (u:=b) (st:=none) ⟨o,e,c,d⟩ rfl (post_val_or_str ⟨?_,fun t' k=>?_⟩)
  ·exact XG (Txt.slice_le (S l) _ _) (by rw[cL];exact hz)
  ·exact ⟨.str (S (cut l _ _)),H,I.tok _,⟨t',congrArg (fun z=>Value.str z t') (El l _ _)⟩,q⟩
 cases pl with
 | none=>
  cases pu with
  | none=>exact key none none rfl rfl rfl rfl
  | int i ti=>exact key none (some (i,ti)) rfl rfl rfl rfl
 | int i ti=>
  cases pu with
  | none=>exact key (some (i,ti)) none rfl rfl rfl rfl
  | int j tj=>exact key (some (i,ti)) (some (j,tj)) rfl rfl rfl rfl
theorem aQ:cZ X (.builtin "len") (fun xs H Q=> ∃l,xs=[.str (S l)]/\l.length<=sizeLine/\Q (.int l.length) H):=by
 intro pins s σ H xs us Q I r h
 obtain ⟨l,rfl,hz,q⟩:=h
 exact rp pins s σ H _ us Q I r ⟨S l,rfl,by rw[cL];exact hz,by rw[cL];exact q⟩
noncomputable def bw (l:List Nat):List V:=l.map fun c=>V.str (S [c])
theorem vV {l:List Nat}: ∀{acc:List Value},acc.length=l.length->(∀j v,acc[j]? =some v->SignAt (S l) j v)->Vals (bw l) acc:=by
 induction l with
 | nil=>intro acc h _;have:acc=[]:=Yn h;subst this;exact .nil
 | cons c l ih=>
  intro acc h k
  cases acc with
  | nil=>cases h
  | cons a acc=>
   refine .cons ?_ (ih (by simpa using h) fun j v e=>?_)
   ·obtain ⟨c',u,e1,e2⟩:=k 0 a rfl
    have:c=c':=by simpa [S]using e1
    subst this
    exact ⟨u,e2⟩
   ·obtain ⟨c',u,e1,e2⟩:=k (j+1) v (by simpa using e)
    exact ⟨c',u,by simpa [S]using e1,e2⟩
theorem vW (hc:X.calm=true):cZ X (.type "list") (fun xs H Q=> ∃l,xs=[.str (S l)]/\l.length<=sizeLine/\ ∀p,H p=none->Q (.ref p) (upd H p (.lst (bw l)))):=by
 intro pins s σ H xs us Q I r h
 obtain ⟨l,rfl,hz,q⟩:=h
 obtain ⟨u,rfl,t,rfl⟩:=vals1 r
 refine call_list_str (I.ok.hd hc) (S l) t (fun h' tk da c' hk e rB=>?_) (by rw[rC];exact hz)
 obtain ⟨h1,h2⟩:=rB
 rw[rC]at h1
 refine ⟨.ref s.heap.objs.size,_,I.laid (t':=tk) (o:= .lst (bw l)) hk (Rv _) ?_,rfl,q _ I.fresh⟩
 exact ⟨by unfold bw;rw[WH];exact hz,da.toList,c',vV (by simpa using h1) (fun j v e=>h2 j v (by simpa using e)),by simpa using e⟩
inductive Bh (x:V) (y:V) (H:Hp) (Q:VK):Prop
 | mk (c:_) (l:_) (_:x= .str (S [c])) (_:y= .str (S l)) (_:Q (.bl (decide (c∈l))) H):Bh x y H Q
def O3:R2:=Bh
theorem vX:gM X (compareOp .In) O3:=by
 intro pins s σ H x y v u Q I rx ry h
 obtain ⟨c,l,rfl,rfl,q⟩:=h
 refine y6 pins s σ H _ _ v u Q I rx ry ⟨S [c],S l,rfl,rfl,?_⟩
 have e:=StrLaws.found_one (S l) c
 rw[bV]at e
 rw[show (S [c])=(⟨#[c]⟩:Str) from rfl,e]
 exact q
end
theorem qh (s sub:Str) (hi:Nat): ∀(l:List Nat) (st:Array Nat×Nat),1<=st.fst.size->(forIn l st (StrLaws.occBody s sub hi 1)).run.fst=st.fst
 | [],st,h=>rfl
 | a::l,st,h=>by
  rw[Qay]
  unfold StrLaws.occBody
  rw[if_neg (fun z=>absurd z.1.1.1 (Nat.not_lt.mpr h))]
  exact qh s sub hi l _ h
theorem occ_first (s sub:Str) (hi:Nat): ∀(l:List Nat) (free:Nat),(∀i∈l,free<=i)->
  (forIn l ((#[]:Array Nat),free) (StrLaws.occBody s sub hi 1)).run.fst.toList=(l.find? fun i=>decide (i+sub.length<=hi)&&Builtin.Str.subAt s sub i).toList
 | [],free,_=>rfl
 | a::l,free,hf=>by
  rw[Qay,YO]
  unfold StrLaws.occBody
  have ha:free<=a:=hf a NB
  by_cases hc:a+sub.length<=hi/\Builtin.Str.subAt s sub a=true
  ·rw[if_pos ⟨⟨⟨by simp,ha⟩,hc.1⟩,hc.2⟩]
   have:(decide (a+sub.length<=hi)&&Builtin.Str.subAt s sub a)=true:=by simp[hc]
   rw[this]
   show (forIn l (#[].push a,a+sub.length) (StrLaws.occBody s sub hi 1)).run.fst.toList=_
   rw[qh s sub hi l _ (by simp)]
   rfl
  ·rw[if_neg (fun z=>hc ⟨z.1.2,z.2⟩)]
   have:(decide (a+sub.length<=hi)&&Builtin.Str.subAt s sub a)=false:=by
    cases h1:decide (a+sub.length<=hi) with
    | false=>rfl
    | true=>
     cases h2:Builtin.Str.subAt s sub a with
     | false=>rfl
     | true=>exact absurd ⟨of_decide_eq_true h1,h2⟩ hc
   rw[this]
   exact occ_first s sub hi l free fun i AF=>hf i (NA _ AF)
theorem subAt_one (l:List Nat) (c i:Nat):Builtin.Str.subAt (S l) (S [c]) i=(l[i]? ==some c):=by
 unfold Builtin.Str.subAt
 rw[cL]
 show ((S l).cps.extract i (i+1)== #[c])=_
 have e:((S l).cps.extract i (i+1))=((l.drop i).take 1).toArray:=by
  apply ZO.mp
  simp[S,List.take_drop]
 rw[e]
 by_cases h:i<l.length
 ·have e2:(l.drop i).take 1=[l[i]]:=by
   rw[YM h];rfl
  rw[e2,Hz h]
  by_cases hc:l[i]=c
  ·rw[hc];simp
  ·have h1:([l[i]].toArray== #[c])=false:=by
    rw[beq_eq_false_iff_ne]
    intro z
    apply hc
    have:=congrArg Array.toList z
    simpa using this
   have h2:(some l[i]==some c)=false:=by simpa using hc
   rw[h1,h2]
 ·have e2:(l.drop i).take 1=[]:=by rw[Zp (by lia)];rfl
  rw[e2,YL (by lia)]
  rfl
theorem m7 (l:List Nat) (c:Nat): ∀(k n:Nat),k+n=l.length+1->((List.range' k n).find? fun i=>decide (i+1<=l.length)&&(l[i]? ==some c))=if c∈l.drop k then some (k+(l.drop k).idxOf c) else none
 | k,0,h=>by
  have:l.drop k=[]:=Zp (by lia)
  rw[this];simp
 | k,n+1,h=>by
  rw[List.range'_succ,YO]
  by_cases hk:k<l.length
  ·have e:l.drop k=l[k]::l.drop (k+1):=YM hk
   rw[Hz hk,e]
   by_cases hc:l[k]=c
   ·have:(decide (k+1<=l.length)&&(some l[k]==some c))=true:=by simp[hc];lia
    rw[this,if_pos (by simp[hc])]
    simp[hc]
   ·have:(decide (k+1<=l.length)&&(some l[k]==some c))=false:=by simp[hc]
    rw[this,m7 l c (k+1) n (by lia)]
    have o9: ¬c=l[k]:=fun z=>hc z.symm
    by_cases hm:c∈l.drop (k+1)
    ·rw[if_pos hm,if_pos (NA _ hm),List.idxOf_cons]
     have:(l[k]==c)=false:=by simpa using hc
     rw[this]
     show some (k+1+List.idxOf c (List.drop (k+1) l))=some (k+(List.idxOf c (List.drop (k+1) l)+1))
     congr 1
     lia
    ·rw[if_neg hm,if_neg (by intro z;rcases T4.mp z with z | z;exact o9 z;exact hm z)]
  ·have:l.drop k=[]:=Zp (by lia)
   have e1:(decide (k+1<=l.length)&&(l[k]? ==some c))=false:=by
    rw[decide_eq_false (by lia)];rfl
   have e2:l.drop (k+1)=[]:=Zp (by lia)
   rw[e1,m7 l c (k+1) n (by lia),this,e2]
   simp
theorem LG (l:List Nat) (c:Nat):Builtin.Str.occurrences (S l) (S [c]) 0 (S l).length 1=if c∈l then [l.idxOf c] else []:=by
 rw[StrLaws.occ_eq,occ_first _ _ _ _ 0 fun _ _=>XI _]
 have e:(fun i=>decide (i+(S [c]).length<=(S l).length)&&Builtin.Str.subAt (S l) (S [c]) i)=fun i=>decide (i+1<=l.length)&&(l[i]? ==some c):=by
  funext i
  rw[subAt_one,cL,cL]
  rfl
 rw[e,cL,YQ,m7 l c 0 (l.length+1) (by lia),Yl]
 by_cases h:c∈l
 ·rw[if_pos h,if_pos h,YD];rfl
 ·rw[if_neg h,if_neg h];rfl
section
variable {X:Cx}
inductive qj (x:V) (vs:List V) (H:Hp) (Q:VK):Prop
 | mk (l:_) (c:_) (_:x= .str (S l)) (_:vs=[.str (S [c])]) (_:c∈l) (_:Q (.int (l.idxOf c:Nat)) H):qj x vs H Q
def Em:V->List V->Hp->VK->Prop:=qj
theorem dD:AE X "str.index" Em:=by
 intro pins s σ H x xs v us Q I rx rv h
 obtain ⟨l,c,rfl,rfl,hc,q⟩:=h
 obtain ⟨t,rfl⟩:=rx
 obtain ⟨u,rfl,t',rfl⟩:=vals1 rv
 exact SC.index (i:=l.idxOf c) (rest:=[]) (by rw[LG,if_pos hc]) ⟨.int (l.idxOf c:Nat),H,I.tok _,⟨_,rfl⟩,q⟩
def LH (f:Nat->Bool):V->List V->Hp->VK->Prop:=fun x vs H Q=> ∃c,x= .str (S [c])/\vs=[]/\c<128/\Q (.bl (f c)) H
def LI (f:Nat->Nat):V->List V->Hp->VK->Prop:=fun x vs H Q=> ∃c,x= .str (S [c])/\vs=[]/\c<128/\Q (.str (S [f c])) H
noncomputable def bW (c:Nat):Bool:=decide (97<=c)&&decide (c<=122)
theorem En: ∀c,c<128->Txt.islower ⟨#[c]⟩=bW c:=by decide+kernel
theorem m8:AE X "str.islower" (LH bW):=by
 intro pins s σ H x xs v us Q I rx rv h
 obtain ⟨c,rfl,rfl,hc,q⟩:=h
 obtain ⟨t,rfl⟩:=rx
 have e:us=[]:=by cases rv;rfl
 subst e
 exact SC.islower ⟨.bl (bW c),H,I,congrArg Value.bool (En c hc),q⟩
theorem upper_one {c:Nat} (hc:c<128):Txt.upper (S [c])=S [up1 c]:=by
 rw[upper_ascii (by intro d hd;rw[bV]at hd;simp at hd;lia)]
 simp[S]
theorem qk {c:Nat} (hc:c<128):Txt.lower (S [c])=S [lo1 c]:=by
 rw[lower_ascii (by intro d hd;rw[bV]at hd;simp at hd;lia)]
 simp[S]
theorem Gk (c:Nat):Builtin.Str.tooLong (S [c]).length=false:=by
 rw[cL]
 show Builtin.Str.tooLong 1=false
 decide
theorem Bi:AE X "str.upper" (LI up1):=by
 intro pins s σ H x xs v us Q I rx rv h
 obtain ⟨c,rfl,rfl,hc,q⟩:=h
 obtain ⟨t,rfl⟩:=rx
 have e:us=[]:=by cases rv;rfl
 subst e
 exact SC.upper (by rw[upper_one hc];exact Gk _) ⟨.str (S [up1 c]),H,I.tok _,⟨_,congrArg (fun z=>Value.str z _) (upper_one hc)⟩,q⟩
theorem ua:AE X "str.lower" (LI lo1):=by
 intro pins s σ H x xs v us Q I rx rv h
 obtain ⟨c,rfl,rfl,hc,q⟩:=h
 obtain ⟨t,rfl⟩:=rx
 have e:us=[]:=by cases rv;rfl
 subst e
 exact SC.lower (by rw[qk hc];exact Gk _) ⟨.str (S [lo1 c]),H,I.tok _,⟨_,congrArg (fun z=>Value.str z _) (qk hc)⟩,q⟩
theorem Bj: ∀(ls:List (List Nat)) (a:Array Nat),(ls.map S).foldl (fun acc p=>acc++(S []).cps++p.cps) a=a++ls.flatten.toArray
 | [],a=>by simp
 | l::ls,a=>by
  rw[XM,YN,Bj ls]
  simp[S]
theorem HG (ls:List (List Nat)):Txt.join (S []) (ls.map S)=S ls.flatten:=by
 unfold Txt.join Builtin.Str.glued
 cases ls with
 | nil=>rfl
 | cons l ls=>
  show Str.mk ((List.map S ls).foldl (fun acc p=>acc++(S []).cps++p.cps) (S l).cps)=_
  rw[Bj]
  simp[S]
theorem jl: ∀{ls:List (List Nat)} {us:List Value},Vals (ls.map fun l=>V.str (S l)) us->StrsAre us (ls.map S)
 | [],us,r=>by cases r;exact .nil
 | l::ls,us,r=>by
  cases r with
  | cons r1 r2=>
   obtain ⟨t,rfl⟩:=r1
   exact .cons _ t (jl r2)
inductive ub (K:PySem.W.Frag) (x:V) (vs:List V) (H:Hp) (Q:VK):Prop
 | mk (p:Addr) (ls:List (List Nat)) (_:x= .str (S [])) (_:vs=[.ref p]) (_:a_ K H p (ls.map fun l=>V.str (S l))) (_:(ls.map List.length).sum<=16777216) (_:Q (.str (S ls.flatten)) H):ub K x vs H Q
def Bk (K:PySem.W.Frag):V->List V->Hp->VK->Prop:=ub K
theorem Bl:AE X "str.join" (Bk X.K):=by
 intro pins s σ H x xs v us Q I rx rv h
 obtain ⟨p,ls,rfl,rfl,hq,hz,q⟩:=h
 obtain ⟨t,rfl⟩:=rx
 obtain ⟨u,rfl,ru⟩:=vals1 rv
 cases ru
 obtain ⟨aF,r,pl,_⟩:=I.list hq
 have e:(S []).length=0:=rfl
 refine join_list pl.isList (by simpa using jl r) ?_ fun t' k=>?_
 ·rw[e,Nat.mul_zero,YZ,Zm]
  have e2:(Str.length ∘ S)=List.length:=by funext l;exact cL l
  have e3:((fun x:Str=>x.length) ∘ S)=List.length:=by funext l;exact cL l
  first | (rw[e2];exact hz) | (rw[e3];exact hz)
 ·exact ⟨.str (S ls.flatten),H,I.tok _,⟨t',congrArg (fun z=>Value.str z t') (HG ls)⟩,q⟩
theorem zl (hc:X.calm=true):cZ X (.builtin "all") (fun xs H Q=> ∃(p:Addr) (bs:List Bool),xs=[.ref p]/\a_ X.K H p (bs.map V.bl)/\Q (.bl (bs.all id)) H):=by
 intro pins s σ H xs us Q I r h
 obtain ⟨p,bs,rfl,hq,q⟩:=h
 obtain ⟨u,rfl,ru⟩:=vals1 r
 cases ru
 obtain ⟨aF,rv,pl,hz⟩:=I.list hq
 have hlen:aF.length=bs.length:=by rw[<-rv.length,WH]
 have hp:p<s.heap.objs.size:=by
  obtain ⟨o,n,e,_⟩:=pl
  exact Xj e
 refine call_all_walk (wpAny_pyIter_list pl.isList ?_)
 refine ⟨s.heap.objs.size,_,_,_,_,_,fun i=>(bs[i]?).getD true,rfl,Walks.list (A:=X.A.in1) (I.ok.hd hc) s.heap.objs.size p (XB hp) aF.toArray,⟨⟨_,Xr _ rfl,rfl,rfl⟩,?_⟩,fun i v s' Q' E' hP hQ=>?_,fun h' tk hk=>?_⟩
 ·obtain ⟨o,ho,hr⟩:=pl.isList
  exact ⟨o,Rw _ ho,hr⟩
 ·have LJ:aF[i]? =some v:=by simpa using hP
  have hi:i<bs.length:=by rw[<-hlen];exact (Ru.mp LJ).1
  have hb:(bs.map V.bl)[i]? =some (V.bl bs[i]):=by rw[XC,Hz hi];rfl
  obtain ⟨u,hu,ru⟩:=rv.get hb
  rw[LJ]at hu;cases hu
  cases (show v=Value.bool bs[i] from ru)
  have e:(bs[i]?).getD true=bs[i]:=by rw[Hz hi];rfl
  have NC:Q' ((bs[i]?).getD true) s':=hQ
  rw[e]at NC
  exact wpAny_pure NC
 ·have e:((List.range aF.toArray.size).all fun i=>(bs[i]?).getD true)=bs.all id:=by
   rw[WI,hlen]
   clear hq rv hlen q
   rw[Zu,Yg,Yg]
   constructor
   ·intro h b hb
    obtain ⟨i,hi,e⟩:=List.getElem_of_mem hb
    have:=h i (Yu.mpr hi)
    rw[Hz hi,e]at this
    exact this
   ·intro h i hi
    have AF:=Yu.mp hi
    rw[Hz AF]
    exact h _ (YA AF)
  have I1:Inv X pins σ H { s with heap:=h',toks:=tk }:=by
   have I0:Inv X pins σ H { s with heap:=s.heap.push { cls:= .type "list_iterator",data:= .fields #[.ref p, .int 0 0] } }:=I.kept (t':=s.toks) fun b o e=>Rw _ e
   have f:=I.rh (H':=H) (b:=s.heap.objs.size) (Rv _) I.fresh
   have J:=I0.turned (h':=h') (t':=tk) (it:=s.heap.objs.size) (fun b o hb e=>hk b o (by simpa using hb) e) f.1 f.2.1 f.2.2.2.1 f.2.2.2.2.1 f.2.2.2.2.2
   exact J
  exact ⟨.bl (bs.all id),H,I1,by rw[e];rfl,q⟩
end
end L2
namespace L2.F2
open PySem PySem.Spec PyProof.Rows
theorem ql:Manifest.owners.lookup (String.ofList ['d','e','s','r','e','v','e','r'].reverse)=some Manifest.sig_reversed:=by kernel_rfl
theorem cM:Slot "reversed" "__next__" "reversed.__next__":=
 .of (owner:="reversed") (n:="__next__") (by rw[typeLookup_type,builtinLookup_eq_fast];kernel_rfl) (by decide+kernel) (by decide+kernel) (by decide+kernel)
  (by first | exact .inl (by decide+kernel) | exact .inr (by decide+kernel)) (by rw[isSubtype_type];kernel_rfl)
theorem g7:entryFor table "reversed.__next__"=some Builtin.«reversed.__next__» :=entryFor_of_tree (by kernel_rfl)
theorem gJ (a:Value):argsOk "reversed.__next__" ⟨[a],[]⟩:=by
 unfold argsOk;rw[signature?_of (id:="reversed.__next__") (n:=['_','_','t','x','e','n','_','_']) (o:=['d','e','s','r','e','v','e','r']) (by kernel_rfl) ql];kernel_rfl
theorem i7:Slot "reversed" "__iter__" "reversed.__iter__":=
 .of (owner:="reversed") (n:="__iter__") (by rw[typeLookup_type,builtinLookup_eq_fast];kernel_rfl) (by decide+kernel) (by decide+kernel) (by decide+kernel)
  (by first | exact .inl (by decide+kernel) | exact .inr (by decide+kernel)) (by rw[isSubtype_type];kernel_rfl)
theorem ml (a:Value):argsOk "reversed.__iter__" ⟨[a],[]⟩:=by
 unfold argsOk;rw[signature?_of (id:="reversed.__iter__") (n:=['_','_','r','e','t','i','_','_']) (o:=['d','e','s','r','e','v','e','r']) (by kernel_rfl) ql];kernel_rfl
theorem m9:entryFor table "reversed.__iter__"=some Builtin.«dict_keyiterator.__iter__» :=
 entryFor_alias (id':="dict_keyiterator.__iter__") (by kernel_rfl) (by first | rfl | decide+kernel | (unfold String.splitOn;simp+decide [String.splitOnAux])) (by decide+kernel) (by kernel_rfl)
theorem pE:Slot "reversed" "__init__" "object.__init__":=
 .of (owner:="object") (n:="__init__") (by rw[typeLookup_type,builtinLookup_eq_fast];kernel_rfl) (by decide+kernel) (by decide+kernel) (by decide+kernel)
  (by first | exact .inl (by decide+kernel) | exact .inr (by decide+kernel)) (by rw[isSubtype_type];kernel_rfl)
theorem vY:TypeCalled "reversed" "reversed.__new__" "object.__init__":=
 ⟨by decide+kernel,by decide+kernel,⟨_,_,F.mro_reversed⟩,F.made_reversed,by decide+kernel,by rw[isSubtype_type];kernel_rfl,pE⟩
theorem vZ:typeLookup (.type "str") "__reversed__"=pure none:=by rw[typeLookup_type,builtinLookup_eq_fast];kernel_rfl
end L2.F2
namespace L2
open PySem PySem.Spec PyProof.Rows
theorem m_ (x:Str) (t:Tok) (hz:x.length<=sizeLine):Meets (Builtin.«reversed.__new__» ⟨[.type "reversed", .str x t],[]⟩) (fun _ R s=> ∀tk,R (.ok (.ret (.ref s.heap.objs.size))) { s with heap:=s.heap.push { cls:= .type "reversed",data:= .fields #[.str x t,rawInt ((x.length:Int) - 1)] },toks:=tk }):=by
 refine Meets.of_wp fun prog w A R s h=>?_
 unfold Builtin.«reversed.__new__»
 refine wpAny_bind (wpAny_of_eq (newClass_reversed _) ?_)
 try dsimp only
 refine wpAny_bind (wpAny_of_eq (a:=()) (by first | rfl | kernel_rfl) ?_)
 refine wpAny_bind (wpAny_of_eq (a:=()) (by first | rfl | kernel_rfl) ?_)
 try dsimp only
 refine wpAny_bind (wpAny_specialOf (typeIs_str s x t) F2.vZ ?_)
 try dsimp only
 refine wpAny_bind (wpAny_of_eq (a:=true) (by first | rfl | kernel_rfl) ?_)
 rw[if_neg (by decide)]
 have hn:=gY
 refine wpAny_bind (len_str (by lia) ?_)
 refine wpAny_bind (wpAny_of_eq (a:=some (x.length:Int)) (by first | rfl | kernel_rfl) ?_)
 show wpAny _ _ (Builtin.SmallTypes.newRecord (Value.type "reversed") [Value.str x t,rawInt ((x.length:Int) - 1)] >>= _) _ _ _
 refine wpAny_bind ?_
 unfold Builtin.SmallTypes.newRecord
 refine wpAny_newObj_type ?_ (by size_fits)
 exact wpAny_pure ⟨_,rfl,h _⟩
section
variable {prog:Program} {w:World} {A:Around} {E:Value->Shared->Prop} {s:Shared}
theorem ng {x:Str} {t:Tok} {Q:Value->Shared->Prop} (hz:x.length<=sizeLine) (h: ∀tk,Q (.ref s.heap.objs.size) { s with heap:=s.heap.push { cls:= .type "reversed",data:= .fields #[.str x t,rawInt ((x.length:Int) - 1)] },toks:=tk }):
  wpAny (model prog w) A (call (.type "reversed") [.str x t]) Q E s:=
 callType_new F2.vY (by decide+kernel) (F.typeCall_reversed_1 _) (F.newCall_reversed_1 _) (fun obj=>by unfold argsOk;kernel_rfl) F.entry_reversed_new (m_ x t hz)
  fun tk=>⟨⟨_,Xr _ rfl,rfl⟩,h tk⟩
def g8 (h:Heap) (it:Addr) (x:Str) (t:Tok) (i:Int):Prop:= ∃o,h.get? it=some o/\o.cls= .type "reversed"/\o.data= .fields #[.str x t,rawInt i]
theorem g8.typeIs {it:Addr} {x:Str} {t:Tok} {i:Int} (h:g8 s.heap it x t i):s.TypeIs (.ref it) "reversed":=let ⟨o,ho,hc,_⟩:=h;⟨o,ho,hc⟩
theorem nh {it:Addr} {x:Str} {t:Tok} {i:Int} {Q:Value->Shared->Prop} (hit:g8 s.heap it x t i) (h:Q (.ref it) s):wpAny (model prog w) A (pyIter (.ref it)) Q E s:=by
 refine wpAny_pyIter_slot hit.typeIs F2.i7 (wpAny_call_entry F2.i7 hit.typeIs F2.m9 ?_ (F2.ml _))
 show wpAny _ _ (ret (.ref it)) _ _ s
 exact wpAny_pure ⟨_,rfl,"reversed",_,hit.typeIs,F2.cM.lookup,h⟩
theorem mn {it:Addr} {x:Str} {t:Tok} {i c:Nat} {Q:Option Value->Shared->Prop} (hit:g8 s.heap it x t (i:Int)) (hx:x.cps[i]? =some c) (hz:x.length<=sizeLine)
  (hQ: ∀h' tk u,g8 h' it x t ((i:Int) - 1)->Heap.SameBut it s.heap h'->Q (some (.str ⟨#[c]⟩ u)) { s with heap:=h',toks:=tk }):wpAny (model prog w) A (pyNext (.ref it)) Q E s:=by
 obtain ⟨o,ho,hc,hd⟩:=id hit
 have hn:=gY
 have hi:i<x.length:=(Array.getElem?_eq_some_iff.mp hx).1
 unfold pyNext
 refine wpAny_bind (wpAny_attempt (wpAny_callSpecial?_slot (name:=Str.ofString "__next__") hit.typeIs F2.cM
  (wpAny_call_entry F2.cM hit.typeIs F2.g7 ?_ (F2.gJ _))))
 unfold Builtin.«reversed.__next__»
 refine wpAny_bind (wpAny_of_eq (a:=(Value.ref it,[])) rfl ?_)
 try dsimp only
 refine wpAny_bind (wpAny_field ho hd (x:= .str x t) rfl ?_)
 refine wpAny_bind (wpAny_field ho hd (x:=rawInt (i:Int)) rfl ?_)
 show wpAny _ _ (if (i:Int)<0 then _ else _) _ _ s
 rw[if_neg (by lia)]
 refine wpAny_bind (wpAny_specialOf (typeIs_str s x t) F.slot_str_getitem.lookup ?_)
 show wpAny _ _ (if (some (Value.builtin _)).isNone=true then _ else _) _ _ s
 rw[if_neg (by decide)]
 refine wpAny_bind (wpAny_mkInt ?_)
 refine wpAny_bind (wpAny_attempt (getItem_str (c:=c) (by
  have e1:decide ((i:Int)< -(2 ^ 63:Int))=false:=decide_eq_false (by lia)
  have e2:decide ((i:Int) ≥ 2 ^ 63)=false:=decide_eq_false (by lia)
  rw[e1,e2,ZJ]) (by rw[seqIndex_of (by lia) (by lia),XN];exact hx) ?_))
 show wpAny _ _ (field (Value.ref it) 1 >>= _) _ _ _
 refine wpAny_bind (wpAny_field ho hd (x:=rawInt (i:Int)) rfl ?_)
 show wpAny _ _ (setField (Value.ref it) 1 (rawInt ((i:Int) - 1)) >>= _) _ _ _
 refine wpAny_bind (wpAny_setField ho hd (by simp) ?_)
 refine wpAny_pure ⟨_,rfl,wpAny_pure (hQ _ _ _ ?_ (Heap.SameBut.update ..))⟩
 exact ⟨_,Y8 _ ho (Obj.isFreed_of_fields (Obj.data_mapFields hd _)),(Obj.cls_mapFields ..).trans hc,by
  rw[Obj.data_mapFields hd];simp⟩
theorem ni {it:Addr} {x:Str} {t:Tok} {Q:Option Value->Shared->Prop} (hh:A.handled=none) (hit:g8 s.heap it x t (-1))
  (hQ: ∀h',Heap.ExtBut it s.heap h'->Q none { s with heap:=h' }):wpAny (model prog w) A (pyNext (.ref it)) Q E s:=by
 obtain ⟨o,ho,hc,hd⟩:=id hit
 unfold pyNext
 refine wpAny_bind (wpAny_attempt (wpAny_callSpecial?_slot (name:=Str.ofString "__next__") hit.typeIs F2.cM
  (wpAny_call_entry F2.cM hit.typeIs F2.g7 ?_ (F2.gJ _))))
 unfold Builtin.«reversed.__next__»
 refine wpAny_bind (wpAny_of_eq (a:=(Value.ref it,[])) rfl ?_)
 try dsimp only
 refine wpAny_bind (wpAny_field ho hd (x:= .str x t) rfl ?_)
 refine wpAny_bind (wpAny_field ho hd (x:=rawInt (-1)) rfl ?_)
 show wpAny _ _ (if (-1:Int)<0 then _ else _) _ _ s
 rw[if_pos (by decide)]
 refine wpAny_bind (wpAny_rule ?_)
 refine wpAny_bind ?_
 show wpAny _ _ (setField (Value.ref it) 1 (rawInt (-1)) >>= fun _=>setField (Value.ref it) 0 .none) _ _ _
 refine wpAny_bind (wpAny_setField ho hd (by simp) ?_)
 refine wpAny_setField (Y8 _ ho (Obj.isFreed_of_fields (Obj.data_mapFields hd _))) (Obj.data_mapFields hd _) (by simp) ?_
 first
 | show wpAny _ _ (newExc (.type "StopIteration") [] >>= _) _ _ _
 |(refine wpAny_bind ?_;show wpAny _ _ (newExc (.type "StopIteration") [] >>= _) _ _ _)
 refine wpAny_bind ?_
 simp only[newExc,newTuple]
 refine wpAny_bind (wpAny_newObj_type ?_ (by size_fits))
 refine wpAny_bind (m:=firstArgMember _ _) (wpAny_of_eq (a:=Value.none) (by first | rfl | (simp only[firstArgMember];rfl)) ?_)
 refine wpAny_newObj_type ?_ (by size_fits)
 simp only[raiseNew]
 refine wpAny_bind (wpAny_handled ?_)
 first | rw[show A.in1.handled=none from hh] | rw[hh]
 refine wpAny_bind (wpAny_pure (wpAny_throw ?_))
 refine wpAny_bind (wpAny_isInstance (T:="StopIteration") (b:=true) ⟨_,Xr _ rfl,rfl⟩ isSubtype_stop ?_)
 refine wpAny_pure (hQ _ fun b ob hb e=>?_)
 refine Rw _ (Rw _ ?_)
 exact (X0 _ _ (Ne.symm hb)).trans ((X0 _ _ (Ne.symm hb)).trans e)
end
noncomputable def Eo (xs:List V):It:=⟨fun i _=>i<xs.length,fun i H x H'=>H'=H/\xs[i]? =some x,fun i _=>xs.length<=i⟩
theorem dN {l:List Nat} {i:Nat} {x:V} (h:(bw l)[i]? =some x): ∃c,l[i]? =some c/\x= .str (S [c]):=by
 unfold bw at h
 rw[XC]at h
 cases e:l[i]? with
 | none=>rw[e]at h;cases h
 | some c=>rw[e]at h;cases h;exact ⟨c,rfl,rfl⟩
theorem aN (l:List Nat):(bw l).length=l.length:=by unfold bw;rw[WH]
theorem Bm {P:Program} {w:World} {K:PySem.W.Frag} {tg:Expr} (it:Addr) (l:List Nat) (t:Tok):Turn P w K tg (Eo (bw l)) [it] it (fun i h=>h.IsStrIter it (strIterType (S l)) (S l) t i) where
 mem:=by simp
 obj:=fun i h st b hb=>by
  have e:b=it:=by simpa using hb
  subst e
  obtain ⟨o,e,c,d⟩:=st
  exact ⟨o,e,fun v z=>by rw[d]at z;cases z⟩
 keep:=fun i h h' st k=>let ⟨o,e,r⟩:=st;⟨o,k it (by simp) o e,r⟩
 item:=by
  intro X hP hw hK hc i pins s σ H E I hf st hg
  subst hP hw hK
  have Ep:i<l.length:=by have:i<(bw l).length:=hg;rwa [aN]at this
  obtain ⟨f0,f1,f2,f3,f4,f5⟩:=hf it (by simp)
  have fin: ∀(v:Value) (h':Heap) (tk:Nat),SignAt (S l) i v->h'.IsStrIter it (strIterType (S l)) (S l) t (i+1)->(∀b o,b∉[it]->s.heap.get? b=some o->h'.get? b=some o)->
    ∃u,some v=some u/\wpAny (model X.prog X.w) X.A (letOwnedTupleGo tg (.ref it) u) (fun _ s2=> ∃x H',Inv X pins σ H' s2/\RelV x u/\(Eo (bw l)).D6 i H x H'/\s2.heap.IsStrIter it (strIterType (S l)) (S l) t (i+1)/\ ∀b∈[it],H' b=none) E { s with heap:=h',toks:=tk }:=by
   intro v h' tk hv aL kk
   obtain ⟨c,u,e1,e2⟩:=hv
   subst e2
   have I1:Inv X pins σ H { s with heap:=h',toks:=tk }:=I.turned (fun b o hb e=>kk b o (by simpa using hb) e) f0 f1 f3 f4 f5
   obtain ⟨o,e,cc,d⟩:=id aL
   refine ⟨_,rfl,tN (s:={ s with heap:=h',toks:=tk }) e cc d (by unfold strIterType;split<;>decide) ⟨.str (S [c]),H,I1,⟨u,rfl⟩,⟨rfl,?_⟩,aL,fun b hb=>(hf b hb).1⟩⟩
   unfold bw
   rw[XC]
   have O4:l[i]? =some c:=by simpa [S]using e1
   rw[O4]
   rfl
  have hsz:i<(S l).cps.size:=by rw[rC];exact Ep
  by_cases ha:(S l).cps.all (· <128)=true
  ·have et:strIterType (S l)="str_ascii_iterator":=by unfold strIterType;rw[if_pos ha]
   rw[et]at st
   exact (Walks.strAscii (prog:=X.prog) (w:=X.w) (I.ok.hd hc) it (S l) t).item i s _ _ hsz st fun v h' tk hv aL kk=>fin v h' tk hv (by rw[et];exact aL) kk
  ·have et:strIterType (S l)="str_iterator":=by unfold strIterType;rw[if_neg ha]
   rw[et]at st
   exact (Walks.strWide (prog:=X.prog) (w:=X.w) (I.ok.hd hc) it (S l) t).item i s _ _ hsz st fun v h' tk hv aL kk=>fin v h' tk hv (by rw[et];exact aL) kk
 done:=by
  intro X hP hw hK hc i pins s σ H E I hf st hg
  subst hP hw hK
  obtain ⟨f0,f1,f2,f3,f4,f5⟩:=hf it (by simp)
  have Ep:l.length<=i:=by have:(bw l).length<=i:=hg;rwa [aN]at this
  have hx:(S l).cps[i]? =none:=by rw[Array.getElem?_eq_none_iff,rC];exact Ep
  by_cases ha:(S l).cps.all (· <128)=true
  ·have et:strIterType (S l)="str_ascii_iterator":=by unfold strIterType;rw[if_pos ha]
   rw[et]at st
   exact wpAny_pyNext_ascii_end (I.ok.hd hc) st hx fun h' eb=>⟨rfl,I.turned (t':=s.toks) (fun b o hb e=>eb b o hb e) f0 f1 f3 f4 f5⟩
  ·have et:strIterType (S l)="str_iterator":=by unfold strIterType;rw[if_neg ha]
   rw[et]at st
   exact wpAny_pyNext_wide_end (I.ok.hd hc) st hx fun h' eb=>⟨rfl,I.turned (t':=s.toks) (fun b o hb e=>eb b o hb e) f0 f1 f3 f4 f5⟩
 self:=fun _ _ s _ _ st h=>by
  by_cases ha:(S l).cps.all (· <128)=true
  ·have et:strIterType (S l)="str_ascii_iterator":=by unfold strIterType;rw[if_pos ha]
   rw[et]at st
   exact wpAny_pyIter_striter_ascii st h
  ·have et:strIterType (S l)="str_iterator":=by unfold strIterType;rw[if_neg ha]
   rw[et]at st
   exact wpAny_pyIter_striter_wide st h
theorem Bn {P:Program} {w:World} {K:PySem.W.Frag} {tg:Expr} (it:Addr) (l:List Nat) (t:Tok) (hz:l.length<=sizeLine):Turn P w K tg (Eo (bw l).reverse) [it] it (fun i h=>i<=l.length/\g8 h it (S l) t ((l.length:Int) - 1 - (i:Int))) where
 mem:=by simp
 obj:=fun i h st b hb=>by
  have e:b=it:=by simpa using hb
  subst e
  obtain ⟨_,o,e,c,d⟩:=st
  exact ⟨o,e,fun v z=>by rw[d]at z;cases z⟩
 keep:=fun i h h' st k=>let ⟨q,o,e,r⟩:=st;⟨q,o,k it (by simp) o e,r⟩
 item:=by
  intro X hP hw hK hc i pins s σ H E I hf st hg
  subst hP hw hK
  have Ep:i<l.length:=by have:i<(bw l).reverse.length:=hg;rwa [Xq,aN]at this
  obtain ⟨f0,f1,f2,f3,f4,f5⟩:=hf it (by simp)
  obtain ⟨_,st⟩:=st
  have e:(l.length:Int) - 1 - (i:Int)=((l.length - 1 - i:Nat):Int):=by lia
  rw[e]at st
  have cj:l.length - 1 - i<l.length:=by lia
  refine mn (c:=l[l.length - 1 - i]) st (by simp[S,cj]) (by rw[cL];exact hz) fun h' tk u aL sb=>?_
  have I1:Inv X pins σ H { s with heap:=h',toks:=tk }:=I.turned (fun b o hb e=>(sb.2 b hb).trans e) f0 f1 f3 f4 f5
  obtain ⟨o,e1,cc,d⟩:=id aL
  refine ⟨_,rfl,tN (s:={ s with heap:=h',toks:=tk }) e1 cc d (by decide) ⟨.str (S [l[l.length - 1 - i]]),H,I1,⟨u,rfl⟩,⟨rfl,?_⟩,⟨Ep,?_⟩,fun b hb=>(hf b hb).1⟩⟩
  ·rw[ZY (by rw[aN];exact Ep),aN]
   unfold bw
   rw[XC,Hz cj]
   rfl
  ·have e2:(l.length:Int) - 1 - ((i+1:Nat):Int)=((l.length - 1 - i:Nat):Int) - 1:=by lia
   rw[e2]
   exact aL
 done:=by
  intro X hP hw hK hc i pins s σ H E I hf st hg
  subst hP hw hK
  obtain ⟨f0,f1,f2,f3,f4,f5⟩:=hf it (by simp)
  have Ep:l.length<=i:=by have:(bw l).reverse.length<=i:=hg;rwa [Xq,aN]at this
  obtain ⟨hi,st⟩:=st
  have e:(l.length:Int) - 1 - (i:Int)= -1:=by lia
  rw[e]at st
  exact ni (I.ok.hd hc) st fun h' eb=>⟨rfl,I.turned (t':=s.toks) (fun b o hb e=>eb b o hb e) f0 f1 f3 f4 f5⟩
 self:=fun _ _ _ _ _ st h=>nh st.2 h
section
variable {X:Cx} {tg:Expr}
def O5 (tl:TE):TI:=fun σ H R=>tl σ H fun x H1=> ∃l,x= .str (S l)/\R (Eo (bw l)) H1
theorem g9 {l:Expr} {tl:TE} (hl:PE X l tl):PI X tg l (O5 tl):=by
 intro pins s σ H R I h
 refine cg (hl pins s σ H _ I h) fun v s1 ⟨x,H1,I1,r1,q1⟩=>?_
 obtain ⟨l,rfl,q⟩:=q1
 obtain ⟨t,rfl⟩:=r1
 refine wpAny_pyIter_strU ?_
 refine ⟨s1.heap.objs.size,[s1.heap.objs.size],_,_,H1,rfl,I1.kept (t':=s1.toks) fun b o e=>Rw _ e,Bm _ l t,⟨_,Xr _ rfl,rfl,rfl⟩,fun b hb=>?_,q⟩
 have e:b=s1.heap.objs.size:=by simpa using hb
 subst e
 exact I1.rh (Rv _) (I1.bN.fresh (Rv _))
def O6 (ta:TA):TI:=fun σ H R=>ta σ H fun vs H1=> ∃l,vs=[.str (S l)]/\l.length<=sizeLine/\R (Eo (bw l).reverse) H1
theorem Bo {a:Expr} {ta:TA} {p pos:Pos} (hg:Gl X "reversed") (hm:X.mg "reversed"=none) (ha:PA X [a] ta) (hs:starEach [a] X.env=[(false,eval a X.env)]:=by rfl):PI X tg (.Call (.Name "reversed" p) [a] [] pos) (O6 ta):=by
 intro pins s σ H R I h
 refine Call_ (fH I hg hm boot_reversed (Yj (cg (ha pos pins s σ H _ I h) fun us s1 ⟨vs,H1,I1,r1,q1⟩=>?_) hs rfl))
 obtain ⟨l,rfl,hz,q⟩:=q1
 obtain ⟨u,rfl,t,rfl⟩:=vals1 r1
 refine ng (by rw[cL];exact hz) fun tk=>?_
 have hit:g8 (s1.heap.push { cls:= .type "reversed",data:= .fields #[.str (S l) t,rawInt (((S l).length:Int) - 1)] }) s1.heap.objs.size (S l) t (((S l).length:Int) - 1):=⟨_,Xr _ rfl,rfl,rfl⟩
 refine nh hit ?_
 refine ⟨s1.heap.objs.size,[s1.heap.objs.size],_,_,H1,rfl,I1.kept (t':=tk) fun b o e=>Rw _ e,Bn _ l t hz,⟨XI _,?_⟩,fun b hb=>?_,q⟩
 ·have e:(l.length:Int) - 1 - ((0:Nat):Int)=((S l).length:Int) - 1:=by rw[cL];simp
  rw[e]
  exact hit
 ·have e:b=s1.heap.objs.size:=by simpa using hb
  subst e
  exact I1.rh (Rv _) (I1.bN.fresh (Rv _))
end
theorem mD {xs:List V} {g:TG} {tb:TS} {D:Ends} {σ:St} {H:Hp} (Pv:Nat->St->Hp->Prop) (h0:Pv 0 σ H)
  (hs: ∀i x σ H,xs[i]? =some x->Pv i σ H->g x σ H fun σ2 H2=>tb { D with nx:=Pv (i+1),ct:=Pv (i+1),bk:=D.nx } σ2 H2) (hd: ∀σ H,Pv xs.length σ H->D.nx σ H):
  ∃W:Nat->Nat->St->Hp->Prop,(∃m,W 0 m σ H)/\ ∀i m σ H,W i m σ H->
   ((Eo xs).stop i H/\D.nx σ H)\/((Eo xs).go i H/\ ∃N:St->Hp->Prop,(∀σ' H',N σ' H'-> ∃m',m'<m/\W (i+1) m' σ' H')/\ ∀x H',(Eo xs).D6 i H x H'->g x σ H' fun σ2 H2=>tb { D with nx:=N,ct:=N,bk:=D.nx } σ2 H2):=by
 refine ⟨fun i m σ H=>m=xs.length - i/\i<=xs.length/\Pv i σ H,⟨xs.length,by simp,XI _,h0⟩,?_⟩
 rintro i m σ H ⟨rfl,hi,p⟩
 by_cases cj:i<xs.length
 ·refine .inr ⟨cj,Pv (i+1),fun σ' H' p'=>⟨xs.length - (i+1),by lia,rfl,cj,p'⟩,fun x H' y=>?_⟩
  obtain ⟨e,y⟩:=y
  subst e
  exact hs i x σ _ y p
 ·have e:i=xs.length:=by lia
  subst e
  exact .inl ⟨Rv _,hd σ H p⟩
theorem mE {J:It} {n:Nat} {xs:Nat->V->Prop} {σc:St} {g:TG} {tc:TT} {te:TE} {Q:VK} {H1:Hp} (Pv:Nat->List V->Hp->Prop) (hn:n<sizeLine) (Ua: ∀i acc H,i<n->Pv i acc H->J.go i H) (LK: ∀acc H,Pv n acc H->J.stop n H)
  (hy: ∀i acc H x H',i<n->Pv i acc H->J.D6 i H x H'->H'=H/\xs i x) (h0:Pv 0 [] H1)
  (hs: ∀(i:Nat) (x:V) (acc:List V) (H:Hp) (Nx:List V->Hp->Prop),i<n->xs i x->acc.length<=i->Pv i acc H->(∀da H',da.length<=i+1->Pv (i+1) da H'->Nx da H')->
   g x σc H fun σ2 H2=>Wk σc σ2/\tc σ2 H2 fun b H3=>if b=true then te σ2 H3 fun v H4=>Nx (acc++[v]) H4 else Nx acc H3)
  (hd: ∀acc H D,acc.length<=n->Pv n acc H->H D=none->Q (.ref D) (upd H D (.lst acc))):qf J σc g tc te Q H1:=by
 refine ⟨fun i m acc H=>m=n - i/\i<=n/\acc.length<=i/\Pv i acc H,⟨n,by simp,XI _,Rv _,h0⟩,?_⟩
 rintro i m acc H ⟨rfl,hi,hl,p⟩
 refine ⟨by lia,?_⟩
 by_cases cj:i<n
 ·refine .inr ⟨Ua i acc H cj p,fun x H' y=>?_⟩
  obtain ⟨rfl,y2⟩:=hy i acc H x H' cj p y
  exact hs i x acc _ (fun da H'=> ∃m',m'<n - i/\(m'=n - (i+1)/\i+1<=n/\da.length<=i+1/\Pv (i+1) da H')) cj y2 hl p fun da H' h1 h2=>⟨n - (i+1),by lia,rfl,cj,h1,h2⟩
 ·have e:i=n:=by lia
  subst e
  exact .inl ⟨LK acc H p,fun D hD=>hd acc H D hl p hD⟩
theorem fP {xs:List V} {σc:St} {g:TG} {tc:TT} {te:TE} {Q:VK} {H1:Hp} (Pv:Nat->List V->Hp->Prop) (hn:xs.length<sizeLine) (h0:Pv 0 [] H1)
  (hs: ∀(i:Nat) (x:V) (acc:List V) (H:Hp) (Nx:List V->Hp->Prop),i<xs.length->xs[i]? =some x->acc.length<=i->Pv i acc H->(∀da H',da.length<=i+1->Pv (i+1) da H'->Nx da H')->
   g x σc H fun σ2 H2=>Wk σc σ2/\tc σ2 H2 fun b H3=>if b=true then te σ2 H3 fun v H4=>Nx (acc++[v]) H4 else Nx acc H3)
  (hd: ∀acc H D,acc.length<=xs.length->Pv xs.length acc H->H D=none->Q (.ref D) (upd H D (.lst acc))):qf (Eo xs) σc g tc te Q H1:=
 mE (xs:=fun i x=>xs[i]? =some x) Pv hn (fun i _ _ h _=>h) (fun _ _ _=>Rv _) (fun i _ H x H' _ _ y=>y) h0 hs hd
theorem uc {lo:Int} {n:Nat} {σc:St} {g:TG} {tc:TT} {te:TE} {Q:VK} {H1:Hp} (Pv:Nat->List V->Hp->Prop) (hn:n<sizeLine) (h0:Pv 0 [] H1)
  (hs: ∀(i:Nat) (acc:List V) (H:Hp) (Nx:List V->Hp->Prop),i<n->acc.length<=i->Pv i acc H->(∀da H',da.length<=i+1->Pv (i+1) da H'->Nx da H')->
   g (.int (lo+i)) σc H fun σ2 H2=>Wk σc σ2/\tc σ2 H2 fun b H3=>if b=true then te σ2 H3 fun v H4=>Nx (acc++[v]) H4 else Nx acc H3)
  (hd: ∀acc H D,acc.length<=n->Pv n acc H->H D=none->Q (.ref D) (upd H D (.lst acc))):qf (FX lo n) σc g tc te Q H1:=
 mE (xs:=fun i x=>x= .int (lo+i)) Pv hn (fun i _ _ h _=>h) (fun _ _ _=>Rv _) (fun i _ H x H' _ _ y=>y) h0 (fun i x acc H Nx h1 h2=>by subst h2;exact hs i acc H Nx h1) hd
theorem kK {K:PySem.W.Frag} {a:Addr} {xs:List V} {σc:St} {g:TG} {tc:TT} {te:TE} {Q:VK} {H1:Hp} (Pv:Nat->List V->Hp->Prop) (hn:xs.length<sizeLine) (hl: ∀i acc H,Pv i acc H->a_ K H a xs) (h0:Pv 0 [] H1)
  (hs: ∀(i:Nat) (x:V) (acc:List V) (H:Hp) (Nx:List V->Hp->Prop),i<xs.length->xs[i]? =some x->acc.length<=i->Pv i acc H->(∀da H',da.length<=i+1->Pv (i+1) da H'->Nx da H')->
   g x σc H fun σ2 H2=>Wk σc σ2/\tc σ2 H2 fun b H3=>if b=true then te σ2 H3 fun v H4=>Nx (acc++[v]) H4 else Nx acc H3)
  (hd: ∀acc H D,acc.length<=xs.length->Pv xs.length acc H->H D=none->Q (.ref D) (upd H D (.lst acc))):qf (Jw K a) σc g tc te Q H1:=
 mE (xs:=fun i x=>xs[i]? =some x) Pv hn (fun i acc H h p=>⟨xs,xs[i],hl i acc H p,by simp[h]⟩) (fun acc H p=>⟨xs,hl _ acc H p,Rv _⟩) (fun i acc H x H' h p y=>⟨y.1,y.2 xs (hl i acc H p)⟩) h0 hs hd
def Er (c:TT) (tb:TS):TS:=fun D σ H=> ∃W:Nat->St->Hp->Prop,(∃m,W m σ H)/\ ∀m σ H,W m σ H->c σ H fun b H1=>if b=true then tb { D with nx:=fun σ' H'=> ∃m',m'<m/\W m' σ' H',ct:=fun σ' H'=> ∃m',m'<m/\W m' σ' H',bk:=D.nx } σ H1 else D.nx σ H1
theorem cJ {X:Cx} {c:Expr} {body:List Stmt} {tc:TT} {tb:TS} {pos:Pos} (hp:PassesOwn (model X.prog X.w) X.A X.env X.xe) (hc:PT X c tc) (hb:vv X body tb):PS X (.While c body [] pos) (Er tc tb):=by
 intro pins s σ H D I h
 obtain ⟨W,⟨m0,w0⟩,turn⟩:=h
 refine wpAny_While (codeAny_whileLoop (fun n s'=> ∃σ' H',Inv X pins σ' H' s'/\W n σ' H') ?_ m0 ⟨σ,H,I,w0⟩)
 rintro n s1 ⟨σ1,H1,I1,w1⟩
 refine wpAny_passesOwn hp (cg (hc pins s1 σ1 H1 _ I1 (turn n σ1 H1 w1)) fun b s2 ⟨H2,I2,q2⟩=>?_)
 cases b with
 | true=>
  rw[if_pos rfl]at q2 ⊢
  refine wpAny_passesOwn hp (cg (hb pins s2 σ1 H2 _ I2 q2) fun f s3 q3=>?_)
  cases f with
  | next=>
   obtain ⟨σ3,H3,I3,m',hm,w3⟩:=q3
   exact ⟨m',hm,σ3,H3,I3,w3⟩
  | cont=>
   obtain ⟨σ3,H3,I3,m',hm,w3⟩:=q3
   exact ⟨m',hm,σ3,H3,I3,w3⟩
  | brk=>exact q3
  | ret v=>exact q3
 | false=>
  rw[if_neg Xm]at q2 ⊢
  exact wpAny_execs_nil ⟨σ1,H2,I2,q2⟩
noncomputable def rD (X:Cx) (scope:Scope):Bool:=(scope.names.all fun y=>y.2 != .cell)&&(scope.kind== .function)&&(scope.names.all fun y=>y.2 != .free||X.env.kindOf y.1==some .cell||X.env.kindOf y.1==some .free)&&(scope.names.all fun y=>y.2 != .local||scope.names.lookup y.1==some .local)
theorem jK {X:Cx} {scope:Scope} (h:rD X scope=true):(∀y∈scope.names,y.2≠ .cell)/\scope.kind= .function/\(∀y∈scope.names,y.2= .free->X.env.kindOf y.1=some .cell\/X.env.kindOf y.1=some .free)/\(∀x∈scope.names,x.2= .local->scope.names.lookup x.1=some .local):=by
 unfold rD at h
 simp only[Y9]at h
 obtain ⟨⟨⟨h1,h2⟩,h3⟩,h4⟩:=h
 refine ⟨fun y hy e=>?_,by simpa using h2,fun y hy e=>?_,fun y hy e=>?_⟩
 ·have:=Yg.mp h1 y hy
  rw[e]at this;simp at this
 ·have:=Yg.mp h3 y hy
  rw[e]at this
  simpa using this
 ·have:=Yg.mp h4 y hy
  rw[e]at this
  simpa using this
theorem dc {X:Cx} {tg iter elt:Expr} {ifs:List Expr} {scope:Scope} {pos:Pos} {wi:TI} {g:TG} {tc:TT} {te:TE} (Nc:List Str) (ix:List (Option Nat)) (hi:PI X tg iter wi) (vB:iX X scope Nc ix)
  (hG: ∀C s H fp,PG (bu X scope C Nc s H fp) tg g) (hT: ∀C s H fp,PF (bu X scope C Nc s H fp) ifs tc) (hE: ∀C s H fp,PE (bu X scope C Nc s H fp) elt te) (bN:rD X scope=true:=by rfl) (i6:X.calm=true:=by rfl)
  (hs: ∀x,foldedSetIterable iter X.env x=pure x:=by intro _;rfl):PE X (.ListComp elt [⟨tg,iter,ifs,0⟩] scope pos) (t9 wi ix g tc te):=
 let ⟨h1,h2,h3,h4⟩:=jK bN
 Ej Nc ix hi i6 vB h1 h2 h3 h4 hG hT hE hs
theorem g_ {X:Cx} {i:Nat} {x:Str} {tg iter elt:Expr} {ifs:List Expr} {scope:Scope} {pos Bd pos':Pos} {wi:TI} {g:TG} {tc:TT} {te:TE} (Nc:List Str) (ix:List (Option Nat)) (hN:X.N.Nodup) (O0:X.N[i]? =some x) (hx:Loc X.env.scope x)
  (hi:PI X tg iter wi) (vB:iX X scope Nc ix)
  (hG: ∀C s H fp,PG (bu X scope C Nc s H fp) tg g) (hT: ∀C s H fp,PF (bu X scope C Nc s H fp) ifs tc) (hE: ∀C s H fp,PE (bu X scope C Nc s H fp) elt te)
  (HF:swapsWith (.ListComp elt [⟨tg,iter,ifs,0⟩] scope pos) (some (.Name x pos')) Bd.line X.env=pure true:=by rfl) (bN:rD X scope=true:=by rfl) (i6:X.calm=true:=by rfl)
  (hs: ∀x,foldedSetIterable iter X.env x=pure x:=by intro _;rfl) (hf:X.fn x=true\/X.env.scope.names.lookup x=some .local:=by first | exact .inl rfl | exact .inr rfl | assumption):
  PS X (.Assign [.Name x pos'] (.ListComp elt [⟨tg,iter,ifs,0⟩] scope pos) Bd) (AV (t9 wi ix g tc te) (tM i)):=
 let ⟨h1,h2,h3,h4⟩:=jK bN
 Ek Nc ix hN O0 hx HF hi i6 vB h1 h2 h3 h4 hG hT hE hs hf
section
variable {X:Cx}
inductive Bp (x:V) (y:V) (H:Hp) (Q:VK):Prop
 | mk (a:_) (b:_) (_:x= .str (S a)) (_:y= .str (S b)) (_:Q (.bl (decide (a=b))) H):Bp x y H Q
def O7:R2:=Bp
inductive Bq (x:V) (y:V) (H:Hp) (Q:VK):Prop
 | mk (a:_) (b:_) (_:x= .str (S a)) (_:y= .str (S b)) (_:Q (.bl (!decide (a=b))) H):Bq x y H Q
def O8:R2:=Bq
theorem gp:gM X (compareOp .Eq) O7:=by
 intro pins s σ H x y v u Q I rx ry h
 obtain ⟨a,b,rfl,rfl,q⟩:=h
 exact FZ pins s σ H _ _ v u Q I rx ry ⟨rfl,by rw[Gj];exact q⟩
theorem rF:gM X (compareOp .NotEq) O8:=by
 intro pins s σ H x y v u Q I rx ry h
 obtain ⟨a,b,rfl,rfl,q⟩:=h
 exact AZ pins s σ H _ _ v u Q I rx ry ⟨rfl,by rw[Gj];exact q⟩
theorem Gm {i j:Int}:decide (V.int i=V.int j)=decide (i=j):=by
 by_cases h:i=j
 ·subst h;simp
 ·rw[decide_eq_false h,decide_eq_false]
  intro q
  exact h (V.int.inj q)
theorem LL {i j:Bool}:decide (V.bl i=V.bl j)=decide (i=j):=by
 by_cases h:i=j
 ·subst h;simp
 ·rw[decide_eq_false h,decide_eq_false]
  intro q
  exact h (V.bl.inj q)
theorem Br:gM X (compareOp .Eq) (D8 fun i j=> .bl (decide (i=j))):=by
 intro pins s σ H x y v u Q I rx ry h
 obtain ⟨a,b,rfl,rfl,q⟩:=h
 exact FZ pins s σ H _ _ v u Q I rx ry ⟨rfl,by rw[Gm];exact q⟩
theorem Bs:gM X (compareOp .NotEq) (D8 fun i j=> .bl (!decide (i=j))):=by
 intro pins s σ H x y v u Q I rx ry h
 obtain ⟨a,b,rfl,rfl,q⟩:=h
 exact AZ pins s σ H _ _ v u Q I rx ry ⟨rfl,by rw[Gm];exact q⟩
inductive Gn (g:Bool->Bool->V) (x:V) (y:V) (H:Hp) (Q:VK):Prop
 | mk (i:_) (j:_) (_:x= .bl i) (_:y= .bl j) (_:Q (g i j) H):Gn g x y H Q
def Ub (g:Bool->Bool->V):R2:=Gn g
theorem HH:gM X (compareOp .NotEq) (Ub fun i j=> .bl (!decide (i=j))):=by
 intro pins s σ H x y v u Q I rx ry h
 obtain ⟨a,b,rfl,rfl,q⟩:=h
 exact AZ pins s σ H _ _ v u Q I rx ry ⟨rfl,by rw[LL];exact q⟩
inductive Bt (f:List Nat->List Nat->Bool) (x:V) (y:V) (H:Hp) (Q:VK):Prop
 | mk (a:_) (b:_) (_:x= .str (S a)) (_:y= .str (S b)) (_:Q (.bl (f a b)) H):Bt f x y H Q
def O9 (f:List Nat->List Nat->Bool):R2:=Bt f
theorem HI:gM X (compareOp .Lt) (O9 fun a b=>decide (a<b)):=by
 intro pins s σ H x y v u Q I rx ry h
 obtain ⟨a,b,rfl,rfl,q⟩:=h
 exact y0 pins s σ H _ _ v u Q I rx ry ⟨S a,S b,rfl,rfl,by rw[bV,bV];exact q⟩
end
section
variable {X:Cx} {tg:Expr}
theorem bS (K:PySem.W.Frag) (h:X.K=K):Ln X (Lo K):=by subst h;exact Ed
def Gp (K:PySem.W.Frag):List V->Hp->VK->Prop:=fun xs H Q=> ∃p ys,xs=[.ref p]/\(a_ K H p ys\/me K H p ys)/\Q (.int ys.length) H
theorem pH (K:PySem.W.Frag) (h:X.K=K):cZ X (.builtin "len") (Gp K):=by subst h;exact rm
theorem fQ (K:PySem.W.Frag) (h:X.K=K):AE X "str.join" (Bk K):=by subst h;exact Bl
def LM (K:PySem.W.Frag):List V->Hp->VK->Prop:=fun xs H Q=> ∃(p:Addr) (bs:List Bool),xs=[.ref p]/\a_ K H p (bs.map V.bl)/\Q (.bl (bs.all id)) H
theorem zm (K:PySem.W.Frag) (h:X.K=K) (hc:X.calm=true):cZ X (.builtin "all") (LM K):=by subst h;exact zl hc
theorem nj (K:PySem.W.Frag) (h:X.K=K):Nw X (Lq K):=by subst h;exact Ee
theorem hJ (K:PySem.W.Frag) (h:X.K=K) {l:Expr} {tl:TE} (hl:PE X l tl):PI X tg l (FY K tl):=by subst h;exact D7 hl
theorem rG (K:PySem.W.Frag) (h:X.K=K) {l:Expr} {tl:TE} (hl:PE X l tl):PI X tg l (La K tl):=by subst h;exact Hb hl
end
section
variable {X:Cx} {o e:Expr} {es:List Expr} {to:TE} {t:TA} {name:Str} {apos gN:Pos} {T id:String} {r:V->List V->Hp->VK->Prop}
theorem gq (K:PySem.W.Frag) (hK:X.K=K) (pa:PlainAttrs T) (slot:Slot T name id) (Hu:typeOf (.builtin id)=pure (.type "method_descriptor")) (hm:AE X id r) (ho:PE X o to)
  (mY:attributeBase o name X.env (eval o X.env)=eval o X.env:=by rfl) (gZ:(apos.endLine==gN.line)=true:=by rfl):PE X (.Call (.Attribute o name apos) [] [] gN) (Lr K T r to):=by
 subst hK
 exact Ht pa slot Hu hm ho mY gZ
theorem bK (K:PySem.W.Frag) (hK:X.K=K) (pa:PlainAttrs T) (slot:Slot T name id) (Hu:typeOf (.builtin id)=pure (.type "method_descriptor")) (hm:AE X id r) (ho:PE X o to) (ha:PA X (e::es) t)
  (mY:attributeBase o name X.env (eval o X.env)=eval o X.env:=by rfl)
  (ze:((backTo gN (starEach (e::es) X.env)).all (fun x=>!x.1)&&(backToKw gN (keywordEach [] X.env)).all (fun x=>x.1.isSome)
   &&decide ((e::es).length+([]:List Keyword).length+(if ([]:List Keyword).isEmpty then 0 else 1)<30))=true:=by rfl)
  (gZ:(apos.endLine==gN.line)=true:=by rfl) (hs:starEach (e::es) X.env=(false,eval e X.env)::starEach es X.env:=by rfl) (vQ:(backTo gN (starEach es X.env)).any (·.1)=false:=by rfl):
  PE X (.Call (.Attribute o name apos) (e::es) [] gN) (Rp K T r to t):=by
 subst hK
 exact Ls pa slot Hu hm ho ha mY ze gZ hs vQ
end
mutual
inductive v7 (K:PySem.W.Frag) (H:Hp):V->PyData->Prop
 | eK:v7 K H .eK .none
 | bl (b:Bool):v7 K H (.bl b) (.bool b)
 | int (i:Int):v7 K H (.int i) (.int i)
 | str (x:Str):v7 K H (.str x) (.str x)
 | lst {a:Addr} {xs:List V} {ds:List PyData} (h:a_ K H a xs) (r:kL K H xs ds):v7 K H (.ref a) (.list ds)
 | tup {a:Addr} {xs:List V} {ds:List PyData} (h:me K H a xs) (r:kL K H xs ds):v7 K H (.ref a) (.tuple ds)
inductive kL (K:PySem.W.Frag) (H:Hp):List V->List PyData->Prop
 | nil:kL K H [] []
 | cons {x:V} {xs:List V} {d:PyData} {ds:List PyData} (h:v7 K H x d) (r:kL K H xs ds):kL K H (x::xs) (d::ds)
end
section
variable {X:Cx} {pins:List (Addr×Obj)} {σ:St} {H:Hp} {s:Shared}
mutual
theorem v7.reads (I:Inv X pins σ H s): ∀{x:V} {d:PyData} {u:Value},v7 X.K H x d->RelV x u-> ∃as,Reads s.heap u d as
 | _,_,u, .eK,r=>by cases (show u=Value.none from r);exact ⟨_, .none⟩
 | _,_,u, .bl b,r=>by cases (show u=Value.bool b from r);exact ⟨_, .bool b⟩
 | _,_,u, .int i,r=>by obtain ⟨t,rfl⟩:=r;exact ⟨_, .int i t⟩
 | _,_,u, .str x,r=>by obtain ⟨t,rfl⟩:=r;exact ⟨_, .str x t⟩
 | _,_,u, .lst (a:=a) h q,r=>by
  cases (show u=Value.ref a from r)
  obtain ⟨aF,rv,pl,_⟩:=I.list h
  obtain ⟨as,ra⟩:=kL.reads I q rv
  obtain ⟨o,ho,hc,n,hd⟩:=pl.isList
  exact ⟨_, .list ho hc hd (by simpa using ra)⟩
 | _,_,u, .tup (a:=a) h q,r=>by
  cases (show u=Value.ref a from r)
  obtain ⟨aF,rv,pl,_⟩:=I.tuple h
  obtain ⟨as,ra⟩:=kL.reads I q rv
  obtain ⟨o,ho,hc,n,hd⟩:=pl
  exact ⟨_, .tuple ho hc hd (by simpa using ra)⟩
theorem kL.reads (I:Inv X pins σ H s): ∀{xs:List V} {ds:List PyData} {us:List Value},kL X.K H xs ds->Vals xs us-> ∃as,ReadsAll s.heap us ds as
 | _,_,us, .nil,r=>by cases r;exact ⟨_, .nil⟩
 | _,_,us, .cons h q,r=>by
  cases r with
  | cons r1 r2=>
   obtain ⟨as,ra⟩:=v7.reads I h r1
   obtain ⟨bs,rb⟩:=kL.reads I q r2
   exact ⟨_, .cons ra rb⟩
end
end
section
variable {X:Cx}
inductive Bu (K:PySem.W.Frag) (x:V) (y:V) (H:Hp) (Q:VK):Prop
 | mk (dx:_) (dy:_) (_:v7 K H x dx) (_:v7 K H y dy) (_:(dx.canLay0=true/\dy.canLay0=true)) (_:dx.depth<=60) (_:Q (.bl (PyData.eqv dx dy)) H):Bu K x y H Q
def O_ (K:PySem.W.Frag):R2:=Bu K
inductive Bv (K:PySem.W.Frag) (x:V) (y:V) (H:Hp) (Q:VK):Prop
 | mk (dx:_) (dy:_) (_:v7 K H x dx) (_:v7 K H y dy) (_:(dx.canLay0=true/\dy.canLay0=true)) (_:dx.depth<=60) (_:Q (.bl (!PyData.eqv dx dy)) H):Bv K x y H Q
def Pa (K:PySem.W.Frag):R2:=Bv K
theorem Bw {k:Nat} (K:PySem.W.Frag) (h:X.K=K) (hr:cF k X.A):gM X (compareOp .Eq) (O_ K):=by
 subst h
 intro pins s σ H x y v u Q I rx ry h
 obtain ⟨dx,dy,h1,h2,⟨h3,h4⟩,h5,q⟩:=h
 obtain ⟨as,ra⟩:=h1.reads I rx
 obtain ⟨bs,rb⟩:=h2.reads I ry
 have hu:=hr.units
 exact SeqAt.compareEq_reads ra rb h3 h4 (by lia) ⟨.bl _,H,I,rfl,q⟩
theorem Bx {k:Nat} (K:PySem.W.Frag) (h:X.K=K) (hr:cF k X.A):gM X (compareOp .NotEq) (Pa K):=by
 subst h
 intro pins s σ H x y v u Q I rx ry h
 obtain ⟨dx,dy,h1,h2,⟨h3,h4⟩,h5,q⟩:=h
 obtain ⟨as,ra⟩:=h1.reads I rx
 obtain ⟨bs,rb⟩:=h2.reads I ry
 have hu:=hr.units
 exact SeqAt.compareNe_reads ra rb h3 h4 (by lia) ⟨.bl _,H,I,rfl,q⟩
def LN (K:PySem.W.Frag) (ta:TE):TT:=fun σ H Q=>ta σ H fun x H'=> ∃p xs,x= .ref p/\a_ K H' p xs/\Q (!xs.isEmpty) H'
theorem Es {a:Expr} {ta:TE} (K:PySem.W.Frag) (h:X.K=K) (ha:PE X a ta) (he: ∀whole,isTrue a X.env whole=(do let v <-whole;standAt a.pos;holding [v] (truthy v)):=by intro _;rfl):PT X a (LN K ta):=by
 subst h
 intro pins s σ H Q I hw
 refine isTrue_plain (cg (ha pins s σ H _ I hw) fun v s1 ⟨x,H1,I1,r1,q1⟩=>?_) (he _)
 obtain ⟨p,xs,rfl,hq,q⟩:=q1
 exact Hi pins s1 σ H1 _ v Q I1 r1 ⟨_, .inl ⟨xs,hq,rfl⟩,q⟩
theorem jL (K:PySem.W.Frag) (h:X.K=K) {es:List Expr} {k:Nat} {t:DO} {n:Nat} {pos:Pos} (hc:X.calm=true) (hs:Jv X es t)
  (hn:(assignEach es X.env).length=n:=by rfl) (D4:(assignEach es X.env).findIdx? (·.1)=none:=by rfl):PG X (.Tuple es k pos) (K_ K n t):=by
 subst h
 exact G6 hc hs hn D4
theorem Et:Nt X .Add (fun x y H Q=>Bf x y H Q):=by
 intro pins s σ H x y v u Q I rx ry h
 exact Bg pins s σ H x y v u Q I rx ry h
end
noncomputable def aW (a b:List Nat):List Nat:=if b<a then b else a
noncomputable def aU:List Nat->List (List Nat)->List Nat
 | a,[]=>a
 | a,b::r=>aU (aW a b) r
noncomputable def cN (ls:List (List Nat)) (i j:Nat):Bool:=decide (ls.getD i []<ls.getD j [])
theorem i8: ∀(n:Nat) (ls:List (List Nat)),n<ls.length->ls.getD (argBest (cN ls) n) []=aU (ls.getD 0 []) ((ls.drop 1).take n)
 | 0,ls,_=>by simp[argBest,aU]
 | n+1,ls,h=>by
  have ih:=i8 n ls (by lia)
  have e:(ls.drop 1).take (n+1)=(ls.drop 1).take n++[ls.getD (n+1) []]:=by
   rw[Zl,XY]
   have:1+n=n+1:=by lia
   rw[this,Yf,Hz h]
   rfl
  have hs: ∀(r:List (List Nat)) (a b:List Nat),aU a (r++[b])=aW (aU a r) b:=by
   intro r
   induction r with
   | nil=>intro a b;rfl
   | cons c r ih=>intro a b;exact ih _ _
  rw[e,hs, <-ih]
  show ls.getD (if cN ls (n+1) (argBest (cN ls) n)=true then n+1 else argBest (cN ls) n) []=_
  unfold aW
  by_cases z:ls.getD (n+1) []<ls.getD (argBest (cN ls) n) []
  ·rw[if_pos (show cN ls (n+1) (argBest (cN ls) n)=true from decide_eq_true z),if_pos z]
  ·rw[if_neg (show ¬cN ls (n+1) (argBest (cN ls) n)=true from fun w=>z (of_decide_eq_true w)),if_neg z]
theorem argBest_lt (bt:Nat->Nat->Bool): ∀n,argBest bt n<=n
 | 0=>Rv _
 | n+1=>by
  unfold argBest
  split
  ·exact Rv _
  ·exact YR (argBest_lt bt n)
section
variable {X:Cx}
theorem qm {prog:Program} {w:World} {A:Around} {ls:List (List Nat)} {aF:List Value} (r:Vals (ls.map fun l=>V.str (S l)) aF):CmpOf prog w A .Lt (fun i v=>aF.toArray[i]? =some v) (cN ls):=by
 intro i j vi vj s Q E hi hj hQ
 have get: ∀{i:Nat} {v:Value},aF.toArray[i]? =some v-> ∃t,v= .str (S (ls.getD i [])) t:=by
  intro i v h
  have h':aF[i]? =some v:=by simpa using h
  have hl:i<ls.length:=by have:=(Ru.mp h').1;rw[<-r.length,WH]at this;exact this
  obtain ⟨u,hu,ru⟩:=r.get (i:=i) (x:=V.str (S (ls.getD i []))) (by rw[XC,Yf,Hz hl];rfl)
  rw[h']at hu;cases hu
  exact ru
 obtain ⟨t,rfl⟩:=get hi
 obtain ⟨u,rfl⟩:=get hj
 have q:Q (.bool (decide ((S (ls.getD i [])).cps.toList<(S (ls.getD j [])).cps.toList))) s:=by rw[bV,bV];exact hQ
 exact lt_str q
def LO (K:PySem.W.Frag):List V->Hp->VK->Prop:=fun xs H Q=> ∃(p:Addr) (a:List Nat) (ls:List (List Nat)),xs=[.ref p]/\a_ K H p ((a::ls).map fun l=>V.str (S l))/\Q (.str (S (aU a ls))) H
theorem v9 (K:PySem.W.Frag) (h:X.K=K) (hc:X.calm=true):cZ X (.builtin "min") (LO K):=by
 subst h
 intro pins s σ H xs us Q I r h
 obtain ⟨p,a,ls,rfl,hq,q⟩:=h
 obtain ⟨u,rfl,ru⟩:=vals1 r
 cases ru
 obtain ⟨aF,rv,pl,hz⟩:=I.list hq
 have hlen:aF.length=ls.length+1:=by rw[<-rv.length,WH];rfl
 have hp:p<s.heap.objs.size:=by
  obtain ⟨o,n,e,_⟩:=pl
  exact Xj e
 refine call_min_walk (wpAny_pyIter_list pl.isList ?_)
 refine ⟨s.heap.objs.size,_,_,_,_,_,cN (a::ls),rfl,Walks.list (A:=X.A.in1) (I.ok.hd hc) s.heap.objs.size p (XB hp) aF.toArray,⟨⟨_,Xr _ rfl,rfl,rfl⟩,?_⟩,fun b hb=>?_,by rw[WI];lia,qm rv,fun v h' tk hP hk=>?_⟩
 ·obtain ⟨o,ho,hr⟩:=pl.isList
  exact ⟨o,Rw _ ho,hr⟩
 ·show b<(s.heap.push _).objs.size
  rw[Zd]
  rcases T4.mp hb with z | z
  ·rw[z];exact Yy _
  ·rw[Hy.mp z];exact Y3 hp
 ·have LJ:aF[argBest (cN (a::ls)) (aF.toArray.size - 1)]? =some v:=by simpa using hP
  have hn:aF.toArray.size - 1=ls.length:=by rw[WI];lia
  rw[hn]at LJ
  have hle:=argBest_lt (cN (a::ls)) ls.length
  have e:=i8 ls.length (a::ls) (by show ls.length<ls.length+1;lia)
  have e2:(((a::ls).drop 1).take ls.length)=ls:=by show ls.take ls.length=ls;exact WJ (Rv _)
  rw[e2]at e
  have hl:argBest (cN (a::ls)) ls.length<(a::ls).length:=by show _<ls.length+1;lia
  obtain ⟨u,hu,ru⟩:=rv.get (i:=argBest (cN (a::ls)) ls.length) (x:=V.str (S (aU a ls))) (by
   rw[XC,Hz hl]
   rw[Yf,Hz hl]at e
   have e':(a::ls)[argBest (cN (a::ls)) ls.length]=aU a ls:=e
   rw[e']
   rfl)
  rw[LJ]at hu;cases hu
  have I1:Inv X pins σ H { s with heap:=h',toks:=tk }:=by
   have I0:Inv X pins σ H { s with heap:=s.heap.push { cls:= .type "list_iterator",data:= .fields #[.ref p, .int 0 0] } }:=I.kept (t':=s.toks) fun b o e=>Rw _ e
   have f:=I.rh (H':=H) (b:=s.heap.objs.size) (Rv _) I.fresh
   have J:=I0.turned (h':=h') (t':=tk) (it:=s.heap.objs.size) (fun b o hb e=>hk b o (by simpa using hb) e) f.1 f.2.1 f.2.2.2.1 f.2.2.2.2.1 f.2.2.2.2.2
   exact J
  exact ⟨.str (S (aU a ls)),H,I1,ru,q⟩
def HJ:List V->Hp->VK->Prop:=fun xs H Q=> ∃(a b:List Nat),xs=[.str (S a), .str (S b)]/\Q (.str (S (aW a b))) H
theorem nk (hc:X.calm=true):cZ X (.builtin "min") HJ:=by
 intro pins s σ H xs us Q I r h
 obtain ⟨a,b,rfl,q⟩:=h
 obtain ⟨u,w',rfl,⟨t,rfl⟩,⟨t',rfl⟩⟩:=vals2 r
 have rv:Vals ([a,b].map fun l=>V.str (S l)) [Value.str (S a) t,Value.str (S b) t']:= .cons ⟨t,rfl⟩ (.cons ⟨t',rfl⟩ .nil)
 have hT:(s.heap.push { cls:= .type "tuple",data:= .seq #[.str (S a) t, .str (S b) t'] }).IsTuple s.heap.objs.size #[.str (S a) t, .str (S b) t']:=⟨_,Xr _ rfl,rfl,0,rfl⟩
 refine call_min_two (wpAny_pyIter_tuple hT ?_)
 have hsz:(s.heap.push { cls:= .type "tuple",data:= .seq #[.str (S a) t, .str (S b) t'] }).objs.size=s.heap.objs.size+1:=Zd ..
 refine ⟨_,_,_,_,_,_,cN [a,b],rfl,Walks.tuple (A:=X.A.in1) (I.ok.hd hc) _ s.heap.objs.size (by rw[hsz];exact XB (Yy _)) #[.str (S a) t, .str (S b) t'],
  ⟨⟨_,Xr _ rfl,rfl,rfl⟩,hT.push _⟩,fun c hc=>?_,(by show 0<2;decide),qm rv,fun v h' tk hP hk=>?_⟩
 ·show c<((s.heap.push _).push _).objs.size
  rw[Zd,hsz]
  rcases T4.mp hc with rfl | hc
  ·rw[hsz];exact Yy _
  ·rcases T4.mp hc with rfl | hc
   ·exact Y3 (Yy _)
   ·cases hc
 ·have I1:Inv X pins σ H { s with heap:=h',toks:=tk }:=by
   refine I.kept (t':=tk) fun c o e=>hk c o (fun hm=>?_) (Rw _ (Rw _ e))
   have:c=(s.heap.push { cls:= .type "tuple",data:= .seq #[.str (S a) t, .str (S b) t'] }).objs.size:=by simpa using hm
   have hl:=Xj e
   rw[this,hsz]at hl
   exact absurd hl (Nat.not_lt.mpr (YS _))
  have e:argBest (cN [a,b]) (#[Value.str (S a) t,Value.str (S b) t'].size - 1)=if b<a then 1 else 0:=by
   show (if cN [a,b] 1 0=true then 1 else 0)=_
   by_cases z:b<a
   ·rw[if_pos z,if_pos (show cN [a,b] 1 0=true from decide_eq_true z)]
   ·rw[if_neg z,if_neg (show ¬cN [a,b] 1 0=true from fun y=>z (of_decide_eq_true y))]
  rw[e]at hP
  refine ⟨.str (S (aW a b)),H,I1,?_,q⟩
  unfold aW
  by_cases z:b<a
  ·rw[if_pos z]at hP ⊢
   have:v= .str (S b) t':=by simpa using hP.symm
   exact ⟨_,this⟩
  ·rw[if_neg z]at hP ⊢
   have:v= .str (S a) t:=by simpa using hP.symm
   exact ⟨_,this⟩
theorem rH (K:PySem.W.Frag) (h:X.K=K):gM X (compareOp .In) (Ny K false):=by subst h;exact zc
theorem Eu (K:PySem.W.Frag) (h:X.K=K):gM X (compareOp .NotIn) (Ny K true):=by subst h;exact rl
end
noncomputable def pI (n:Nat) (l:List Nat):List Nat:=(List.replicate n l).flatten
theorem iG (n:Nat) (l:List Nat):pI (n+1) l=l++pI n l:=by unfold pI;rw[List.replicate_succ,X7]
theorem v_ (n:Nat) (l:List Nat):pI (n+1) l=pI n l++l:=by unfold pI;rw[List.replicate_succ',Qaa,X7,ZM,XA]
theorem By (n:Nat) (l:List Nat):(pI n l).length=n*l.length:=by
 induction n with
 | zero=>simp[pI]
 | succ n ih=>rw[iG,Jy,ih,ZQ,Nat.add_comm]
section
variable {X:Cx} {pins:List (Addr×Obj)} {σ:St} {H:Hp} {s:Shared} {h':Heap}
theorem Inv.Bz {t':Nat} {ch:List Addr} {T:Addr} {ob:HO} (I:Inv X pins σ H s) (k: ∀b o,b∉ch->s.heap.get? b=some o->h'.get? b=some o) (hf: ∀b∈ch,mf X pins H b)
  (hT:s.heap.objs.size<=T) (new:bI X.prog X.w (upd H T ob) h' T ob):Inv X pins σ (upd H T ob) { s with heap:=h',toks:=t' }:=by
 have hn:=I.bN.fresh hT
 have FV: ∀b u,H b=some u->b∉ch:=fun b u e z=>by rw[(hf b z).1]at e;cases e
 have neT: ∀b o,s.heap.get? b=some o->b≠T:=fun b o e z=>absurd (Xv (Xj e) hT) (by rw[z];exact X_ _)
 refine I.step (g':=s.gens) (d':=s.drawn) (ch:=ch) (fun b hb=>?_) (fun b o _ _ hc e _=>k b o hc e) (fun b o _ _ hc e _=>⟨o.slots,k b o hc e⟩) (fun b o _ e n=>by rw[ao (neT b o e)];exact n)
  (fun b o hc e=>⟨o,k b o hc e⟩) (fun b xs e=>by rw[ao (aA e hn)];exact e) (fun b o u e=>by rw[ao (aA e hn)];exact e) (fun b ps e=>⟨#[],by rw[ao (aA e hn),e];simp⟩) (fun m hm=>?_) (fun b u e=>?_) I.bare
 ·obtain ⟨_,h2,_,h4,h5,h6⟩:=hf b hb
  exact ⟨h4,h2,h5,h6⟩
 ·obtain ⟨o,es,ep,ho,r⟩:=hm
  exact ⟨o,es,ep,k _ o (fun z=>(hf _ z).2.1 rfl) ho,r⟩
 ·by_cases hb:b=T
  ·subst hb;rw[ah]at e;cases e;exact new
  ·rw[ao hb]at e
   refine (I.bN b u e).iV (fun c v hc q=>k c v ?_ q) (fun c q=>by rw[ao (aA q hn)];exact q) fun c xs q=>by rw[ao (aA q hn)];exact q
   rcases hc with z | z
   ·rw[z];exact FV b u e
   ·exact FV c _ z
theorem Inv.Ew {t':Nat} {ch:List Addr} (I:Inv X pins σ H s) (k: ∀b o,b∉ch->s.heap.get? b=some o->h'.get? b=some o) (hf: ∀b∈ch,mf X pins H b):Inv X pins σ H { s with heap:=h',toks:=t' }:=by
 have FV: ∀b u,H b=some u->b∉ch:=fun b u e z=>by rw[(hf b z).1]at e;cases e
 refine I.step (g':=s.gens) (d':=s.drawn) (ch:=ch) (fun b hb=>?_) (fun b o _ _ hc e _=>k b o hc e) (fun b o _ _ hc e _=>⟨o.slots,k b o hc e⟩) (fun b o _ e n=>n)
  (fun b o hc e=>⟨o,k b o hc e⟩) (fun b xs e=>e) (fun b o u e=>e) (fun b ps e=>⟨#[],by rw[e];simp⟩) (fun m hm=>?_) (fun b u e=>?_) I.bare
 ·obtain ⟨_,h2,_,h4,h5,h6⟩:=hf b hb
  exact ⟨h4,h2,h5,h6⟩
 ·obtain ⟨o,es,ep,ho,r⟩:=hm
  exact ⟨o,es,ep,k _ o (fun z=>(hf _ z).2.1 rfl) ho,r⟩
 ·refine (I.bN b u e).iV (fun c v hc q=>k c v ?_ q) (fun c q=>q) fun c xs q=>q
  rcases hc with z | z
  ·rw[z];exact FV b u e
  ·exact FV c _ z
end
section
variable {X:Cx}
theorem Ex {ls:List (List Nat)}: ∀{aF:List Value},Vals (ls.map fun l=>V.str (S l)) aF->StrsAre aF (ls.map S):=by
 induction ls with
 | nil=>intro aF r;cases r;exact .nil
 | cons l ls ih=>
  intro aF r
  cases r with
  | cons r1 r2=>
   obtain ⟨t,rfl⟩:=r1
   exact .cons _ t (ih r2)
theorem xK: ∀{aF:List Value} {ss:List Str},StrsAre aF ss->Vals ((ss.map fun x=>x.cps.toList).map fun l=>V.str (S l)) aF
 | _,_, .nil=> .nil
 | _,_, .cons x t h=> .cons ⟨t,by rw[<-O1]⟩ (xK h)
theorem qp: ∀(p:Str) (r:List Str),risingS p r=true->(p::r).Pairwise fun a b=> ¬b.cps.toList<a.cps.toList
 | p,[],_=>X1 _ _
 | p,x::r,h=>by
  have h':(!ltCps x.cps.toList p.cps.toList&&risingS x r)=true:=h
  rw[Y9,ltCps_eq]at h'
  have h1: ¬x.cps.toList<p.cps.toList:=by simpa using h'.1
  have ih:=qp x r h'.2
  refine Yq.mpr ⟨fun y hy=>?_,ih⟩
  rcases T4.mp hy with z | z
  ·rw[z];exact h1
  ·exact List.le_trans (show p.cps.toList<=x.cps.toList from h1) (show x.cps.toList<=y.cps.toList from ZE ih z)
theorem zo {ss:List Str} (h:sortedS ss=true):(ss.map fun x=>x.cps.toList).Pairwise fun a b=> ¬b<a:=by
 rw[YU]
 cases ss with
 | nil=>exact List.Pairwise.nil
 | cons x r=>exact qp x r h
def HL (K:PySem.W.Frag):List V->Hp->VK->Prop:=fun xs H Q=> ∃(p:Addr) (ls:List (List Nat)),xs=[.ref p]/\a_ K H p (ls.map fun l=>V.str (S l))/\ls.length<64/\ ∀(q:Addr) (Pb:List (List Nat)),H q=none->Pb.Perm ls->(Pb.Pairwise fun a b=> ¬b<a)->Q (.ref q) (upd H q (.lst (Pb.map fun l=>V.str (S l))))
theorem gs (K:PySem.W.Frag) (h:X.K=K):cZ X (.builtin "sorted") (HL K):=by
 subst h
 intro pins s σ H xs us Q I r h
 obtain ⟨p,ls,rfl,hq,hn,q⟩:=h
 obtain ⟨u,rfl,ru⟩:=vals1 r
 cases ru
 obtain ⟨aF,rv,pl,hz⟩:=I.list hq
 have hlen:aF.length=ls.length:=by rw[<-rv.length,WH]
 refine sorted_strs (l:=p) (vs:=aF) (ss:=ls.map S) pl.isList (Ex rv) (by lia) fun out Pc h1 h2 h3=>?_
 obtain ⟨e,he⟩:=sortedAll_at s.heap aF out
 have i9:(Pc.map fun x=>x.cps.toList).Perm ls:=by
  have:=h2.map fun x:Str=>x.cps.toList
  rw[Zm]at this
  have e2:ls.map ((fun x:Str=>x.cps.toList) ∘ S)=ls:=by
   have: ∀l∈ls,((fun x:Str=>x.cps.toList) ∘ S) l=l:=fun l _=>bV l
   calc ls.map _=ls.map id:=Zv this
    _=ls:=Qau ls
  rwa [e2]at this
 have Ge:=i9.length_eq
 have WL:(64:Nat)<sizeLine:=by decide
 have LP:((Pc.map fun x=>x.cps.toList).map fun l=>V.str (S l)).length<=sizeLine:=by rw[WH,Ge];lia
 refine ⟨.ref (s.heap.objs.size+1),_,I.laid (t':=s.toks) (a:=s.heap.objs.size+1) (o:= .lst ((Pc.map fun x=>x.cps.toList).map fun l=>V.str (S l))) (fun b o e=>sortedAll_old e) (YS _) ⟨LP,out.toList,e,xK h1,by simpa [seqObj]using he⟩,rfl,q _ _ (I.bN.fresh (YS _)) i9 (zo h3)⟩
theorem xM {ls:List (List Nat)} {l:List Nat} (h:ls.Perm (l.map fun c=>[c])): ∃l':List Nat,ls=l'.map (fun c=>[c])/\l'.Perm l:=by
 refine ⟨ls.flatten,?_,?_⟩
 ·have hs: ∀x∈ls, ∃c,x=[c]:=fun x hx=>by
   obtain ⟨c,_,e⟩:=XH.mp (h.mem_iff.mp hx)
   exact ⟨c,e.symm⟩
  clear h
  induction ls with
  | nil=>rfl
  | cons x ls ih=>
   obtain ⟨c,rfl⟩:=hs x NB
   rw[X7,XJ, <-ih fun y hy=>hs y (NA _ hy)]
   rfl
 ·have:=h.flatten
  have e:(l.map fun c=>[c]).flatten=l:=by
   clear h this
   induction l with
   | nil=>rfl
   | cons c l ih=>rw[XM,X7,ih];rfl
  rwa [e]at this
theorem xN {l:List Nat} (h:(l.map fun c=>[c]).Pairwise fun a b=> ¬b<a):l.Pairwise fun a b=>a<=b:=by
 rw[YU]at h
 refine h.imp fun {a b} z=>?_
 by_cases y:a<=b
 ·exact y
 ·exact absurd (List.cons_lt_cons_iff.mpr (.inl (by lia))) z
end
noncomputable def BA (K:PySem.W.Frag) (a:Addr):It:=⟨fun i H=> ∃xs x,a_ K H a xs/\xs[i]? =some x,fun i H x H'=> ∃T y,(∀xs,a_ K H a xs->xs[i]? =some y)/\x= .ref T/\H T=none/\H'=upd H T (.tup [.int i,y]),fun i H=> ∃xs,a_ K H a xs/\xs.length=i⟩
theorem wa {P:Program} {w:World} {K:PySem.W.Frag} {elts:List Expr} {k:Nat} {pos:Pos} (e it a:Addr) (ND:e≠it) (RD:a≠e) (RE:a≠it):
  Turn P w K (.Tuple elts k pos) (BA K a) [e,it] e (fun i h=>(∃old,IsEnum h e it i old)/\h.IsListIter it a i) where
 mem:=by simp
 obj:=fun i h st b hb=>by
  obtain ⟨⟨old,he⟩,o,ho,hc,hd⟩:=st
  rcases T4.mp hb with z | z
  ·rw[z];exact ⟨_,he,fun v z=>by cases z⟩
  ·rw[Hy.mp z];exact ⟨o,ho,fun v z=>by rw[hd]at z;cases z⟩
 keep:=fun i h h' st kp=>by
  obtain ⟨⟨old,he⟩,o,ho,r⟩:=st
  exact ⟨⟨old,kp e (by simp) _ he⟩,o,kp it (by simp) o ho,r⟩
 item:=by
  intro X hP hw hK hc i pins s σ H E I hf st hg
  subst hP hw hK
  obtain ⟨eJ,kq⟩:=st
  obtain ⟨xs,x,hq,hx⟩:=hg
  obtain ⟨aF,rv,p,hz⟩:=I.list hq
  obtain ⟨u0,hu,ru⟩:=rv.get hx
  have D:=Draws.list (prog:=X.prog) (w:=X.w) (A:=X.A.in1) (I.ok.hd hc) it a RE aF.toArray
  have W:=WalksT.enumerateD D e ND (by simp;exact ⟨ND,Ne.symm RD⟩) (by simp)
  have Uc:i<aF.toArray.size:=by rw[WI];exact (Ru.mp hu).1
  refine W.item i s _ _ Uc ⟨eJ,kq,p.isList⟩ fun T vals h' tk LQ hT Pd LR hk=>⟨_,rfl,?_⟩
  refine W.go elts k pos i T { s with heap:=h',toks:=tk } _ _ LR fun h2 LS vC=>?_
  obtain ⟨tt,x2,NF,rfl⟩:=LQ
  have ex:x2=u0:=by
   rw[List.getElem?_toArray]at NF
   exact WK (NF.symm.trans hu)
  subst ex
  have RF:T∉[e,it]:=W.apart i T h' LR
  have LU:h2.IsTuple T #[.int i tt,x2]:=by
   obtain ⟨o,ho,r⟩:=Pd
   exact ⟨o,vC T o RF ho,r⟩
  refine ⟨.ref T,upd H T (.tup [.int i,x]),?_,rfl,⟨T,x,fun ys hy=>by rw[I.tL hy hq];exact hx,rfl,I.bN.fresh hT,rfl⟩,⟨LS.1,LS.2.1⟩,fun b hb=>?_⟩
  ·refine I.Bz (t':=tk) (h':=h2) (fun b o hb y=>vC b o hb (hk b o hb y)) hf hT ?_
   exact ⟨by show 2<=sizeLine;decide,[.int i tt,x2], .cons ⟨tt,rfl⟩ (.cons ru .nil),LU⟩
  ·rw[ao (fun z:b=T=>RF (z▸hb))];exact (hf b hb).1
 done:=by
  intro X hP hw hK hc i pins s σ H E I hf st hg
  subst hP hw hK
  obtain ⟨eJ,kq⟩:=st
  obtain ⟨xs,hq,hx⟩:=hg
  obtain ⟨aF,rv,p,hz⟩:=I.list hq
  have hl:=rv.length
  have D:=Draws.list (prog:=X.prog) (w:=X.w) (A:=X.A.in1) (I.ok.hd hc) it a RE aF.toArray
  have W:=WalksT.enumerateD D e ND (by simp;exact ⟨ND,Ne.symm RD⟩) (by simp)
  refine W.done s _ _ ?_ fun h' tk hk=>⟨rfl,I.Ew (t':=tk) hk hf⟩
  have e1:aF.toArray.size=i:=by rw[WI];lia
  rw[e1]
  exact ⟨eJ,kq,p.isList⟩
 self:=fun _ _ s _ _ st h=>by
  obtain ⟨⟨old,he⟩,_⟩:=st
  exact wpAny_pyIter_enum he h
def HM (K:PySem.W.Frag) (ta:TA):TI:=fun σ H R=>ta σ H fun vs H1=> ∃a,vs=[.ref a]/\(∃xs,a_ K H1 a xs)/\R (BA K a) H1
theorem BB {X:Cx} (K:PySem.W.Frag) (hK:X.K=K) {elts:List Expr} {k:Nat} {pos':Pos} {a:Expr} {ta:TA} {p pos:Pos} (hg:Gl X "enumerate") (hm:X.mg "enumerate"=none) (ha:PA X [a] ta) (hs:starEach [a] X.env=[(false,eval a X.env)]:=by rfl):PI X (.Tuple elts k pos') (.Call (.Name "enumerate" p) [a] [] pos) (HM K ta):=by
 subst hK
 intro pins s σ H R I h
 refine Call_ (fH I hg hm boot_enumerate (Yj (cg (ha pos pins s σ H _ I h) fun us s1 ⟨vs,H1,I1,r1,q1⟩=>?_) hs rfl))
 obtain ⟨b,rfl,⟨xs,hq⟩,q⟩:=q1
 obtain ⟨u,rfl,ru⟩:=vals1 r1
 cases ru
 obtain ⟨aF,rv,pl,hz⟩:=I1.list hq
 obtain ⟨ob,eb,_⟩:=id pl.isList
 have cj:b<s1.heap.objs.size:=Xj eb
 refine call_enumerate_list pl.isList fun h' he hit hsz hk=>wpAny_pyIter_enum he ?_
 refine ⟨s1.heap.objs.size+1,[s1.heap.objs.size+1,s1.heap.objs.size],_,_,H1,rfl,I1.kept (t':=s1.toks) hk,wa _ _ b (Nat.succ_ne_self _) (XB (Y3 cj)) (XB cj),⟨⟨_,he⟩,hit⟩,fun c hb=>?_,q⟩
 have BC:s1.heap.objs.size<=c:=by
  rcases T4.mp hb with z | z
  ·rw[z];exact YS _
  ·rw[Hy.mp z];exact Rv _
 exact I1.rh BC (I1.bN.fresh BC)
theorem zp {K:PySem.W.Frag} {a:Addr} {xs:List V} {g:TG} {tb:TS} {D:Ends} {σ:St} {H:Hp} (Pv:Nat->St->Hp->Prop) (h0:Pv 0 σ H) (hl: ∀i σ H,i<=xs.length->Pv i σ H->a_ K H a xs)
  (hs: ∀i x σ H T,xs[i]? =some x->Pv i σ H->H T=none->g (.ref T) σ (upd H T (.tup [.int i,x])) fun σ2 H2=>tb { D with nx:=Pv (i+1),ct:=Pv (i+1),bk:=D.nx } σ2 H2) (hd: ∀σ H,Pv xs.length σ H->D.nx σ H):
  ∃W:Nat->Nat->St->Hp->Prop,(∃m,W 0 m σ H)/\ ∀i m σ H,W i m σ H->
   ((BA K a).stop i H/\D.nx σ H)\/((BA K a).go i H/\ ∃N:St->Hp->Prop,(∀σ' H',N σ' H'-> ∃m',m'<m/\W (i+1) m' σ' H')/\ ∀x H',(BA K a).D6 i H x H'->g x σ H' fun σ2 H2=>tb { D with nx:=N,ct:=N,bk:=D.nx } σ2 H2):=by
 refine ⟨fun i m σ H=>m=xs.length - i/\i<=xs.length/\Pv i σ H,⟨xs.length,by simp,XI _,h0⟩,?_⟩
 rintro i m σ H ⟨rfl,hi,p⟩
 have hq:=hl i σ H hi p
 by_cases cj:i<xs.length
 ·refine .inr ⟨⟨xs,xs[i],hq,by simp[cj]⟩,Pv (i+1),fun σ' H' p'=>⟨xs.length - (i+1),by lia,rfl,cj,p'⟩,fun x H' y=>?_⟩
  obtain ⟨T,z,hz,rfl,hn,rfl⟩:=y
  exact hs i z σ _ T (hz xs hq) p hn
 ·have e:i=xs.length:=by lia
  subst e
  exact .inl ⟨⟨xs,hq,rfl⟩,hd σ H p⟩
section
variable {X:Cx}
theorem ud (K:PySem.W.Frag) (h:X.K=K):cZ X (.builtin "isinstance") (fun xs H Q=> ∃p ys,xs=[.ref p, .ty "list"]/\H p=some (.lst ys)/\Q (.bl true) H):=by
 subst h
 intro pins s σ H xs us Q I r h
 obtain ⟨p,ys,rfl,hq,q⟩:=h
 obtain ⟨u,w',rfl,r1,r2⟩:=vals2 r
 cases (show w'=Value.type "list" from r2)
 exact kE I r1 (.lst hq) (by unfold PySem.W.kitOne;rw[if_pos (by decide)]) fun tk=>⟨.bl true,H,I.tok _,rfl,q⟩
end
theorem ue {K:PySem.W.Frag} {a:Addr} {xs:List V} {σc:St} {g:TG} {tc:TT} {te:TE} {Q:VK} {H1:Hp} (Pv:Nat->List V->Hp->Prop) (hn:xs.length<sizeLine) (hl: ∀i acc H,Pv i acc H->me K H a xs) (h0:Pv 0 [] H1)
  (hs: ∀(i:Nat) (x:V) (acc:List V) (H:Hp) (Nx:List V->Hp->Prop),i<xs.length->xs[i]? =some x->acc.length<=i->Pv i acc H->(∀da H',da.length<=i+1->Pv (i+1) da H'->Nx da H')->
   g x σc H fun σ2 H2=>Wk σc σ2/\tc σ2 H2 fun b H3=>if b=true then te σ2 H3 fun v H4=>Nx (acc++[v]) H4 else Nx acc H3)
  (hd: ∀acc H D,acc.length<=xs.length->Pv xs.length acc H->H D=none->Q (.ref D) (upd H D (.lst acc))):qf (OD K a) σc g tc te Q H1:=
 mE (xs:=fun i x=>xs[i]? =some x) Pv hn (fun i acc H h p=>⟨xs,xs[i],hl i acc H p,by simp[h]⟩) (fun acc H p=>⟨xs,hl _ acc H p,Rv _⟩) (fun i acc H x H' h p y=>⟨y.1,y.2 xs (hl i acc H p)⟩) h0 hs hd
theorem mF (e:Nat) (l:List Nat):xI (.str (S [e])) (bw l)=decide (e∈l):=by
 have key: ∀c:Nat,za (.str (S [c])) (.str (S [e]))=decide (e=c):=fun c=>by
  show decide (S [c]=S [e])=_
  refine decide_eq_decide.mpr ⟨fun z=>?_,fun z=>by rw[z]⟩
  have:=congrArg (fun x:Str=>x.cps.toList) z
  simpa [S,eq_comm]using this
 unfold xI bw
 induction l with
 | nil=>rfl
 | cons c l ih=>
  rw[XM,Zs,ih,key]
  by_cases z:e=c<;>simp[z]
theorem nq (l:List Nat):(bw l).all gI=true:=by
 rw[Yg];intro v hv
 obtain ⟨d,_,rfl⟩:=XH.mp hv
 rfl
end L2
namespace HT
open PySem PySem.Spec PyProof.Rows
end HT
namespace L2
open PySem PySem.Spec PyProof.Rows
section
variable {κ:Type} [DecidableEq κ]
noncomputable def eN (aJ:List (κ×V)) (k:κ):Option V:=(aJ.find? fun kv=>decide (kv.1=k)).map (·.2)
noncomputable def putK (aJ:List (κ×V)) (k:κ) (v:V):List (κ×V):=
 if (aJ.any fun kv=>decide (kv.1=k))=true then aJ.map (fun kv=>if kv.1=k then (kv.1,v) else kv) else aJ++[(k,v)]
theorem cG {p:κ×V} {r:List (κ×V)} {k:κ} (e:p.1=k):eN (p::r) k=some p.2:=by simp[eN,YO,e]
theorem cH {p:κ×V} {r:List (κ×V)} {k:κ} (e: ¬p.1=k):eN (p::r) k=eN r k:=by simp[eN,YO,e]
theorem jM (k:κ): ∀aJ:List (κ×V),(aJ.any fun kv=>decide (kv.1=k))=(eN aJ k).isSome
 | []=>rfl
 | p::r=>by
  rw[Zs]
  by_cases e:p.1=k
  ·simp only[cG e,decide_eq_true e,Bool.true_or,Option.isSome_some]
  ·rw[cH e,decide_eq_false e,Bool.false_or];exact jM k r
theorem uf (k j:κ) (y:V): ∀aJ:List (κ×V),eN (aJ.map fun kv=>if kv.1=k then (kv.1,y) else kv) j=(eN aJ j).map fun x=>if j=k then y else x
 | []=>rfl
 | p::r=>by
  have ih:=uf k j y r
  rw[XM]
  by_cases h:p.1=k
  ·rw[if_pos h]
   by_cases e:p.1=j
   ·rw[cG (p:=(p.1,y)) e,cG e,ZU,if_pos (e.symm.trans h)]
   ·rw[cH (p:=(p.1,y)) e,cH e,ih]
  ·rw[if_neg h]
   by_cases e:p.1=j
   ·rw[cG (p:=p) e,cG e,ZU,if_neg (fun z=>h (e.trans z))]
   ·rw[cH (p:=p) e,cH e,ih]
theorem qq (k j:κ) (y:V): ∀aJ:List (κ×V),eN aJ k=none->eN (aJ++[(k,y)]) j=if j=k then some y else eN aJ j
 | [],_=>by
  by_cases e:k=j
  ·rw[if_pos e.symm];exact cG (p:=(k,y)) e
  ·rw[if_neg (fun z=>e z.symm)];exact cH (p:=(k,y)) e
 | p::r,hn=>by
  rw[YX]
  have hk: ¬p.1=k:=fun z=>by rw[cG z]at hn;cases hn
  rw[cH hk]at hn
  have ih:=qq k j y r hn
  by_cases e:p.1=j
  ·rw[cG e,cG e,if_neg (fun z=>hk (e.trans z))]
  ·rw[cH e,cH e,ih]
theorem BD (aJ:List (κ×V)) (k j:κ) (y:V):eN (putK aJ k y) j=if j=k then some y else eN aJ j:=by
 unfold putK
 by_cases a:(aJ.any fun kv=>decide (kv.1=k))=true
 ·rw[if_pos a,uf]
  rw[jM]at a
  by_cases e:j=k
  ·obtain ⟨x,hx⟩:=Option.isSome_iff_exists.mp a
   rw[if_pos e,e,hx,ZU,if_pos rfl]
  ·rw[if_neg e]
   cases eN aJ j with
   | none=>rfl
   | some x=>rw[ZU,if_neg e]
 ·rw[if_neg a]
  refine qq k j y aJ ?_
  rw[jM]at a
  cases q:eN aJ k with
  | none=>rfl
  | some x=>rw[q]at a;exact (a rfl).elim
theorem hU (aJ:List (κ×V)) (k:κ) (v:V):(putK aJ k v).length<=aJ.length+1:=by
 unfold putK
 split
 ·rw[WH];lia
 ·rw[Jy,Xn,Yp];lia
theorem vG.kM {o:Option V} {u:Option Value} (r:vG o u):o.isSome=u.isSome:=by
 cases o with
 | none=>cases u with
  | none=>rfl
  | some _=>exact (show False from r).elim
 | some _=>cases u with
  | none=>exact (show False from r).elim
  | some _=>rfl
theorem KV.val {aJ:List (κ×V)} {vs:List (κ×Value)} (r:KV aJ vs) (k:κ):vG (eN aJ k) (valueAt vs k):=by
 unfold KV at r
 induction r with
 | nil=>exact True.intro
 | @cons p q ps qs h t ih=>
  obtain ⟨h1,h2⟩:=h
  by_cases e:p.1=k
  ·have e':q.1=k:=h1.symm.trans e
   have b:valueAt (q::qs) k=some q.2:=by simp[valueAt,YO,e']
   rw[cG e,b];exact h2
  ·have e': ¬q.1=k:=fun z=>e (h1.trans z)
   have b:valueAt (q::qs) k=valueAt qs k:=by simp[valueAt,YO,e']
   rw[cH e,b];exact ih
theorem KV.any {aJ:List (κ×V)} {vs:List (κ×Value)} (r:KV aJ vs) (k:κ):(aJ.any fun kv=>decide (kv.1=k))=vs.any fun kv=>decide (kv.1=k):=by
 unfold KV at r
 induction r with
 | nil=>rfl
 | cons h t ih=>rw[Zs,Zs,ih,h.1]
theorem KV.HN {aJ:List (κ×V)} {vs:List (κ×Value)} (r:KV aJ vs) (k:κ) {y:V} {u:Value} (ry:RelV y u):
  KV (aJ.map fun kv=>if kv.1=k then (kv.1,y) else kv) (vs.map fun kv=>if kv.1=k then (kv.1,u) else kv):=by
 unfold KV at r ⊢
 induction r with
 | nil=>exact .nil
 | @cons p q ps qs h t ih=>
  rw[XM,XM]
  refine .cons ?_ ih
  obtain ⟨h1,h2⟩:=h
  by_cases e:p.1=k
  ·rw[if_pos e,if_pos (h1.symm.trans e)];exact ⟨h1,ry⟩
  ·rw[if_neg e,if_neg (fun z=>e (h1.trans z))];exact ⟨h1,h2⟩
theorem KV.put {aJ:List (κ×V)} {vs:List (κ×Value)} (r:KV aJ vs) (k:κ) {y:V} {u:Value} (ry:RelV y u):KV (putK aJ k y) (stored vs k u):=by
 unfold putK stored
 rw[r.any k]
 by_cases e:(vs.any fun kv=>decide (kv.1=k))=true
 ·rw[if_pos e,if_pos e];exact r.HN k ry
 ·rw[if_neg e,if_neg e];exact Paired.snoc r ⟨rfl,ry⟩
theorem KV.length {aJ:List (κ×V)} {vs:List (κ×Value)} (r:KV aJ vs):aJ.length=vs.length:=Paired.length r
end
theorem BE {P:Program} {w:World} {k:Key} {u:Value} (r:RelV (kV k) u):(cz P w).is k u=true:=by
 cases k with
 | inl i=>obtain ⟨t,e⟩:=(show ∃t,u=Value.int i t from r);subst e;exact tH P w i t
 | inr x=>obtain ⟨t,e⟩:=(show ∃t,u=Value.str x t from r);subst e;exact tI P w x t
theorem qr {P:Program} {w:World}: ∀{ks:List Key} {us:List Value},Vals (ks.map kV) us->ItemsAre (cz P w) ks us
 | [],_,r=>by rw[Qam]at r;cases r;exact .nil
 | k::ks,_,r=>by
  rw[XM]at r
  cases r with
  | cons h t=>exact .cons (BE h) (qr t)
abbrev KT (H:Hp):List (List Key×V)->List (List Key×Addr×Value)->Prop:=Paired fun p q=>p.1=q.1/\H q.2.1=some (.tup (p.1.map kV))/\RelV p.2 q.2.2
theorem KT.val {H:Hp} {aJ:List (List Key×V)} {xs:List (List Key×Addr×Value)} (r:KT H aJ xs) (k:List Key):vG (eN aJ k) ((atKey xs k).map (·.2)):=by
 induction r with
 | nil=>exact True.intro
 | @cons p q ps qs h t ih=>
  obtain ⟨h1,_,h2⟩:=h
  by_cases e:p.1=k
  ·have e':q.1=k:=h1.symm.trans e
   have b:atKey (q::qs) k=some q.2:=by simp[atKey,YO,e']
   rw[cG e,b];exact h2
  ·have e': ¬q.1=k:=fun z=>e (h1.trans z)
   have b:atKey (q::qs) k=atKey qs k:=by simp[atKey,YO,e']
   rw[cH e,b];exact ih
theorem KT.HN {H:Hp} {aJ:List (List Key×V)} {xs:List (List Key×Addr×Value)} (r:KT H aJ xs) (k:List Key) {y:V} {u:Value} (ry:RelV y u):
  KT H (aJ.map fun kv=>if kv.1=k then (kv.1,y) else kv) (xs.map (putAt k u)):=by
 induction r with
 | nil=>exact .nil
 | @cons p q ps qs h t ih=>
  rw[XM,XM]
  refine .cons ?_ ih
  obtain ⟨h1,h2,h3⟩:=h
  unfold putAt
  by_cases e:p.1=k
  ·rw[if_pos e,if_pos (h1.symm.trans e)];exact ⟨h1,h2,ry⟩
  ·rw[if_neg e,if_neg (fun z=>e (h1.trans z))];exact ⟨h1,h2,h3⟩
theorem KT.put {H:Hp} {aJ:List (List Key×V)} {xs:List (List Key×Addr×Value)} (r:KT H aJ xs) (k:List Key) {b:Addr} {y:V} {u:Value} (hb:H b=some (.tup (k.map kV))) (ry:RelV y u):
  KT H (putK aJ k y) (storedH xs k b u):=by
 have e:(aJ.any fun kv=>decide (kv.1=k))=(atKey xs k).isSome:=by
  rw[jM,(r.val k).kM,Option.isSome_map]
 unfold putK storedH
 rw[e]
 by_cases q:(atKey xs k).isSome=true
 ·rw[if_pos q,if_pos q];exact r.HN k ry
 ·rw[if_neg q,if_neg q];exact Paired.snoc r ⟨rfl,hb,ry⟩
theorem KT.keeps {H H':Hp} {aJ:List (List Key×V)} {xs:List (List Key×Addr×Value)} (r:KT H aJ xs) (ht: ∀b ys,H b=some (.tup ys)->H' b=some (.tup ys)):KT H' aJ xs:=
 Paired.GY r fun _ _ z=>⟨z.1,ht _ _ z.2.1,z.2.2⟩
section
variable {P:Program} {w:World} {H:Hp} {h:Heap} {a:Addr}
theorem Gq {u:HO} (ok:jh P w H h) (e:Rd H a u):bI P w H h a u:=e.ok ok
theorem Gr {aJ:List (Key×V)} (ok:jh P w H h) (e:Rd H a (.dK aJ)):aJ.length<=sizeLine/\(a==sysModules)=false/\ ∃vs,KV aJ vs/\h.DictOf (cz P w) a vs:=
 show bI P w H h a (.dK aJ) from Gq ok e
theorem LV {aJ:List (Key×V)} (ok:jh P w H h) (e:H a=some (.dK aJ)):aJ.length<=sizeLine/\(a==sysModules)=false/\ ∃vs,KV aJ vs/\h.DictOf (cz P w) a vs:=Gr ok (.inl e)
theorem wb {ks:List Key} (ok:jh P w H h) (e:H a=some (.tup (ks.map kV))):(tupleKind (cz P w)).is h ks a:=by
 obtain ⟨_,aF,r,o,h1,h2,n,h3⟩:=(show bI P w H h a (.tup (ks.map kV)) from ok a _ e)
 exact ⟨o,aF.toArray,n,h1,h2,h3,by simpa using qr r⟩
theorem Gs {aJ:List (List Key×V)} (ok:jh P w H h) (e:Rd H a (.dT aJ)):aJ.length<=sizeLine/\(a==sysModules)=false/\
  ∃xs,KT H aJ xs/\h.DictOfH (tupleKind (cz P w)) a xs:=by
 obtain ⟨z,y,xs,r,o,es,ep,h1,h2,h3,h4,h5⟩:=(show bI P w H h a (.dT aJ) from Gq ok e)
 refine ⟨z,y,xs,r,o,es,ep,h1,h2,h3,h4,fun x hx=>?_,h5⟩
 have all: ∀{l:List (List Key×V)} {m:List (List Key×Addr×Value)},KT H l m-> ∀x∈m,(tupleKind (cz P w)).is h x.1 x.2.1:=by
  intro l m q
  induction q with
  | nil=>intro x hx;exact nomatch hx
  | @cons p q ps qs hq t ih=>
   intro x hx
   rcases T4.mp hx with e | hx
   ·subst e
    exact wb ok (by rw[<-hq.1];exact hq.2.1)
   ·exact ih x hx
 exact all r x hx
theorem LW {aJ:List (List Key×V)} (ok:jh P w H h) (e:H a=some (.dT aJ)):aJ.length<=sizeLine/\(a==sysModules)=false/\
  ∃xs,KT H aJ xs/\h.DictOfH (tupleKind (cz P w)) a xs:=Gs ok (.inl e)
end
def BF (H:Hp) (a:Addr) (y:V) (r:Option V):Prop:=
 (∃aJ k,Rd H a (.dK aJ)/\y=kV k/\r=eN aJ k)\/ ∃aJ k b,Rd H a (.dT aJ)/\y= .ref b/\H b=some (.tup (k.map kV))/\r=eN aJ k
def zq (H:Hp) (a:Addr) (y v:V) (H':Hp):Prop:=
 (∃aJ k,H a=some (.dK aJ)/\y=kV k/\aJ.length<sizeLine/\H'=upd H a (.dK (putK aJ k v)))\/
 ∃aJ k b,H a=some (.dT aJ)/\y= .ref b/\H b=some (.tup (k.map kV))/\aJ.length<sizeLine/\H'=upd H a (.dT (putK aJ k v))
theorem BF.k {H:Hp} {a:Addr} {aJ:List (Key×V)} {k:Key} (e:H a=some (.dK aJ)):BF H a (kV k) (eN aJ k):= .inl ⟨aJ,k, .inl e,rfl,rfl⟩
theorem zq.k {H:Hp} {a:Addr} {aJ:List (Key×V)} {k:Key} {v:V} (e:H a=some (.dK aJ)) (hl:aJ.length<sizeLine):zq H a (kV k) v (upd H a (.dK (putK aJ k v))):= .inl ⟨aJ,k,e,rfl,hl,rfl⟩
section
variable {X:Cx} {pins:List (Addr×Obj)} {σ:St} {H:Hp} {s:Shared} {a:Addr} {y v:V} {u r:Value} {o:Option V} {A:Around} {E:Value->Shared->Prop}
theorem Inv.big (I:Inv X pins σ H s):sysModules<s.heap.objs.size:=by
 have h:mainGlobals<s.heap.objs.size:=(I.mod.glob.keeps I.bk).lt
 exact Qak (by decide) h
theorem Ey {Q:Value->Shared->Prop} (hu:A.units+1<cLine) (I:Inv X pins σ H s) (g:BF H a y o) (ry:RelV y u) (h: ∀s',Inv X pins σ H s'->Q (.bool (!o.isSome)) s'):
  wpAny (model X.prog X.w) A (compareOp .NotIn u (.ref a)) Q E s:=by
 rcases g with ⟨aJ,k,e,ey,l⟩ | ⟨aJ,k,b,e,ey,eb,l⟩
 ·subst ey
  obtain ⟨z,hd,vs,rel,dd⟩:=Gr I.bN e
  refine wpAny_notIn_of (BE ry) hd dd.mapOf ?_
  rw[<-(rel.val k).kM, <-l]
  exact h _ (I.tok _)
 ·subst ey
  cases (show u=Value.ref b from ry)
  obtain ⟨z,hd,xs,rel,dd⟩:=Gs I.bN e
  refine wpAny_notIn_heap (tupleKind_room_in1 hu) (wb I.bN eb) hd dd ?_
  have q:=(rel.val k).kM
  rw[Option.isSome_map]at q
  rw[<-q, <-l]
  exact h _ (I.tok _)
theorem xO {h':Heap} {t':Nat} {ob:HO} (I:Inv X pins σ H s) (mu:KW (H a)) (hs:Heap.SameBut a s.heap h') (he: ∃q,h'.get? a=some q) (new:bI X.prog X.w (upd H a ob) h' a ob):
  Inv X pins σ (upd H a ob) { s with heap:=h',toks:=t' }:=
 I.write (x:=a) (e:=a) mu (.inl rfl) (fun b q hb z=>(hs.2 b hb).trans z) he new
theorem HP {P:Program} {w:World} {H':Hp} {h':Heap} {aJ:List (Key×V)} {vs:List (Key×Value)} (z:aJ.length<=sizeLine) (hd:(a==sysModules)=false) (rel:KV aJ vs) (dd:h'.DictOf (cz P w) a vs):
  bI P w H' h' a (.dK aJ):=⟨z,hd,vs,rel,dd⟩
theorem zr {H':Hp} {Q:Unit->Shared->Prop} (hu:A.units+1<cLine) (I:Inv X pins σ H s) (g:zq H a y v H') (ry:RelV y u) (rv:RelV v r) (h: ∀s',Inv X pins σ H' s'->Q () s'):
  wpAny (model X.prog X.w) A (setItem (.ref a) u r) Q E s:=by
 rcases g with ⟨aJ,k,e,ey,l,eH⟩ | ⟨aJ,k,b,e,ey,eb,l,eH⟩
 ·subst ey eH
  obtain ⟨z,hd,vs,rel,dd⟩:=LV I.bN e
  have hz:vs.length<=sizeLine:=by rw[<-rel.length];exact z
  have hl:(putK aJ k v).length<=sizeLine:=by have:=hU aJ k v;lia
  refine wpAny_setItem_pairs (hsz:=hz) (BE ry) dd fun h' NG hs=>h _ ?_
  have he: ∃q,h'.get? a=some q:=let ⟨q,_,_,hq,_⟩:=NG;⟨q,hq⟩
  exact xO I (by rw[e];exact True.intro) hs he (HP hl hd (rel.put k rv) NG)
 ·subst ey eH
  cases (show u=Value.ref b from ry)
  obtain ⟨z,hd,xs,rel,dd⟩:=LW I.bN e
  have hz:xs.length<=sizeLine:=by rw[<-Paired.length rel];exact z
  have hl:(putK aJ k v).length<=sizeLine:=by have:=hU aJ k v;lia
  refine wpAny_setItem_heap (hsz:=hz) (tupleKind_room_in1 hu) (wb I.bN eb) dd fun h' NG hs=>h _ ?_
  obtain ⟨q,es,ep,hq,h2,h3,h4,_,h5⟩:=NG
  refine xO I (by rw[e];exact True.intro) hs ⟨q,hq⟩ ⟨hl,hd,_,(rel.put k eb rv).keeps fun c ys ec=>?_,q,es,ep,hq,h2,h3,h4,h5⟩
  rw[ao (KU ec e (fun z=>nomatch z))]
  exact ec
end
def Ez (ty td:TE):TE:=fun σ H Q=>ty σ H fun y H1=>td σ H1 fun x H2=> ∃a o,x= .ref a/\BF H2 a y o/\Q (.bl (!o.isSome)) H2
def LX (td ty tv:TE):TS:=fun D σ H=>tv σ H fun v H1=>td σ H1 fun x H2=>ty σ H2 fun y H3=> ∃a H4,x= .ref a/\zq H3 a y v H4/\D.nx σ H4
section
variable {X:Cx} {o i e value:Expr} {pos pos' Li:Pos} {td ty tv:TE}
theorem zu (hu:X.A.units+1<cLine) (hi:PE X i ty) (ho:PE X o td):PC X .NotIn i o (Ez ty td):=by
 intro pins s σ H Q I h
 refine cg (hi pins s σ H _ I h) fun iv s1 ⟨y,H1,I1,ry,q1⟩=>cg (ho pins s1 σ H1 _ I1 q1) fun u s2 ⟨x,H2,I2,rx,a,ov,ex,g,q2⟩=>?_
 subst ex
 obtain rfl:u=Value.ref a:=rx
 exact Ey hu I2 g ry fun s3 I3=>⟨.bl (!ov.isSome),H2,I3,rfl,q2⟩
theorem xP (hu:X.A.units+1<cLine) (ho:PE X o td) (hi:PE X i ty) (hv:PE X value tv) (hs:swapsWith value (some (.Subscript o i pos')) pos.line X.env=pure false):
  PS X (.Assign [.Subscript o i pos'] value pos) (LX td ty tv):=by
 intro pins s σ H D I h
 refine wpAny_Assign_Subscript (cg (hv pins s σ H _ I h) fun r s1 ⟨v,H1,I1,rv,q1⟩=>cg (ho pins s1 σ H1 _ I1 q1) fun u s2 ⟨x,H2,I2,rx,q2⟩=>cg (hi pins s2 σ H2 _ I2 q2) fun iv s3 ⟨y,H3,I3,ry,a,H4,ex,g,q3⟩=>?_) hs
 subst ex
 obtain rfl:u=Value.ref a:=rx
 exact zr hu I3 g ry rv fun s4 I4=>⟨σ,H4,I4,q3⟩
end
theorem BG {P:Program} {w:World} {H:Hp} (h:Heap) (hb:sysModules<h.objs.size):bI P w H (h.push { cls:= .type "dict",data:= .dict #[] }) h.objs.size (.dK []):=
 ⟨XI _,beq_eq_false_iff_ne.mpr (Ne.symm (XB hb)),[], .nil,Heap.DictOf.new h⟩
def HQ:TE:=fun _ H Q=> ∀p,H p=none->Q (.ref p) (upd H p (.dK []))
section
variable {X:Cx} {pos:Pos}
theorem ui:PE X (.Dict [] [] pos) HQ:=fun pins s σ H Q I h=>
 wpAny_Dict_empty ⟨.ref s.heap.objs.size,_,I.laid (a:=s.heap.objs.size) (o:= .dK []) (t':=s.toks) (fun _ _ q=>Rw _ q) (Rv _) (BG s.heap I.big),rfl,h _ (I.bN.fresh (Rv _))⟩
end
end L2
namespace L2.F2
open PySem PySem.Spec PyProof.Rows
end L2.F2
namespace L2
open PySem PySem.Spec PyProof.Rows
section
variable {prog:Program} {w:World} {A:Around} {E:Value->Shared->Prop} {s:Shared}
theorem nr {h h':Heap} {l b:Addr} {items:Array Value} (x:h.IsList l items) (k:Heap.ExtBut b h h') (n:l≠b):h'.IsList l items:=let ⟨o,ho,r⟩:=x;⟨o,k l o n ho,r⟩
theorem qt {it l:Addr} {items:Array Value} (cR:l≠it): ∀(n i:Nat) (s:Shared) (Q:List Value->Shared->Prop),s.heap.IsListIter it l i->s.heap.IsList l items->i+n<=items.size->
  (∀h',h'.IsListIter it l (i+n)->Heap.SameBut it s.heap h'->Q ((items.toList.drop i).take n) { s with heap:=h' })->wpAny (model prog w) A (draw (.ref it) n) Q E s
 | 0,i,s,Q,hit,_,_,hQ=>by
  show wpAny _ _ (pure []) Q E s
  exact wpAny_pure (by simpa using hQ s.heap hit (Heap.SameBut.refl ..))
 | n+1,i,s,Q,hit,ht,hle,hQ=>by
  have cj:i<items.size:=by lia
  show wpAny _ _ (pyNext (.ref it) >>= _) Q E s
  refine wpAny_bind (wpAny_pyNext_list_item hit ht (x:=items[i]) (by simp[cj]) fun h₁ HR LY=>?_)
  refine wpAny_bind (wpAny_holding (qt cR n (i+1) _ _ HR (nr ht LY.extBut cR) (by lia) fun h₂ Pe Ud=>wpAny_pure ?_))
  have hd:items.toList.drop i=items[i]::items.toList.drop (i+1):=by simp[YM,cj]
  have:=hQ h₂ (by rw[show i+(n+1)=i+1+n by lia];exact Pe) (LY.trans Ud)
  rw[hd,List.take_succ_cons]at this
  exact this
theorem kN {t:Addr} {items:Array Value} {Q:List Value->Shared->Prop} (hh:A.handled=none) (ht:s.heap.IsList t items)
  (hQ: ∀h',Heap.ExtBut s.heap.objs.size s.heap h'->Q items.toList { s with heap:=h' }):wpAny (model prog w) A (unpackItems (.ref t) items.size none) Q E s:=by
 have cj:t≠s.heap.objs.size:=by obtain ⟨o,ho,_⟩:=ht;exact XB (Xj ho)
 have hT:s.TypeIs (.ref t) "list":=let ⟨o,ho,hc,_⟩:=ht;⟨o,ho,hc⟩
 unfold unpackItems
 refine wpAny_bind ?_
 unfold notIterableAtAll
 refine wpAny_bind (wpAny_specialOf hT PySem.F.slot_list_iter.lookup ?_)
 refine wpAny_pure ?_
 simp only[Y0,if_false]
 refine wpAny_bind (wpAny_holding (wpAny_pyIter_list ht ?_))
 have RG: ∀o:Obj,(s.heap.push o).IsList t items:=fun o=>let ⟨ob,ho,r⟩:=ht;⟨ob,Rw _ ho,r⟩
 refine wpAny_bind (wpAny_holding (qt cj items.size 0 _ _ ⟨_,Xr _ rfl,rfl,rfl⟩ (RG _) (by lia) fun h₁ HR LY=>?_))
 have tZ:List.take items.size (List.drop 0 items.toList)=items.toList:=by
  rw[Yl];exact WJ (by simp)
 rw[tZ]
 rw[if_neg (by simp)]
 have Ue:h₁.IsList t items:=nr (RG _) LY.extBut cj
 refine wpAny_bind (wpAny_holding (wpAny_pyNext_list_end hh HR Ue (by simp) fun h₂ Ug=>?_))
 simp only[Option.isSome_none,Y0,if_false]
 refine wpAny_pure (hQ h₂ fun b o hb e=>Ug b o hb (LY.extBut b o hb (Rw _ e)))
theorem jN {env:Env} {elts:List Expr} {x1} {pos:Pos} {t:Addr} {items:Array Value} {Q:Unit->Shared->Prop} (hh:A.handled=none) (ht:s.heap.IsList t items)
  (hn:(assignEach elts env).length=items.size) (LZ:(assignEach elts env).findIdx? (·.1)=none)
  (h: ∀h',Heap.ExtBut s.heap.objs.size s.heap h'->wpAny (model prog w) A (assignInOrder ((assignEach elts env).map (·.2)) items.toList) Q E { s with heap:=h' }):
  wpAny (model prog w) A (assign (.Tuple elts x1 pos) env (.ref t)) Q E s:=by
 rw[assign_Tuple]
 refine wpAny_bind (wpAny_standAt ?_)
 unfold unpack
 rw[hn,LZ]
 exact wpAny_bind (wpAny_holding (kN hh ht h))
end
section
variable {X:Cx}
def Ph (K:PySem.W.Frag) (n:Nat) (t:DO):TG:=fun v σ H Q=> ∃a xs,v= .ref a/\a_ K H a xs/\xs.length=n/\t xs σ H Q
theorem EA (K:PySem.W.Frag) (h:X.K=K) {es:List Expr} {k:Nat} {t:DO} {n:Nat} {pos:Pos} (hc:X.calm=true) (hs:Jv X es t)
  (hn:(assignEach es X.env).length=n:=by rfl) (D4:(assignEach es X.env).findIdx? (·.1)=none:=by rfl):PG X (.Tuple es k pos) (Ph K n t):=by
 subst h
 intro pins s σ H v u Q I r hw
 obtain ⟨a,xs,e1,hq,hl,hw⟩:=hw
 subst e1
 cases r
 obtain ⟨aF,rv,ht,hz⟩:=I.list hq
 refine jN (I.ok.hd hc) ht.isList (by simp[hn, <-hl,rv.length]) D4 fun h' hx=>?_
 have I1:Inv X pins σ H { s with heap:=h' }:=I.kept (t':=s.toks) fun b o e=>hx b o (XB (Xj e)) e
 exact hs pins _ σ H xs _ Q I1 (by simpa using rv) hw
end
noncomputable def dd {α:Type} [DecidableEq α]:List α->List α->List α
 | σ,[]=>σ
 | σ,x::l=>dd (if x∈σ then σ else σ++[x]) l
theorem wc {α:Type} [DecidableEq α]: ∀(l σ:List α),(dd σ l).length<=σ.length+l.length
 | [],σ=>Rv _
 | x::l,σ=>by
  unfold dd
  have:=wc l (if x∈σ then σ else σ++[x])
  split at this<;>rename_i z
  ·rw[if_pos z,Xn];lia
  ·rw[if_neg z,Xn];rw[Jy]at this;simp at this ⊢; lia
theorem xQ {α:Type} [DecidableEq α]: ∀(l σ:List α) (x:α),dd σ (l++[x])=if x∈dd σ l then dd σ l else dd σ l++[x]
 | [],σ,x=>rfl
 | y::l,σ,x=>xQ l _ x
section
variable {prog:Program} {w:World} {A:Around} {E:Value->Shared->Prop} {s:Shared}
abbrev ny (prog:Program) (w:World) (h:Heap) (a:Addr) (l:List Str):Prop:=h.SetOf (strKind prog w) a (fun k=>decide (k∈dd [] l)) (dd [] l).length
theorem ny.frame {h h':Heap} {a:Addr} {l:List Str} (x:ny prog w h a l) (k: ∀o,h.get? a=some o->h'.get? a=some o):ny prog w h' a l:=by
 obtain ⟨o,es,ep,t,ho,r⟩:=x
 exact ⟨o,es,ep,t,k o ho,r⟩
theorem BH {R:Result->Shared->Prop} {I S:Addr} {fp wr:List Addr} {G:Array GenState->Array GenState->Prop} {P:Nat->Value->Prop} {St:Nat->Shared->Prop} {l:List Str}
  (W:WalksS prog w A.in1 I fp wr G l.length P St) (hS:S∉fp) (hP: ∀i v,P i v-> ∃x t,l[i]? =some x/\v= .str x t) (hb:l.length+1<scanBound):
  ∀(k i:Nat) (s:Shared),l.length - i=k->i<=l.length->St i s->ny prog w s.heap S (l.take i)->(∀s',Moved (S::wr) G s s'->ny prog w s'.heap S l->R (.ok (.ret .none)) s')->
   codeAny (model prog w) A (.builtin "set.update.loop" ⟨[.ref S, .ref I],[]⟩) R s:=by
 have RH:S∉wr:=fun h=>hS (W.sub _ h)
 have Gu: ∀b∈wr,b∈S::wr:=fun b g=>NA _ g
 intro k
 induction k with
 | zero=>
  intro i s hk hi D4 pJ hR
  obtain rfl:i=l.length:=by lia
  rw[Yz]at pJ
  refine codeAny_builtin PyProof.Rows.F.entry_set_update_loop ?_
  rw[Around.under_plainId Zb _]
  show wpAny _ A.in1 (pyNext (.ref I) >>= fun r=>_) _ _ s
  refine wpAny_bind (W.done s _ _ D4 fun s' hm=>?_)
  exact wpAny_pure (hR s' (hm.mono Gu) (pJ.frame fun o ho=>hm.heap S o RH ho))
 | succ k ih=>
  intro i s hk hi D4 pJ hR
  have cj:i<l.length:=by lia
  refine codeAny_builtin PyProof.Rows.F.entry_set_update_loop ?_
  rw[Around.under_plainId Zb _]
  show wpAny _ A.in1 (pyNext (.ref I) >>= fun r=>_) _ _ s
  refine wpAny_bind (W.item i s _ _ cj D4 fun v s' hp Pj hm=>?_)
  obtain ⟨x,t,hx,rfl⟩:=hP i v hp
  have L0:ny prog w s'.heap S (l.take i):=pJ.frame fun o ho=>hm.heap S o RH ho
  show wpAny _ A.in1 (holding [Value.str x t] (setAdd S (.str x t)) >>= fun b=>_) _ _ s'
  refine wpAny_bind (wpAny_holding ?_)
  unfold setAdd
  refine wpAny_holding (wpAny_bind ((strKind prog w).pyHash (k:=x) (by simp[PySem.strKind,Value.isStrOf]) ?_))
  have hle:=wc (l.take i) ([]:List Str)
  rw[Rt]at hle
  refine wpAny_setAddHashed_of (knd:=strKind prog w) (s:={ s' with toks:=s'.toks+1 }) (k:=x) (by simp[PySem.strKind,Value.isStrOf]) rfl L0 (by simp at hle;lia) fun h' RI L1=>?_
  have L3:ny prog w h' S (l.take (i+1)):=by
   have e1:l.take (i+1)=l.take i++[x]:=by rw[Zl,hx];rfl
   unfold ny
   rw[e1,xQ]
   refine PyProof.Rows.SetOf_congr L1 (fun y=>?_) ?_
   ·by_cases z:x∈dd [] (l.take i)
    ·rw[if_pos z]
     by_cases u:y=x
     ·rw[u,decide_eq_true z,Bool.true_or]
     ·rw[decide_eq_false u,ZJ]
    ·rw[if_neg z]
     by_cases u:y=x
     ·rw[u,decide_eq_true (show x=x from rfl),Bool.or_true,decide_eq_true (by simp)]
     ·rw[decide_eq_false u,ZJ]
      exact decide_eq_decide.mpr ⟨fun q=>Xx _ q,fun q=>(T3.mp q).resolve_right fun q=>u (Hy.mp q)⟩
   ·by_cases z:x∈dd [] (l.take i)
    ·rw[if_pos z,if_pos (decide_eq_true z)]
    ·rw[if_neg z,if_neg (by simpa using z),Jy];rfl
  refine wpAny_pure ⟨plainId_quiet Zb _,ih (i+1) _ (by lia) cj (W.frame _ s' _ _ Pj (YS _) fun b g o e=>?_) L3 fun Hn Pk Pl=>?_⟩
  ·rw[RI.2 b fun z:b=S=>hS (z▸g)];exact e
  ·refine hR Hn (Moved.trans W.gtrans ((hm.mono Gu).then_heap (YS _) fun b o g e=>?_) Pk) Pl
   rw[RI.2 b fun z:b=S=>g (z▸NB)];exact e
theorem qv: ∀{vs:List Value} {xs:List Str},StrsAre vs xs-> ∀(i:Nat) (v:Value),vs[i]? =some v-> ∃x t,xs[i]? =some x/\v= .str x t
 | _,_, .nil,i,v,h=>by simp at h
 | _,_, .cons y t r,0,v,h=>by simp at h;exact ⟨y,t,rfl,h.symm⟩
 | _,_, .cons y t r,i+1,v,h=>by
  obtain ⟨x,u,e1,e2⟩:=qv r i v (by simpa using h)
  exact ⟨x,u,by simpa using e1,e2⟩
noncomputable def rJ (led:Bool):Obj:={ cls:= .type "set",dict:=none,data:= .set #[] 0 (.fresh 0 0 led) }
theorem BI {R:Result->Shared->Prop} {l S:Addr} {items:Array Value} {xs:List Str} {led:Bool} (hh:A.handled=none) (hS:s.heap.get? S=some (rJ led)) (hl:s.heap.IsList l items) (hi:StrsAre items.toList xs) (hb:xs.length+1<scanBound)
  (h: ∀(h':Heap) (tk:Nat),ny prog w h' S xs->(∀b o,b≠S->b<s.heap.objs.size->s.heap.get? b=some o->h'.get? b=some o)->R (.ok (.ret .none)) { s with heap:=h',toks:=tk }):
  wpAny (model prog w) A.in1 (Builtin.«set.__init__» ⟨[.ref S, .ref l],[]⟩) (fun fin s'=>match fin with | .done f=>R (.ok f) s' | .again c'=>c'.quiet=true/\codeAny (model prog w) A c' R s') (fun e s'=>R (.error e) s') s:=by
 obtain ⟨ol,HS,EB,nl,RJ⟩:=id hl
 have cj:=Xj HS
 have Uh:=Xj hS
 have hT:s.TypeIs (.ref l) "list":=⟨ol,HS,EB⟩
 have cR:l≠S:=fun z=>by rw[z,hS]at HS;cases HS;exact absurd EB (by unfold rJ;simp)
 have z1:=PySem.F.sub_list_set
 have z2:=PySem.F.sub_list_frozenset
 have z3:(Value.type "list"==Value.type "dict")=false:=by decide
 obtain ⟨Ui,RK,RL,Pm⟩:=ol
 simp only at EB RJ
 subst EB RJ
 have Uj:=HS
 unfold Builtin.«set.__init__» noKeywords Builtin.Frozenset.updateFrom
 generalize Uk:pyIter=PI
 unfold rJ at hS
 wp_walk
 subst Uk
 refine wpAny_pyIter_list hl ?_
 refine wpAny_bind (wpAny_runValue ?_)
 have hlen:items.size=xs.length:=by rw[<-Xu];exact hi.length
 have Pn:l≠s.heap.objs.size:=XB cj
 have Ul:S∉[s.heap.objs.size,l]:=fun hm=>by
  rcases T4.mp hm with z | z
  ·exact absurd z (XB Uh)
  ·exact cR (Hy.mp z).symm
 have W:=(Walks.list (prog:=prog) (w:=w) (A:=A.in1.in1) (show A.in1.in1.handled=none from hh) s.heap.objs.size l Pn items).toS
 rw[hlen]at W
 have hit:(s.heap.push { cls:= .type "list_iterator",data:= .fields #[.ref l, .int 0 0] }).get? s.heap.objs.size=some { cls:= .type "list_iterator",data:= .fields #[.ref l, .int 0 0] }:=Xr _ rfl
 refine BH (A:=A.in1) (l:=xs) W Ul (fun i v hv=>?_) hb (xs.length - 0) 0 { s with heap:=s.heap.push { cls:= .type "list_iterator",data:= .fields #[.ref l, .int 0 0] } } rfl (XI _) ⟨⟨_,hit,rfl,rfl⟩,hl.push _⟩ ?_ fun s' hm pJ=>?_
 ·exact qv hi i v (by rw[Xy];exact hv)
 ·have NH:=Rw { cls:= .type "list_iterator",data:= .fields #[.ref l, .int 0 0] } hS
  exact PyProof.Rows.SetOf_congr ((PyProof.Rows.setObjOf_fresh (knd:=PySem.strKind prog w) led).setOf NH (by unfold scanBound;lia)) (fun k=>by rw[List.take_zero];rfl) rfl
 ·obtain ⟨h',g',d',Po,OP⟩:=s'
  obtain rfl:g'=s.gens:=hm.gens
  obtain rfl:d'=s.drawn:=hm.drawn
  obtain rfl:OP=s.os:=hm.os
  refine wpAny_pure (wpAny_pure (h h' Po pJ fun b o hb Pp e=>?_))
  exact hm.heap b o (fun Pq=>by
   rcases T4.mp Pq with z | z
   ·exact hb z
   ·exact absurd (Hy.mp z) (XB Pp)) (Rw _ e)
theorem zw {l:Addr} {items:Array Value} {xs:List Str} {Q:Value->Shared->Prop} (hh:A.handled=none) (hl:s.heap.IsList l items) (hi:StrsAre items.toList xs) (hb:xs.length+1<scanBound)
  (h: ∀(h':Heap) (tk:Nat),ny prog w h' s.heap.objs.size xs->(∀b o,s.heap.get? b=some o->h'.get? b=some o)->Q (.ref s.heap.objs.size) { s with heap:=h',toks:=tk }):
  wpAny (model prog w) A (call (.type "set") [.ref l]) Q E s:=by
 obtain ⟨c,tl,Um⟩:=Yx.mro
 have RM:=Yx.made
 have Uo:=Yx.sub
 have g1:=Yx.notType
 have g2:=Yx.canCreate
 have g3:=PySem.F.typeCall_set_1 (.ref l)
 refine wpAny_call (codeAny_of_tree ?_)
 show wpAny _ _ (callAny (.type "set") ⟨[.ref l],[]⟩) _ _ _
 refine wpAny_pure ⟨Code.quiet_builtin _ (by decide+kernel),codeAny_builtin PySem.F.entry_type_call ?_⟩
 rw[Around.under_plain (weight_type_call_type "set" [.ref l] []) rfl]
 repeat (any_goals (first | wp_step | assumption))
 refine codeAny_mono (code_set_new_1 (.ref l) (E:=E) (Q₁:=fun v s₁=> ∃led:Bool,v= .ref s.heap.objs.size/\s₁={ s with heap:=s.heap.push (rJ led) }) fun led=>⟨led,rfl,rfl⟩) fun r s₁ hr=>?_
 cases r with
 | error e=>exact hr
 | ok fl=>
  cases fl with
  | next=>exact hr.elim
  | brk=>exact hr.elim
  | cont=>exact hr.elim
  | ret v=>
   obtain ⟨led,rfl,rfl⟩:=hr
   have hS:(s.heap.push (rJ led)).get? s.heap.objs.size=some (rJ led):=Xr _ rfl
   have hT:Shared.TypeIs { s with heap:=s.heap.push (rJ led) } (.ref s.heap.objs.size) "set":=⟨_,hS,rfl⟩
   have g4:=Yx.init.lookup
   have g5:=Yx.init.bind (.ref s.heap.objs.size)
   repeat (any_goals (first | wp_step | assumption))
   refine codeAny_mono (codeAny_call_builtin (R:=wants (fun v s₂=>v= .none/\ ∃h' tk,s₂={ s with heap:=h',toks:=tk }/\ny prog w h' s.heap.objs.size xs/\ ∀b o,s.heap.get? b=some o->h'.get? b=some o) E) Yx.init.plain PySem.F.entry_set_init (check_set_init_1 hT ?_)) fun r₂ s₂ L4=>?_
   ·refine BI (s:={ s with heap:=s.heap.push (rJ led) }) hh hS (hl.push _) hi hb fun h' tk pJ hk=>⟨rfl,h',tk,rfl,pJ,fun b o e=>?_⟩
    have cj:=Xj e
    exact hk b o (XB cj) (by show b<(s.heap.push (rJ led)).objs.size;rw[Zd];exact Y3 cj) (Rw _ e)
   ·cases r₂ with
    | error e=>exact L4
    | ok Up=>
     cases Up with
     | next=>exact L4.elim
     | brk=>exact L4.elim
     | cont=>exact L4.elim
     | ret v=>
      obtain ⟨rfl,h',tk,rfl,k1,k2⟩:=L4
      repeat (any_goals (first | wp_step | assumption))
      exact h _ _ k1 k2
end
section
variable {X:Cx}
noncomputable def wd (q:Addr) (n:Nat):HO:= .ext fun h=> ∃(o:Obj) (es:Array (Int×Value)) (ep:Nat) (t:SetTable),h.get? q=some o/\o.ExactSet/\o.data= .set es ep t/\t.fits es.size=true/\es.size=n
def L5 (K:PySem.W.Frag):List V->Hp->VK->Prop:=fun xs H Q=> ∃(p:Addr) (l:List (List Nat)),xs=[.ref p]/\a_ K H p (l.map fun c=>V.str (S c))/\l.length<=20/\ ∀q,H q=none->Q (.ref q) (upd H q (wd q (dd [] (l.map S)).length))
theorem zx (K:PySem.W.Frag) (h:X.K=K) (hc:X.calm=true):cZ X (.type "set") (L5 K):=by
 subst h
 intro pins s σ H xs us Q I r h
 obtain ⟨p,l,rfl,hq,hz,q⟩:=h
 obtain ⟨u,rfl,ru⟩:=vals1 r
 cases ru
 obtain ⟨aF,rv,pl,_⟩:=I.list hq
 refine zw (I.ok.hd hc) pl.isList (by simpa using jl rv) (by rw[WH];unfold scanBound;lia) fun h' tk pJ hk=>?_
 refine ⟨.ref s.heap.objs.size,upd H s.heap.objs.size (wd _ _),I.laid (t':=tk) hk (Rv _) ?_,rfl,q _ I.fresh⟩
 obtain ⟨o,es,ep,t,ho,hex,hd,_,_,_,hf,hn⟩:=pJ
 exact ⟨⟨o,es,ep,t,ho,hex,hd,hf,hn⟩,⟨_,ho⟩,fun h1 h2 ⟨o,es,ep,t,ho,r⟩ k=>⟨o,es,ep,t,k o ho,r⟩⟩
theorem uj:cZ X (.builtin "len") (fun xs H Q=> ∃a n,xs=[V.ref a]/\H a=some (wd a n)/\n<=1000/\Q (.int n) H):=by
 intro pins s σ H xs us Q I r h
 obtain ⟨a,n,rfl,ha,hz,q⟩:=h
 obtain ⟨u,rfl,ru⟩:=vals1 r
 cases ru
 obtain ⟨hv,_,_⟩:bI X.prog X.w H s.heap a (wd a n):=I.bN a _ ha
 obtain ⟨o,es,ep,t,ho,hex,hd,hf,hn⟩: ∃(o:Obj) (es:Array (Int×Value)) (ep:Nat) (t:SetTable),s.heap.get? a=some o/\o.ExactSet/\o.data= .set es ep t/\t.fits es.size=true/\es.size=n:=hv
 refine call_len_set ho hex hd hf (by lia) ?_
 rw[hn]
 exact ⟨.int n,H,I.tok _,⟨_,rfl⟩,q⟩
def L6 (K:PySem.W.Frag):List V->Hp->VK->Prop:=fun xs H Q=> ∃(p:Addr) (ns:List Int),xs=[.ref p]/\a_ K H p (ns.map V.int)/\Q (.int ns.sum) H
theorem zy (K:PySem.W.Frag) (h:X.K=K) (hc:X.calm=true):cZ X (.builtin "sum") (L6 K):=by
 subst h
 intro pins s σ H xs us Q I r h
 obtain ⟨p,ns,rfl,hq,q⟩:=h
 obtain ⟨u,rfl,ru⟩:=vals1 r
 cases ru
 obtain ⟨aF,rv,pl,_⟩:=I.list hq
 have hi:IntsAre aF ns:=intsAre_of rv
 obtain ⟨ys,e⟩:=hi.allInts.items
 have hl:s.heap.IsList p (intItems ys):=by rw[<-e];exact pl.isList
 refine sum_intListG (I.ok.hd hc) hl fun h' tk t' hk=>?_
 have e2:preSum (numAt ys) ys.size=ns.sum:=by
  rw[preSum_eq,WJ (by simp), <-nums_intItems, <-e]
  exact congrArg List.sum hi.numsOf
 rw[e2]
 exact ⟨.int ns.sum,H,I.kept (t':=tk) hk,⟨_,rfl⟩,q⟩
theorem nz:cZ X (.builtin "isinstance") (fun xs H Q=> ∃i,(xs=[.int i, .ty "int"]/\Q (.bl true) H)\/(xs=[.int i, .ty "bool"]/\Q (.bl false) H)):=by
 intro pins s σ H xs us Q I r h
 obtain ⟨i,h⟩:=h
 rcases h with ⟨rfl,q⟩ | ⟨rfl,q⟩
 ·obtain ⟨u,w',rfl,r1,r2⟩:=vals2 r
  cases (show w'=Value.type "int" from r2)
  exact kE I r1 (.int i) (by unfold PySem.W.kitOne;rw[if_pos (by decide)]) fun tk=>⟨.bl true,H,I.tok _,rfl,q⟩
 ·obtain ⟨u,w',rfl,r1,r2⟩:=vals2 r
  cases (show w'=Value.type "bool" from r2)
  exact kE I r1 (.int i) (b:=false) (by unfold PySem.W.kitOne;rw[if_neg (by decide)];rfl) fun tk=>⟨.bl false,H,I.tok _,rfl,q⟩
end
end L2
namespace L2
open PySem PySem.Spec PyProof.Rows PySem.MeetsSeq PySem.SeqAt
theorem BJ (p:Addr) (av:Array Value) (c:Nat) (x:Value) (f:Value->Bool) (j:Nat) (hj:j<av.size) (yes:f av[j]=true) (k:Nat) (hz:av.size<=sizeLine):
  ∀i:Nat,j - i=k->i<=j->(∀m (hm:m<av.size),i<=m->m<j->f av[m]=false)->Meets (Builtin.«list.remove.loop» ⟨[.ref p,x,rawInt i],[]⟩)
   (fun A R s=>s.heap.get? p=some { cls:= .type "list",dict:=none,data:= .seq av c,slots:= #[] }/\(∀y,y∈av->EqAt A.in1 s y x (f y))/\R (.ok (.ret .none)) { s with heap:=s.heap.update p (Obj.mapSeq fun xs=>xs.eraseIdxIfInBounds j) }):=by
 induction k with
 | zero=>
  intro i hk q_ no prog w A R s h
  obtain ⟨hp,g,d,tk,os⟩:=s;obtain ⟨q1,q2,h⟩:=h
  have e0:i=j:=by lia
  subst e0
  wp_walk using wpAny_loadPart' q1
  have e1:av[((i:Nat):Int).toNat]? =some av[i]:=by simp[hj]
  rw[e1]
  refine wpAny_bind (q2 _ (Array.getElem_mem hj) prog w _ _ ?_);rw[yes]
  have z2:(av.eraseIdxIfInBounds i).size<=sizeLine+1:=XG (size_erased av _) (YR hz)
  wp_walk using (wpAny_updateSeq q1 rfl (hz:=hz) (_hz':=z2)),wpAny_loadPart' q1
  simpa using h
 | succ k ih=>
  intro i hk q_ no prog w A R s h
  obtain ⟨hp,g,d,tk,os⟩:=s;obtain ⟨q1,q2,h⟩:=h
  have lt:i<av.size:=by lia
  wp_walk using wpAny_loadPart' q1
  have e1:av[((i:Nat):Int).toNat]? =some av[i]:=by simp[lt]
  have e2:((i:Int)+1)=((i+1:Nat):Int):=by push_cast;rfl
  rw[e1]
  refine wpAny_bind (q2 _ (Array.getElem_mem lt) prog w _ _ ?_);rw[no i lt (Rv _) (by lia)]
  wp_walk
  rw[e2]
  exact ⟨plainId_quiet plain_remove_loop _,codeAny_builtin entry_remove_loop (by rw[Around.under_plainId plain_remove_loop _];exact ih (i+1) (by lia) (by lia) (fun m hm h1 h2=>no m hm (by lia) h2) prog w A R _ ⟨q1,q2,h⟩)⟩
theorem BK (p:Addr) (av:Array Value) (c:Nat) (x:Value) (f:Value->Bool) (j:Nat) (hj:j<av.size) (yes:f av[j]=true) (no: ∀m (hm:m<av.size),m<j->f av[m]=false) (hz:av.size<=sizeLine):
  Meets (Builtin.«list.remove» ⟨[.ref p,x],[]⟩) (fun A R s=>s.heap.get? p=some { cls:= .type "list",dict:=none,data:= .seq av c,slots:= #[] }/\(∀y,y∈av->EqAt A.in1 s y x (f y))/\R (.ok (.ret .none)) { s with heap:=s.heap.update p (Obj.mapSeq fun xs=>xs.eraseIdxIfInBounds j) }):=by
 intro prog w A R s h
 obtain ⟨hp,g,d,tk,os⟩:=s;obtain ⟨q1,q2,h⟩:=h
 wp_walk using wpAny_loadPart' q1
 exact ⟨plainId_quiet plain_remove_loop _,codeAny_builtin entry_remove_loop (by rw[Around.under_plainId plain_remove_loop _];exact BJ p av c x f j hj yes _ hz 0 rfl (XI _) (fun m hm _ h2=>no m hm h2) prog w A R _ ⟨q1,q2,h⟩)⟩
section
variable {X:Cx}
inductive xR (K:PySem.W.Frag) (x:V) (vs:List V) (H:Hp) (Q:VK):Prop
 | mk (p:Addr) (xs:List V) (v:V) (ds:List PyData) (d:PyData) (j:Nat) (_:x= .ref p) (_:vs=[v]) (_:H p=some (.lst xs)) (_:kL K H xs ds) (_:v7 K H v d) (_:(PyData.canLayAll0 ds=true/\d.canLay0=true)) (_:d.depth<=60) (_:(∃e,ds[j]? =some e/\PyData.eqv e d=true)) (_:(∀m e,m<j->ds[m]? =some e->PyData.eqv e d=false)) (_:Q .eK (upd H p (.lst (xs.eraseIdx j)))):xR K x vs H Q
def L7 (K:PySem.W.Frag):V->List V->Hp->VK->Prop:=xR K
theorem EC {k:Nat} (K:PySem.W.Frag) (h:X.K=K) (hr:cF k X.A):Lv X "list.remove" (L7 K):=by
 subst h
 intro pins s σ H x vs v us Q I rx rv h
 obtain ⟨p,xs,y,ds,d,j,rfl,rfl,hH,rs,rd,⟨l1,l2⟩,dp,⟨ej,RN,yj⟩,no,q⟩:=h
 cases rx
 obtain ⟨u,rfl,ru⟩:=rv.one
 obtain ⟨z,aF,n,r,hl,e⟩:=I.tW hH
 obtain ⟨as,ra⟩:=rd.reads I ru
 obtain ⟨bs,rb⟩:=rs.reads I r
 have hu:=hr.units
 have hm:min (PyData.depthAll ds) d.depth<=60:=XG (Nat.min_le_right _ _) dp
 have L9:aF.map (readOf s.heap)=ds:=readsAll_map ds aF bs l1 rb
 have BL: ∀m (hm:m<aF.toArray.size) (g:PyData),ds[m]? =some g->PyData.eqv (readOf s.heap aF.toArray[m]) d=PyData.eqv g d:=fun m hm g hg=>by
  rw[<-L9,XC]at hg
  have BM:m<aF.length:=by rw[WI]at hm;exact hm
  rw[Hz BM]at hg
  have:=WK hg
  rw[List.getElem_toArray,this]
 have hlen:ds.length=aF.length:=by rw[<-L9,WH]
 have hj:j<aF.toArray.size:=by rw[WI, <-hlen];exact (Ru.mp RN).1
 refine call_meets F.slot_list_remove ⟨_,e,rfl⟩ F.entry_list_remove (F.args_list_remove_2 _ _)
  (BK p aF.toArray n u (fun w=>PyData.eqv (readOf s.heap w) d) j hj (by rw[BL j hj ej RN];exact yj) (fun m hm h2=>?_) (by rw[WI, <-hl];exact z)) ⟨e,?_,?_⟩
 ·have BM:m<ds.length:=by rw[hlen];rw[WI]at hm;exact hm
  rw[BL m hm ds[m] (Hz BM)]
  exact no m _ h2 (Hz BM)
 ·exact items_eqAt (by simpa using rb) ra l1 l2 (by lia)
 ·refine ⟨.eK,_,I.A6 (its':=aF.eraseIdx j) hH e ?_ (r.eraseIdx j) ?_,rfl,q⟩
  ·show aF.toArray.eraseIdxIfInBounds j=(aF.eraseIdx j).toArray
   rw[Zq]
  ·have:=kH xs j
   lia
end
end L2
namespace XL
open PySem PySem.Spec PySem.Calls PyProof.Rows PySem.W Builtin Builtin.ObjectAttr
end XL
namespace XL
open PySem PySem.Spec PySem.Calls PyProof.Rows PySem.W
end XL
namespace L2
open PySem PySem.Spec PyProof.Rows XL
def L_ (_ j:Int):Prop:=0<j/\j<18446744073709551616
theorem e_ {X:Cx}:gM X (binaryOp .FloorDiv) (rI L_ fun i j=> .int (i / j)):=Nv fun i j _ _ _ _ _ hc q=>by
 have h1:(0:Int)<j:=hc.1
 have h2:j<18446744073709551616:=hc.2
 have h3:j.natAbs<2 ^ 64:=by lia
 exact floordiv_int (by lia) (by rw[Int.fdiv_eq_ediv_of_nonneg i (by lia)];exact q) (.inl (PyProof.noPylong_of_log2 (Qak ((Nat.log2_lt (by lia)).mpr h3) (by decide))))
end L2
namespace PySem
end PySem
namespace L2
open PySem PySem.Spec PyProof.Rows
end L2
namespace L2.F3
open PySem PySem.Spec PyProof.Rows
end L2.F3
namespace L2
open PySem PySem.Spec PyProof.Rows
theorem um:typeLookup (.type "dict") "__len__"=pure (some (.builtin "dict.__len__")):=PySem.F.slot_dict_len.lookup
section
variable {prog:Program} {w:World} {A:Around} {E:Value->Shared->Prop} {s:Shared} {KK:Type} [DecidableEq KK] {knd:PySem.KeyKind prog w KK}
theorem rK {Q:List Value->Shared->Prop} (hh:A.handled=none) (d:Addr) (aJ:List (KK×Value)) (ep:Nat) (hd:(d==sysModules)=false) (hm:s.heap.DictAt knd d aJ ep) (hn:aJ.length<=sizeLine)
  (hQ: ∀s' acc,(∀b o,s.heap.get? b=some o->s'.heap.get? b=some o)->s'.gens=s.gens->s'.drawn=s.drawn->s'.os=s.os->ItemsOf (fun i v=> ∃k x,aJ[i]? =some (k,x)/\knd.is k v=true) acc aJ.length->Q acc.toList s'):
  wpAny (model prog w) A (collect (.ref d)) Q E s:=by
 have hT:s.TypeIs (.ref d) "dict":=hm.dictOf.typeIs
 obtain ⟨od,Uq,Ur⟩:=id hT
 have Ma:=Xj Uq
 unfold collect
 refine wpAny_bind (wpAny_runValue (codeAny_builtin PySem.F.entry_proto_collect ?_))
 rw[Around.under_plainId PySem.F.plain_proto_collect _]
 show wpAny _ A.in1 (newList [] >>= fun l=>again (.builtin "list.__iadd__" ⟨[l, .ref d],[]⟩)) _ _ s
 refine wpAny_bind (wpAny_newObj_type ?_)
 refine wpAny_pure ⟨plainId_quiet PySem.F.plain_list_iadd _,codeAny_builtin PySem.F.entry_list_iadd ?_⟩
 rw[Around.under_plainId PySem.F.plain_list_iadd _]
 show wpAny _ A.in1 (Builtin.List.listExtendWith (.ref s.heap.objs.size) (.ref d) (.ref s.heap.objs.size)) _ _ _
 generalize hH:s.heap.push { cls:= .type "list",data:= .seq ([]:List Value).toArray }=H
 have Pr:H.objs.size=s.heap.objs.size+1:=by rw[<-hH,Zd]
 have NI:H.DictAt knd d aJ ep:=hm.at' fun o e=>by rw[<-hH];exact Rw _ e
 have Pt:Shared.TypeIs { s with heap:=H } (.ref d) "dict":=NI.dictOf.typeIs
 have Pu:s.heap.objs.size≠d:=Zw Ma
 unfold Builtin.List.listExtendWith
 refine wpAny_bind (wpAny_typeOf Pt ?_)
 have h1:Builtin.List.listSameRef (.ref s.heap.objs.size) (.ref d)=false:=by simp[Builtin.List.listSameRef,Pu]
 rw[if_neg (by rw[h1];decide)]
 refine wpAny_bind (wpAny_pyIter_dict (s:={ s with heap:=H }) hd NI ?_)
 show wpAny _ A.in1 _ _ _ { s with heap:=H.push { cls:= .type "dict_keyiterator",data:= .fields #[.ref d, .int 0 0, .int aJ.length 0, .int ep 0] } }
 generalize Gh:H.push { cls:= .type "dict_keyiterator",data:= .fields #[.ref d, .int 0 0, .int aJ.length 0, .int ep 0] }=H2
 have BM:H2.DictAt knd d aJ ep:=NI.at' fun o e=>by rw[<-Gh];exact Rw _ e
 have HU:Shared.TypeIs { s with heap:=H2 } (.ref d) "dict":=BM.dictOf.typeIs
 refine wpAny_bind (wpAny_holding ?_)
 unfold Builtin.List.listLengthHint
 refine wpAny_bind (wpAny_specialOf HU um ?_)
 wp_delta
 refine wpAny_bind (wpAny_isInstance (T:="dict") (b:=true) HU (by rw[isSubtype_type];kernel_rfl) ?_)
 show wpAny _ A.in1 (typeOf (Value.ref d) >>= _) _ _ _
 refine wpAny_bind (wpAny_typeOf HU ?_)
 refine wpAny_pure ?_
 rw[if_pos (by decide+kernel)]
 refine wpAny_bind (wpAny_rule ?_)
 refine wpAny_bind ?_
 unfold Builtin.List.listTouch
 have hS:H2.get? s.heap.objs.size=some { cls:= .type "list",data:= .seq ([]:List Value).toArray }:=by
  rw[<-Gh];exact Rw _ (by rw[<-hH];exact Xr _ rfl)
 refine wpAny_bind (wpAny_updateSeq hS rfl ?_ (XI _) (Qap (XI _)))
 have NH:=Y8 (Obj.mapSeq (fun l:Array Value=>l.push .none)) hS rfl
 refine wpAny_updateSeq NH rfl ?_ (by show 1<=sizeLine;decide) (XI _)
 have Us:=Y8 (Obj.mapSeq (fun l:Array Value=>l.pop)) NH rfl
 have Pw: ∀b o,b≠s.heap.objs.size->H2.get? b=some o->((H2.update s.heap.objs.size (Obj.mapSeq (fun l:Array Value=>l.push .none))).update s.heap.objs.size (Obj.mapSeq (fun l:Array Value=>l.pop))).get? b=some o:=fun b o hb e=>
  (X0 _ _ (Ne.symm hb)).trans ((X0 _ _ (Ne.symm hb)).trans e)
 have hit:H2.get? H.objs.size=some { cls:= .type "dict_keyiterator",data:= .fields #[.ref d, .int 0 0, .int aJ.length 0, .int ep 0] }:=by rw[<-Gh];exact Xr _ rfl
 have RP:H.objs.size≠s.heap.objs.size:=by rw[Pr];exact Nat.succ_ne_self _
 have Ut:d≠H.objs.size:=by rw[Pr];exact XB (Y3 Ma)
 have Uu:s.heap.objs.size∉[H.objs.size,d]:=fun Uv=>by
  rcases T4.mp Uv with z | z
  ·exact RP z.symm
  ·exact Pu (Hy.mp z)
 refine wpAny_pure ⟨plainId_quiet PySem.F.plain_extend_loop _,codeAny_extend_loopS (Walks.dictKeys (knd:=knd) (A:=A.in1) hh H.objs.size d Ut aJ ep).toS hn _ Uu _ aJ.length 0 _ _ _ rfl (XI _)
  ⟨⟨_,Pw _ _ RP hit,rfl,rfl⟩,BM.at' fun o e=>Pw d o (Ne.symm Pu) e⟩ Us (ItemsOf.nil _) fun s' da c' NJ Uw rB=>?_⟩
 show wpAny _ A (load s.heap.objs.size >>= _) _ _ s'
 refine wpAny_bind (wpAny_load Uw ?_)
 refine wpAny_pure (hQ s' da (fun b ob e=>NJ.heap b ob (fun hb=>?_) (Pw b ob (XB (Xj e)) (by rw[<-Gh];exact Rw _ (by rw[<-hH];exact Rw _ e)))) NJ.gens NJ.drawn NJ.os rB)
 have cj:=Xj e
 rcases T4.mp hb with h | h
 ·exact absurd cj (h▸X_ _)
 ·rw[Hy.mp h,Pr]at cj;exact absurd cj (Nat.not_lt.mpr (YS _))
end
section
variable {X:Cx}
theorem xS {aJ:List (Key×V)} {vs:List (Key×Value)} (h:KV aJ vs):vs.map (·.1)=aJ.map (·.1):=by
 induction h with
 | nil=>rfl
 | cons r _ ih=>rw[XM,XM,ih,r.1]
end
end L2
namespace XL
open PySem PySem.Spec PySem.Calls PyProof.Rows PySem.W
end XL
namespace L2
open PySem PySem.Spec PyProof.Rows XL
end L2
namespace PySem
open Sem (wp)
namespace F
end F
end PySem
namespace L2
open PySem PySem.Spec PyProof.Rows
end L2
namespace L2.F2
open PySem PySem.Spec PyProof.Rows
end L2.F2
namespace L2
open PySem PySem.Spec PyProof.Rows
section
variable {X:Cx}
def zA (ta:TA):TE:=fun σ H Q=>ta σ H fun vs H1=> ∃j:Int,vs=[.int j]/\ -(2 ^ 61)<=j/\j<=1000000/\ ∀q,H1 q=none->Q (.ref q) (upd H1 q (.lst ((List.range j.toNat).map fun (k:Nat)=>V.int (0+(k:Int)))))
theorem uo {i:Int}: ∀(n:Nat) (vs:List Value),vs.length=n->(∀(j:Nat) (v:Value),vs[j]? =some v-> ∃t,v= .int (i+(j:Int)*1) t)->Vals ((List.range n).map fun (k:Nat)=>V.int (i+(k:Int))) vs
 | 0,vs,hl,_=>by
  obtain rfl:vs=[]:=YF.mp hl
  exact .nil
 | n+1,vs,hl,h=>by
  have e:vs=vs.take n++[vs[n]'(by lia)]:=by
   conv=>lhs;rw[<-Yz (l:=vs),hl,YT (by lia)]
  obtain ⟨t,ht⟩:=h n (vs[n]'(by lia)) (Hz _)
  rw[e,Zf,XJ]
  refine (uo n (vs.take n) (by rw[Rt];lia) fun j w hj=>h j w ?_).append (.cons ⟨t,?_⟩ .nil)
  ·have Mb:=(Ru.mp hj).1
   rw[Rt]at Mb
   rw[Xt (by lia)]at hj
   exact hj
  ·rw[ht,Int.mul_one]
theorem BN {pins:List (Addr×Obj)} {σ:St} {H:Hp} {s:Shared} {Q:VK} {lo hi:Int} {t u v:Tok} {tk:Nat} (hc:X.calm=true) (I:Inv X pins σ H s) (h1: -(2 ^ 61)<=lo) (h2:lo<2 ^ 61) (h3: -(2 ^ 61)<=hi) (h4:hi<2 ^ 61) (hz:hi - lo<=1000000)
  (q: ∀p,H p=none->Q (.ref p) (upd H p (.lst ((List.range (hi - lo).toNat).map fun (k:Nat)=>V.int (lo+(k:Int)))))):
  wpAny (model X.prog X.w) X.A (call (.type "list") [.ref s.heap.objs.size]) (EP X pins σ Q) X.xe { s with heap:=s.heap.push { cls:= .type "range",data:= .fields #[.int lo t, .int hi u, .int 1 v] },toks:=tk }:=by
 have hs:(1000000:Nat)<sizeLine:=by decide
 refine PySem.call_list_range (n:=(hi - lo).toNat) (I.ok.hd hc) (IsRange.new ..) (small_one (by lia) (by lia) (by lia) (by lia)) (by rw[rangeSize_one];split<;>lia) (by lia) fun h' Po da c' hk e rB=>?_
 obtain ⟨HV,NK⟩:=rB
 have hsz:(s.heap.push { cls:= .type "range",data:= .fields #[.int lo t, .int hi u, .int 1 v] }).objs.size=s.heap.objs.size+1:=Zd _ _
 refine ⟨.ref _,_,I.laid (t':=Po) (o:= .lst ((List.range (hi - lo).toNat).map fun (k:Nat)=>V.int (lo+(k:Int)))) (fun b o hb=>hk b o (Rw _ hb)) (YI (by show s.heap.objs.size<_;rw[hsz];exact Yy _)) ?_,rfl,q _ (I.bN.fresh (YI (by show s.heap.objs.size<_;rw[hsz];exact Yy _)))⟩
 exact ⟨by rw[WH,List.length_range];lia,da.toList,c',uo _ _ (by simpa using HV) (fun j v e=>NK j v (by simpa using e)),by simpa using e⟩
theorem uq {a:Expr} {ta:TA} {p p2 pos BO:Pos} (hc:X.calm=true) (Uy:Gl X "list") (JA:X.mg "list"=none) (hg:Gl X "range") (hm:X.mg "range"=none) (ha:PA X [a] ta)
  (hs:starEach [a] X.env=[(false,eval a X.env)]:=by rfl) (Ld:starEach [.Call (.Name "range" p2) [a] [] BO] X.env=[(false,eval (.Call (.Name "range" p2) [a] [] BO) X.env)]:=by rfl):
  PE X (.Call (.Name "list" p) [.Call (.Name "range" p2) [a] [] BO] [] pos) (zA ta):=by
 intro pins s σ H Q I h
 refine Call_ (fH I Uy JA boot_list (Yj ?_ Ld rfl))
 rw[Ld]
 refine Calls.spliced_cons ?_
 refine Call_ (fH I hg hm boot_range (Yj (cg (ha BO pins s σ H _ I h) fun us s1 ⟨vs,H1,I1,r1,q1⟩=>?_) hs rfl))
 obtain ⟨j,rfl,q1,q2,q⟩:=q1
 obtain ⟨u,rfl,t,rfl⟩:=vals1 r1
 refine call_range_1 ?_
 refine Calls.spliced_nil ?_
 refine BN hc I1 (by lia) (by lia) q1 (by lia) (by lia) (by simpa using q)
end
end L2
namespace L2
open PySem PySem.Spec PyProof.Rows PySem.W
end L2
namespace L2
open PySem PySem.Spec PyProof.Rows PySem.MeetsSeq PySem.SeqAt
end L2
namespace L2
open PySem PySem.Spec PyProof.Rows HT
noncomputable def Uz:Bool->Keyed->Array Keyed->Nat->Nat->Nat->StateT SortSt Sem (Option Nat):=sortPriv%PySem.Builtin.gallop
noncomputable def UA:Array Keyed->Array Keyed->StateT SortSt Sem (Array Keyed):=sortPriv%PySem.Builtin.mergeLo
noncomputable def UB:Array Keyed->Array Keyed->StateT SortSt Sem (Array Keyed):=sortPriv%PySem.Builtin.mergeHi
section
variable {prog:Program} {w:World} {A:Around} {E:Value->Shared->Prop} {s:Shared} {κ:KeyKind} {a₀:Array Keyed}
theorem bL {st:SortSt} {arr:Array Keyed} {i:Nat} {Q:Keyed->SortSt->Prop} (hi:i<arr.size) (h: ∀p,p∈arr.toList->arr[i]? =some p->Q p st):wpS (model prog w) A E s (elem' arr i) Q st:=by
 have e:arr[i]? =some arr[i]:=getElem?_pos arr i hi
 rw[elem'_eq,e]
 exact wpS_pure (h _ (by simp) e)
end
theorem az {M:Model} {A:Around} {E:Value->Shared->Prop} {s:Shared} {σ α:Type} {c:Prop} [Decidable c] {m1 m2:StateT σ Sem α} {Q:α->σ->Prop} {st:σ} (h1:c->wpS M A E s m1 Q st) (h2: ¬c->wpS M A E s m2 Q st):wpS M A E s (if c then m1 else m2) Q st:=by
 by_cases g:c
 ·rw[if_pos g];exact h1 g
 ·rw[if_neg g];exact h2 g
noncomputable def sg (st:SortSt) (g:Nat):SortSt:=SortSt.mk' (kindOf st) (arrOf st) (pendingOf st) g (failedOf st)
def nB (st aL:SortSt):Prop:= ∃g,aL=sg st g
theorem nB.refl (st:SortSt):nB st st:=⟨gallopOf st,rfl⟩
theorem nB.set {st aL:SortSt} (h:nB st aL) (g:Nat):nB st (sg aL g):=by
 obtain ⟨g0,rfl⟩:=h
 exact ⟨g,rfl⟩
def Mg (a b out:Array Keyed) (ia ib:Nat):Prop:=out.toList.Perm (a.toList.take ia++b.toList.take ib)
theorem dP {α:Type} {l:List α} {i:Nat} {p:α} (h:l[i]? =some p):l.take (i+1)=l.take i++[p]:=by
 have:=Ru.mp h
 rw[YT this.1,this.2]
theorem eO {α:Type} {l:List α} {i:Nat} {p:α} (h:l[i]? =some p):l.drop i=p::l.drop (i+1):=by
 have:=Ru.mp h
 rw[YM this.1,this.2]
theorem nC {α:Type} (l:List α) (i j:Nat) (h:i<=j):l.take j=l.take i++(l.drop i).take (j - i):=by
 have:j=i+(j - i):=by lia
 conv=>lhs;rw[this,List.take_add]
theorem nE {α:Type} (l:List α) (i j:Nat) (h:i<=j):l.drop i=(l.drop i).take (j - i)++l.drop j:=by
 conv=>lhs;rw[<-T5 (j - i) (l.drop i),kb,show i+(j - i)=j by lia]
theorem aK {α:Type} (a:Array α) (i j:Nat):(a.extract i j).toList=(a.toList.drop i).take (j - i):=by simp[List.extract]
theorem Mg.we {a b out:Array Keyed} {ia ib:Nat} (h:Mg a b out ia ib):(out++a.extract ia++b.extract ib).toList.Perm (a.toList++b.toList):=by
 rw[Xk,Xk,aK,aK,WJ (by simp),WJ (by simp)]
 refine ((h.append_right _).append_right _).trans ?_
 conv=>rhs;rw[<-T5 ia a.toList, <-T5 ib b.toList]
 rw[Lu,Lu,Lu]
 refine Ye _ ?_
 rw[<-Lu, <-Lu]
 exact ZS _ XE
theorem Mg.HW {a b out:Array Keyed} {ia ib:Nat} (h:Mg a b out ia ib):(out++b.extract ib++a.extract ia).toList.Perm (a.toList++b.toList):=by
 refine List.Perm.trans ?_ h.we
 simp only[Xk,Lu]
 exact Ye _ XE
theorem Mg.i_ {a b out:Array Keyed} {ia ib:Nat} {p:Keyed} (h:Mg a b out ia ib) (hp:b[ib]? =some p):Mg a b (out.push p) ia (ib+1):=by
 unfold Mg
 rw[Yb,dP (l:=b.toList) (by simpa using hp), <-Lu]
 exact h.append_right _
theorem Mg.ja {a b out:Array Keyed} {ia ib:Nat} {p:Keyed} (h:Mg a b out ia ib) (hp:a[ia]? =some p):Mg a b (out.push p) (ia+1) ib:=by
 unfold Mg
 rw[Yb,dP (l:=a.toList) (by simpa using hp),Lu]
 refine (h.append_right _).trans ?_
 rw[Lu]
 exact Ye _ XE
theorem Mg.pL {a b out:Array Keyed} {ia ib k:Nat} (h:Mg a b out ia ib):Mg a b (out++b.extract ib (ib+k)) ia (ib+k):=by
 unfold Mg
 rw[Xk,aK,nC b.toList ib (ib+k) (by lia), <-Lu]
 exact h.append_right _
theorem Mg.pM {a b out:Array Keyed} {ia ib k:Nat} (h:Mg a b out ia ib):Mg a b (out++a.extract ia (ia+k)) (ia+k) ib:=by
 unfold Mg
 rw[Xk,aK,nC a.toList ia (ia+k) (by lia),Lu]
 refine (h.append_right _).trans ?_
 rw[Lu]
 exact Ye _ XE
def Mh (a b out:Array Keyed) (na nb:Nat):Prop:=out.toList.Perm (a.toList.drop na++b.toList.drop nb)
theorem Mh.we {a b out:Array Keyed} {na nb:Nat} (h:Mh a b out na nb):(a.extract 0 na++b.extract 0 nb++out.reverse).toList.Perm (a.toList++b.toList):=by
 rw[Xk,Xk,aK,aK,Yl,Yl,YQ,YQ,Yr]
 refine (Ye _ ((Y4 _).trans h)).trans ?_
 conv=>rhs;rw[<-T5 na a.toList, <-T5 nb b.toList]
 rw[Lu,Lu]
 refine Ye _ ?_
 rw[<-Lu, <-Lu]
 exact ZS _ XE
theorem Mh.HW {a b out:Array Keyed} {na nb:Nat} (h:Mh a b out na nb):(b.extract 0 nb++a.extract 0 na++out.reverse).toList.Perm (a.toList++b.toList):=by
 refine List.Perm.trans ?_ h.we
 simp only[Xk]
 exact ZS _ XE
theorem Mh.ja {a b out:Array Keyed} {na nb:Nat} {p:Keyed} (h:Mh a b out na nb) (h1:1<=na) (hp:a[na - 1]? =some p):Mh a b (out.push p) (na - 1) nb:=by
 unfold Mh
 rw[Yb,eO (l:=a.toList) (i:=na - 1) (by simpa using hp),show na - 1+1=na by lia,YX]
 exact (h.append_right _).trans (List.perm_append_singleton _ _)
theorem Mh.i_ {a b out:Array Keyed} {na nb:Nat} {p:Keyed} (h:Mh a b out na nb) (h1:1<=nb) (hp:b[nb - 1]? =some p):Mh a b (out.push p) na (nb - 1):=by
 unfold Mh
 rw[Yb,eO (l:=b.toList) (i:=nb - 1) (by simpa using hp),show nb - 1+1=nb by lia]
 exact ((h.append_right _).trans (List.perm_append_singleton _ _)).trans Qas.symm
theorem Mh.pM {a b out:Array Keyed} {na nb k:Nat} (h:Mh a b out na nb) (hk:k<=na):Mh a b (out++(a.extract k na).reverse) k nb:=by
 unfold Mh
 have e:a.toList.drop k++b.toList.drop nb=(a.toList.drop k).take (na - k)++(a.toList.drop na++b.toList.drop nb):=by rw[<-Lu, <-nE a.toList k na hk]
 rw[Xk,Yr,aK,e]
 exact (h.append (Y4 _)).trans XE
theorem Mh.pL {a b out:Array Keyed} {na nb k:Nat} (h:Mh a b out na nb) (hk:k<=nb):Mh a b (out++(b.extract k nb).reverse) na k:=by
 unfold Mh
 have e:b.toList.drop k=(b.toList.drop k).take (nb - k)++b.toList.drop nb:=nE b.toList k nb hk
 rw[Xk,Yr,aK]
 refine (h.append (Y4 _)).trans ?_
 conv=>rhs;rw[e]
 rw[Lu]
 exact Ye _ XE
theorem zB {ia k n:Nat} (h:k<=n - ia) (h1:ia+1<n) (z1: ¬ia+k+1=n) (z2: ¬ia+k=n):ia+k+1<n:=by lia
theorem zC {ib k n:Nat} (h:k<=n - (ib+1)) (h1:ib<n) (z: ¬ib+1+k=n):ib+1+k<n:=by lia
theorem Gv {i x y z:Nat} (h:i+2<=x+y) (g:y<=z):i+2<=x+1+z:=by lia
theorem xT {x n:Nat} (h1:1<=x) (h2:x<=n):x - 1<n:=by lia
theorem xU {x n:Nat} (h2:x<=n):x - 1<=n:=by lia
theorem HX {x:Nat} (h: ¬x=0):1<=x:=by lia
theorem BP {i x y z n:Nat} (h:x+y+i+2<=n) (g:z<=y):x - 1+z+i+2<=n:=by lia
theorem nF {α:Type} (sa:Nat): ∀(l:List α) (n:Nat) (arr:Array α),sa+n+l.length<=arr.size->
  ((l.zipIdx n).foldl (fun a x=>match x with | (p,j)=>a.setIfInBounds (sa+j) p) arr).toList=arr.toList.take (sa+n)++l++arr.toList.drop (sa+n+l.length)
 | [],n,arr,h=>by simp
 | p::l,n,arr,h=>by
  rw[List.zipIdx_cons,YN]
  have h':sa+n+(l.length+1)<=arr.size:=h
  have ih:=nF sa l (n+1) (arr.setIfInBounds (sa+n) p) (by rw[Array.size_setIfInBounds];lia)
  have e0:sa+(n+1)=sa+n+1:=by lia
  rw[e0]at ih
  refine Eq.trans ih ?_
  have cj:sa+n<arr.toList.length:=by rw[Xu];lia
  rw[Array.toList_setIfInBounds,List.take_set,List.drop_set_of_lt (by lia),Xn,show sa+n+1+l.length=sa+n+(l.length+1) by lia]
  have e1:(arr.toList.take (sa+n+1)).set (sa+n) p=arr.toList.take (sa+n)++[p]:=by
   rw[YT cj,List.set_append_right _ _ (by rw[Rt];lia),Rt,X6 (by lia),Zj]
   rfl
  rw[e1]
  simp
section
variable {prog:Program} {w:World} {A:Around} {E:Value->Shared->Prop} {s:Shared} {κ:KeyKind} {a₀:Array Keyed}
theorem ED {M:Model} {σ:Type} {Q:PUnit->σ->Prop} {st aL:σ} (h:Q ⟨⟩ aL):wpS M A E s (set aL:StateT σ Sem PUnit) Q st:=by
 unfold wpS;rw[StateT.run_set];exact wpAny_pure ⟨rfl,h⟩
theorem zD {arr:Array Keyed} {merged:Array Keyed} {x y z:Nat} (h1:x<=y) (h2:y<=z) (h3:z<=arr.size) (hp:merged.toList.Perm ((arr.extract x y).toList++(arr.extract y z).toList)):
  (merged.toList.zipIdx.foldl (fun a q=>match q with | (p,j)=>a.setIfInBounds (x+j) p) arr).Perm arr:=by
 rw[aK,aK]at hp
 have e:(arr.toList.drop x).take (y - x)++(arr.toList.drop y).take (z - y)=(arr.toList.drop x).take (z - x):=by
  have:=nC (arr.toList.drop x) (y - x) (z - x) (by lia)
  rw[kb,show x+(y - x)=y by lia,show z - x - (y - x)=z - y by lia]at this
  exact this.symm
 rw[e]at hp
 have hl:merged.toList.length=z - x:=by rw[hp.length_eq,Rt,Xi,Xu];lia
 rw[X8]
 have:=nF x merged.toList 0 arr (by lia)
 rw[YZ,hl,show x+(z - x)=z by lia]at this
 refine List.Perm.trans (List.Perm.of_eq this) ?_
 refine ((Ye _ hp).append_right _).trans ?_
 rw[Lu, <-nE arr.toList x z (by lia),T5]
end
theorem BQ (c:Prop) [Decidable c] {n:Nat} (h: ¬n<=1):(if c then n - 2 - 1 else n - 2)+1<n:=by split<;>lia
noncomputable def cp (P:Array (Nat×Nat×Nat)):List (Nat×Nat):=P.toList.map fun x=>(x.1,x.2.1)
theorem HY {α:Type} {l:List α} {i:Nat} {x y:α} (h1:l[i]? =some x) (h2:l[i+1]? =some y):l=l.take i++x::y::l.drop (i+2):=by
 conv=>lhs;rw[<-T5 i l,eO h1,eO h2]
theorem EE {α:Type} {l:List α} {i:Nat} {x y v:α} (h1:l[i]? =some x) (h2:l[i+1]? =some y):(l.set i v).eraseIdx (i+1)=l.take i++v::l.drop (i+2):=by
 have hi:=(Ru.mp h1).1
 rw[List.eraseIdx_eq_take_drop_succ,List.drop_set_of_lt (by lia),List.take_set,YT hi,List.set_append_right _ _ (by rw[Rt];lia),Rt,X6 (by lia),Zj]
 simp
structure fK (lt:Keyed->Keyed->Bool):Prop where
 jO: ∀p q,lt p q=true->lt q p=false
 tr: ∀p q r,lt q p=false->lt r q=false->lt r p=false
def jb (prog:Program) (w:World) (A:Around) (E:Value->Shared->Prop) (s:Shared) (kd:SortKind) (lt:Keyed->Keyed->Bool) (a₀:Array Keyed):Prop:=
 ∀(st:SortSt) (p q:Keyed) (Q:Option Bool->SortSt->Prop),kindOf st=kd->p∈a₀.toList->q∈a₀.toList->Q (some (lt p q)) st->wpS (model prog w) A E s (lt' p q) Q st
noncomputable def Px (lt:Keyed->Keyed->Bool) (left:Bool) (key x:Keyed):Bool:=if left=true then lt x key else !lt key x
noncomputable def bA (lt:Keyed->Keyed->Bool) (left:Bool) (key:Keyed) (arr:Array Keyed) (base i:Nat):Bool:=match arr[base+i]? with
 | some p=>Px lt left key p
 | none=>false
theorem rL {lt:Keyed->Keyed->Bool} {left:Bool} {key p:Keyed} {arr:Array Keyed} {base i:Nat} (h:arr[base+i]? =some p):bA lt left key arr base i=Px lt left key p:=by unfold bA;rw[h]
section
variable {prog:Program} {w:World} {A:Around} {E:Value->Shared->Prop} {s:Shared} {kd:SortKind} {lt:Keyed->Keyed->Bool} {a₀:Array Keyed}
theorem kO {st:SortSt} {left:Bool} {key:Keyed} {arr:Array Keyed} {base n hint:Nat} {Q:Option Nat->SortSt->Prop} (C:jb prog w A E s kd lt a₀) (hk:kindOf st=kd) (pA:key∈a₀.toList) (Mc: ∀p∈arr.toList,p∈a₀.toList) (hn:base+n<=arr.size) (hh:hint<n)
  (mono: ∀i j,i<=j->j<n->bA lt left key arr base j=true->bA lt left key arr base i=true)
  (h: ∀k,k<=n->(∀i,i<k->bA lt left key arr base i=true)->(∀i,k<=i->i<n->bA lt left key arr base i=false)->Q (some k) st):wpS (model prog w) A E s (Uz left key arr base n hint) Q st:=by
 have ask: ∀(i:Nat) (R:Option Bool->SortSt->Prop),i<n->R (some (bA lt left key arr base i)) st->wpS (model prog w) A E s (elem' arr (base+i) >>= fun x=>if left=true then lt' x key else lt' key x >>= fun b=>pure (b.map fun x=>!x)) R st:=by
  intro i R hi hR
  refine wpS_bind (bL (by lia) fun p hp ep=>?_)
  rw[rL ep]at hR
  unfold Px at hR
  cases left with
  | true=>rw[if_pos rfl]at hR ⊢; exact C _ _ _ _ hk (Mc p hp) pA hR
  | false=>rw[if_neg (by decide)]at hR ⊢; exact wpS_bind (C _ _ _ _ hk pA (Mc p hp) (wpS_pure hR))
 have up: ∀i,i<n->bA lt left key arr base i=true-> ∀j,j<=i->bA lt left key arr base j=true:=fun i hi e j hj=>mono j i hj hi e
 have dn: ∀i,bA lt left key arr base i=false-> ∀j,i<=j->j<n->bA lt left key arr base j=false:=fun i e j q_ hj=>by
  cases z:bA lt left key arr base j with
  | false=>rfl
  | true=>rw[mono i j q_ hj z]at e;cases e
 refine wpS_bind (ask hint _ hh ?_)
 cases eb:bA lt left key arr base hint with
 | true=>
  refine wpS_bind (wpS_mono (wpS_forRange (I:=fun x c aL=>aL=st/\ ∃l o,c=(none,l,o)/\x+1<=o/\l<n - hint/\bA lt left key arr base (hint+l)=true) (Q:=fun c aL=>aL=st/\ ∃l o,c=(none,l,o)/\l<n - hint/\bA lt left key arr base (hint+l)=true/\(n - hint<=o\/bA lt left key arr base (hint+o)=false)) ?_ ?_ ⟨rfl,0,1,rfl,by lia,by lia,by simpa using eb⟩) ?_)
  ·rintro x c aL _ hx ⟨rfl,l,o,rfl,h1,h2,h3⟩
   refine az (fun g=>wpS_pure ⟨rfl,l,o,rfl,h2,h3, .inl g⟩) (fun g=>?_)
   have g': ¬o ≥ n - hint:=g
   refine wpS_bind (ask _ _ (show hint+o<n by lia) ?_)
   cases e2:bA lt left key arr base (hint+o) with
   | true=>exact wpS_pure ⟨rfl,o,2*o+1,rfl,by lia,by lia,e2⟩
   | false=>exact wpS_pure ⟨rfl,l,o,rfl,h2,h3, .inr e2⟩
  ·rintro c aL ⟨e,l,o,rfl,h1,h2,h3⟩
   exact ⟨e,l,o,rfl,h2,h3, .inl (by lia)⟩
  ·rintro c eJ ⟨rfl,l,o,rfl,h2,h3,h4⟩
   dsimp only
   have a1: ∀i,i<hint+l+1->bA lt left key arr base i=true:=fun i hi=>up _ (by lia) h3 i (by lia)
   have a2: ∀i,hint+min o (n - hint)<=i->i<n->bA lt left key arr base i=false:=fun i hi BR=>by
    rcases h4 with g | g
    ·lia
    ·exact dn _ g i (by lia) BR
   have a3:hint+min o (n - hint)<=n:=by lia
   have a4:hint+l+1<=hint+min o (n - hint):=by
    rcases h4 with g | g
    ·lia
    ·by_cases z:hint+l+1<=hint+min o (n - hint)
     ·exact z
     ·have:bA lt left key arr base (hint+o)=true:=a1 _ (by lia)
      rw[g]at this;cases this
   refine wpS_bind (wpS_mono (wpS_forRange (I:=fun x c aL=>aL=eJ/\ ∃l r,c=(none,l,r)/\l<=r/\r<=n/\r - l+x<=n/\(∀i,i<l->bA lt left key arr base i=true)/\(∀i,r<=i->i<n->bA lt left key arr base i=false)) (Q:=fun c aL=>aL=eJ/\ ∃l r,c=(none,l,r)/\l=r/\r<=n/\(∀i,i<l->bA lt left key arr base i=true)/\(∀i,r<=i->i<n->bA lt left key arr base i=false)) ?_ ?_ ⟨rfl,_,_,rfl,a4,a3,by lia,a1,a2⟩) ?_)
   ·rintro x c aL _ hx ⟨rfl,l,r,rfl,b1,b2,b3,b4,b5⟩
    refine az (fun g=>wpS_pure ⟨rfl,l,r,rfl,Ze b1 g,b2,b4,b5⟩) (fun g=>?_)
    have g': ¬l ≥ r:=g
    refine wpS_bind (ask _ _ (show l+(r - l) / 2<n by lia) ?_)
    cases e2:bA lt left key arr base (l+(r - l) / 2) with
    | true=>exact wpS_pure ⟨rfl,l+(r - l) / 2+1,r,rfl,by lia,b2,by lia,fun i hi=>up _ (by lia) e2 i (by lia),b5⟩
    | false=>exact wpS_pure ⟨rfl,l,l+(r - l) / 2,rfl,by lia,by lia,by lia,b4,dn _ e2⟩
   ·rintro c aL ⟨e,l,r,rfl,b1,b2,b3,b4,b5⟩
    exact ⟨e,l,r,rfl,by lia,b2,b4,b5⟩
   ·rintro c aL ⟨rfl,l,r,rfl,rfl,b2,b4,b5⟩
    exact wpS_pure (h l b2 b4 b5)
 | false=>
  refine wpS_bind (wpS_mono (wpS_forRange (I:=fun x c aL=>aL=st/\ ∃l o,c=(none,l,o)/\x+1<=o/\l<=hint/\bA lt left key arr base (hint - l)=false) (Q:=fun c aL=>aL=st/\ ∃l o,c=(none,l,o)/\l<=hint/\bA lt left key arr base (hint - l)=false/\(hint+1<=o\/(o<=hint/\bA lt left key arr base (hint - o)=true))) ?_ ?_ ⟨rfl,0,1,rfl,by lia,by lia,by simpa using eb⟩) ?_)
  ·rintro x c aL _ hx ⟨rfl,l,o,rfl,h1,h2,h3⟩
   refine az (fun g=>wpS_pure ⟨rfl,l,o,rfl,h2,h3, .inl g⟩) (fun g=>?_)
   have g': ¬o ≥ hint+1:=g
   refine wpS_bind (ask _ _ (show hint - o<n by lia) ?_)
   cases e2:bA lt left key arr base (hint - o) with
   | true=>exact wpS_pure ⟨rfl,l,o,rfl,h2,h3, .inr ⟨by lia,e2⟩⟩
   | false=>exact wpS_pure ⟨rfl,o,2*o+1,rfl,by lia,by lia,e2⟩
  ·rintro c aL ⟨e,l,o,rfl,h1,h2,h3⟩
   exact ⟨e,l,o,rfl,h2,h3, .inl (by lia)⟩
  ·rintro c eJ ⟨rfl,l,o,rfl,h2,h3,h4⟩
   dsimp only
   have a1: ∀i,i<hint+1 - min o (hint+1)->bA lt left key arr base i=true:=fun i hi=>by
    rcases h4 with g | ⟨g1,g2⟩
    ·lia
    ·exact up _ (by lia) g2 i (by lia)
   have a2: ∀i,hint - l<=i->i<n->bA lt left key arr base i=false:=fun i hi BR=>dn _ h3 i hi BR
   have a4:hint+1 - min o (hint+1)<=hint - l:=by
    by_cases z:hint+1 - min o (hint+1)<=hint - l
    ·exact z
    ·have:bA lt left key arr base (hint - l)=true:=a1 _ (by lia)
     rw[h3]at this;cases this
   refine wpS_bind (wpS_mono (wpS_forRange (I:=fun x c aL=>aL=eJ/\ ∃l r,c=(none,l,r)/\l<=r/\r<=n/\r - l+x<=n/\(∀i,i<l->bA lt left key arr base i=true)/\(∀i,r<=i->i<n->bA lt left key arr base i=false)) (Q:=fun c aL=>aL=eJ/\ ∃l r,c=(none,l,r)/\l=r/\r<=n/\(∀i,i<l->bA lt left key arr base i=true)/\(∀i,r<=i->i<n->bA lt left key arr base i=false)) ?_ ?_ ⟨rfl,_,_,rfl,a4,by lia,by lia,a1,a2⟩) ?_)
   ·rintro x c aL _ hx ⟨rfl,l,r,rfl,b1,b2,b3,b4,b5⟩
    refine az (fun g=>wpS_pure ⟨rfl,l,r,rfl,Ze b1 g,b2,b4,b5⟩) (fun g=>?_)
    have g': ¬l ≥ r:=g
    refine wpS_bind (ask _ _ (show l+(r - l) / 2<n by lia) ?_)
    cases e2:bA lt left key arr base (l+(r - l) / 2) with
    | true=>exact wpS_pure ⟨rfl,l+(r - l) / 2+1,r,rfl,by lia,b2,by lia,fun i hi=>up _ (by lia) e2 i (by lia),b5⟩
    | false=>exact wpS_pure ⟨rfl,l,l+(r - l) / 2,rfl,by lia,by lia,by lia,b4,dn _ e2⟩
   ·rintro c aL ⟨e,l,r,rfl,b1,b2,b3,b4,b5⟩
    exact ⟨e,l,r,rfl,by lia,b2,b4,b5⟩
   ·rintro c aL ⟨rfl,l,r,rfl,rfl,b2,b4,b5⟩
    exact wpS_pure (h l b2 b4 b5)
end
section
variable {lt:Keyed->Keyed->Bool}
def cw (lt:Keyed->Keyed->Bool) (l:List Keyed):Prop:=l.Pairwise fun p q=>lt q p=false
theorem eT {x c y:List Keyed} (h1:cw lt (x++y)) (h2:cw lt (x++c)) (h3: ∀e∈c, ∀f∈y,lt f e=false):cw lt (x++c++y):=by
 unfold cw at*
 rw[XO]at h1 h2 ⊢
 refine ⟨XO.mpr h2,h1.2.1,fun e he f hf=>?_⟩
 rcases T3.mp he with z | z
 ·exact h1.2.2 e z f hf
 ·exact h3 e z f hf
theorem fR {x y:List Keyed} (h:cw lt (x++y)):cw lt x:=(XO.mp h).1
theorem eU {x y:List Keyed} (h:cw lt (x++y)):cw lt y:=(XO.mp h).2.1
theorem fS (L:fK lt) {l:List Keyed} {i:Nat} {p q:Keyed} (h:cw lt l) (hp:l[i]? =some p) (hq:lt p q=false): ∀x∈l.drop i,lt x q=false:=fun x hx=>by
 rw[eO hp]at hx
 rcases T4.mp hx with z | z
 ·rw[z];exact hq
 ·have h2:cw lt (l.take i++p::l.drop (i+1)):=by rw[<-eO hp,T5];exact h
  exact L.tr q p x hq (ZE (eU h2) z)
theorem wg {l:List Keyed} {i j:Nat} {p q:Keyed} (h:cw lt l) (q_:i<j) (hp:l[i]? =some p) (hq:l[j]? =some q):lt q p=false:=by
 have h1:=Ru.mp hp
 have h2:=Ru.mp hq
 have:=(Y_.mp h) i j h1.1 h2.1 q_
 rwa [h1.2,h2.2]at this
theorem DR (L:fK lt) (p:Keyed):lt p p=false:=by
 cases e:lt p p with
 | false=>rfl
 | true=>have:=L.jO p p e;rw[e]at this;cases this
theorem wj (L:fK lt) {l:List Keyed} {i j:Nat} {p q:Keyed} (h:cw lt l) (q_:i<=j) (hp:l[i]? =some p) (hq:l[j]? =some q):lt q p=false:=by
 rcases Nat.lt_or_eq_of_le q_ with z | z
 ·exact wg h z hp hq
 ·subst z;rw[hp]at hq;cases hq;exact DR L p
structure jz (lt:Keyed->Keyed->Bool) (a b out:Array Keyed) (ia ib:Nat):Prop where
 m:Mg a b out ia ib
 sa:cw lt (out.toList++a.toList.drop ia)
 sb:cw lt (out.toList++b.toList.drop ib)
variable {a b out:Array Keyed} {ia ib k:Nat} {p q:Keyed}
theorem jz.i_ (h:jz lt a b out ia ib) (hp:b[ib]? =some q) (hq: ∀x∈a.toList.drop ia,lt x q=false):jz lt a b (out.push q) ia (ib+1):=by
 have hd:b.toList.drop ib=q::b.toList.drop (ib+1):=eO (by simpa using hp)
 have h2:cw lt (out.toList++[q]++b.toList.drop (ib+1)):=by
  have:=h.sb;rw[hd]at this;simpa using this
 refine ⟨h.m.i_ hp,?_,?_⟩
 ·rw[Yb];exact eT h.sa (fR h2) fun e he f hf=>by rw[Hy.mp he];exact hq f hf
 ·rw[Yb];exact h2
theorem jz.ja (h:jz lt a b out ia ib) (hp:a[ia]? =some q) (hq: ∀x∈b.toList.drop ib,lt x q=false):jz lt a b (out.push q) (ia+1) ib:=by
 have hd:a.toList.drop ia=q::a.toList.drop (ia+1):=eO (by simpa using hp)
 have h2:cw lt (out.toList++[q]++a.toList.drop (ia+1)):=by
  have:=h.sa;rw[hd]at this;simpa using this
 refine ⟨h.m.ja hp,?_,?_⟩
 ·rw[Yb];exact h2
 ·rw[Yb];exact eT h.sb (fR h2) fun e he f hf=>by rw[Hy.mp he];exact hq f hf
theorem jz.pM (h:jz lt a b out ia ib) (hq: ∀e∈(a.toList.drop ia).take k, ∀x∈b.toList.drop ib,lt x e=false):jz lt a b (out++a.extract ia (ia+k)) (ia+k) ib:=by
 have hd:=nE a.toList ia (ia+k) (by lia)
 rw[XX]at hd
 have h2:cw lt (out.toList++(a.toList.drop ia).take k++a.toList.drop (ia+k)):=by
  have:=h.sa;rw[hd]at this;rw[Lu];exact this
 refine ⟨h.m.pM,?_,?_⟩
 ·rw[Xk,aK,XX];exact h2
 ·rw[Xk,aK,XX];exact eT h.sb (fR h2) hq
theorem jz.pL (h:jz lt a b out ia ib) (hq: ∀e∈(b.toList.drop ib).take k, ∀x∈a.toList.drop ia,lt x e=false):jz lt a b (out++b.extract ib (ib+k)) ia (ib+k):=by
 have hd:=nE b.toList ib (ib+k) (by lia)
 rw[XX]at hd
 have h2:cw lt (out.toList++(b.toList.drop ib).take k++b.toList.drop (ib+k)):=by
  have:=h.sb;rw[hd]at this;rw[Lu];exact this
 refine ⟨h.m.pL,?_,?_⟩
 ·rw[Xk,aK,XX];exact eT h.sa (fR h2) hq
 ·rw[Xk,aK,XX];exact h2
def gu (lt:Keyed->Keyed->Bool) (a b out:Array Keyed):Prop:=out.toList.Perm (a.toList++b.toList)/\cw lt out.toList
theorem jz.zE (h:jz lt a b out ia ib) (e:ib=b.size):gu lt a b (out++a.extract ia++b.extract ib):=by
 refine ⟨h.m.we,?_⟩
 rw[Xk,Xk,aK,aK,WJ (by simp),WJ (by simp),XZ (l:=b.toList) (by simp[e]),XA]
 exact h.sa
theorem jz.zF (h:jz lt a b out ia ib) (e:ia=a.size):gu lt a b (out++a.extract ia++b.extract ib):=by
 refine ⟨h.m.we,?_⟩
 rw[Xk,Xk,aK,aK,WJ (by simp),WJ (by simp),XZ (l:=a.toList) (by simp[e]),XA]
 exact h.sb
theorem jz.Py (h:jz lt a b out ia ib) (hl: ∀e∈b.toList, ∀x∈a.toList.drop ia,lt x e=false):gu lt a b (out++b.extract ib++a.extract ia):=by
 refine ⟨h.m.HW,?_⟩
 rw[Xk,Xk,aK,aK,WJ (by simp),WJ (by simp)]
 exact eT h.sa h.sb fun e he f hf=>hl e (Ya he) f hf
theorem BS {l:List Keyed} {i:Nat} {y:Keyed} (hi:i+1=l.length) (hy:l[l.length - 1]? =some y):l.drop i=[y]:=by
 have e:l.length - 1=i:=by lia
 rw[e]at hy
 rw[eO hy,XZ (by lia)]
theorem dQ {l:List Keyed} {i k:Nat} {e:Keyed} (h:e∈(l.drop i).take k): ∃j,j<k/\l[i+j]? =some e:=by
 obtain ⟨j,hj⟩:=YE h
 have h1:=(Ru.mp hj).1
 rw[Rt]at h1
 rw[Xt (by lia),XY]at hj
 exact ⟨j,by lia,hj⟩
theorem jP {l:List Keyed} {i:Nat} {e:Keyed} (h:e∈l.drop i): ∃j,l[i+j]? =some e:=by
 obtain ⟨j,hj⟩:=YE h
 rw[XY]at hj
 exact ⟨j,hj⟩
theorem cT {arr:Array Keyed} {base i:Nat} {x key:Keyed} (h:arr.toList[base+i]? =some x):bA lt false key arr base i=!lt key x:=by
 rw[rL (p:=x) (by simpa using h)];rfl
theorem dX {arr:Array Keyed} {base i:Nat} {x key:Keyed} (h:arr.toList[base+i]? =some x):bA lt true key arr base i=lt x key:=by
 rw[rL (p:=x) (by simpa using h)];rfl
theorem mono_right (L:fK lt) {arr:Array Keyed} {base n:Nat} (key:Keyed) (hn:base+n<=arr.size) (hs:cw lt ((arr.toList.drop base).take n)): ∀i j,i<=j->j<n->bA lt false key arr base j=true->bA lt false key arr base i=true:=fun i j q_ hj e=>by
 have JB:base+j<arr.toList.length:=by rw[Xu];lia
 have EF:base+i<arr.toList.length:=by lia
 rw[cT (Hz JB)]at e
 rw[cT (Hz EF)]
 have hle:lt (arr.toList[base+j]) (arr.toList[base+i])=false:=wj L hs q_ (by rw[Xt (by lia),XY];exact Hz EF) (by rw[Xt hj,XY];exact Hz JB)
 have e':lt key (arr.toList[base+j])=false:=by simpa using e
 rw[L.tr _ _ _ hle e'];rfl
theorem mono_left (L:fK lt) {arr:Array Keyed} {base n:Nat} (key:Keyed) (hn:base+n<=arr.size) (hs:cw lt ((arr.toList.drop base).take n)): ∀i j,i<=j->j<n->bA lt true key arr base j=true->bA lt true key arr base i=true:=fun i j q_ hj e=>by
 have JB:base+j<arr.toList.length:=by rw[Xu];lia
 have EF:base+i<arr.toList.length:=by lia
 rw[dX (Hz JB)]at e
 rw[dX (Hz EF)]
 have hle:lt (arr.toList[base+j]) (arr.toList[base+i])=false:=wj L hs q_ (by rw[Xt (by lia),XY];exact Hz EF) (by rw[Xt hj,XY];exact Hz JB)
 cases z:lt (arr.toList[base+i]) key with
 | true=>rfl
 | false=>rw[L.tr _ _ _ z hle]at e;cases e
theorem mG {l:List Keyed} (h:cw lt l) (i n:Nat):cw lt ((l.drop i).take n):=h.sublist ((ZF _ _).trans (List.drop_sublist _ _))
theorem BU {i g ac bc:Nat} {st aL:SortSt} (hg:nB st aL) (m:jz lt a b out ia ib) (q:ia+1<a.size) (r:ib<b.size) (t:i+2<=ia+ib):nB st aL/\ ∃hV pN pO g' HZ H_,((none,out,ia,ib,g,ac,bc):Option (Array Keyed)×Array Keyed×Nat×Nat×Nat×Nat×Nat)=(none,hV,pN,pO,g',HZ,H_)/\jz lt a b hV pN pO/\pN+1<a.size/\pO<b.size/\i+2<=pN+pO:=
 ⟨hg,_,_,_,_,_,_,rfl,m,q,r,t⟩
theorem BV {i g ac bc:Nat} {st aL:SortSt} (hg:nB st aL) (m:jz lt a b out ia ib) (q:ia+1<a.size) (r:ib<b.size) (t:i+2<=ia+ib):nB st aL/\((∃hV z,((none,out,ia,ib,g,ac,bc):Option (Array Keyed)×Array Keyed×Nat×Nat×Nat×Nat×Nat)=(some hV,z)/\gu lt a b hV)\/ ∃hV pN pO g' HZ H_,((none,out,ia,ib,g,ac,bc):Option (Array Keyed)×Array Keyed×Nat×Nat×Nat×Nat×Nat)=(none,hV,pN,pO,g',HZ,H_)/\jz lt a b hV pN pO/\pN+1<a.size/\pO<b.size/\i+2<=pN+pO):=
 ⟨hg, .inr (BU hg m q r t).2⟩
end
section
variable {prog:Program} {w:World} {A:Around} {E:Value->Shared->Prop} {s:Shared} {kd:SortKind} {lt:Keyed->Keyed->Bool} {a₀:Array Keyed}
theorem Ia {st:SortSt} {a b:Array Keyed} {Q:Array Keyed->SortSt->Prop} (L:fK lt) (C:jb prog w A E s kd lt a₀) (Md:kindOf st=kd) (ha: ∀p∈a.toList,p∈a₀.toList) (hb: ∀p∈b.toList,p∈a₀.toList) (na:1<=a.size) (nb:1<=b.size)
  (sa:cw lt a.toList) (sb:cw lt b.toList) (hf: ∀x∈a.toList, ∀q,b[0]? =some q->lt x q=false) (hl: ∀y,a[a.size - 1]? =some y-> ∀e∈b.toList,lt y e=false)
  (h: ∀out aL,nB st aL->gu lt a b out->Q out aL):wpS (model prog w) A E s (UA a b) Q st:=by
 refine wpS_bind (wpS_lift (wpAny_rule ⟨rfl,?_⟩))
 refine wpS_bind (bL (by lia) fun p hp ep=>?_)
 have m0:jz lt a b #[p] 0 1:=(show jz lt a b #[] 0 0 from ⟨ZC _,by simpa using sa,by simpa using sb⟩).i_ ep fun x hx=>hf x (Ya hx) p ep
 have xV: ∀{out:Array Keyed} {ia ib:Nat},jz lt a b out ia ib->ia+1=a.size->gu lt a b (out++b.extract ib++a.extract ia):=fun {out ia ib} m e=>m.Py fun x hx y hy=>by
  have hz:a.size - 1<a.size:=by lia
  have ey:a[a.size - 1]? =some a[a.size - 1]:=getElem?_pos a _ hz
  rw[BS (l:=a.toList) (y:=a[a.size - 1]) (by rw[Xu];exact e) (by rw[Xu];simpa using ey)]at hy
  rw[Hy.mp hy]
  exact hl _ ey x hx
 refine az (fun g=>?_) (fun g=>?_)
 ·exact wpS_pure (h _ _ (.refl _) (m0.zE (by simpa using g)))
 refine az (fun g2=>?_) (fun g2=>?_)
 ·exact wpS_pure (h _ _ (.refl _) (xV m0 (by simpa using g2)))
 have g': ¬1=b.size:=fun z=>g (by simpa using z)
 have NL: ¬0+1=a.size:=fun z=>g2 (by simpa using z)
 refine wpS_bind (wpS_get ?_)
 refine wpS_bind (wpS_mono (wpS_forRange (I:=fun i c aL=>nB st aL/\ ∃out ia ib g,c=(none,out,ia,ib,g)/\jz lt a b out ia ib/\ia+1<a.size/\ib<b.size/\i+1<=ia+ib)
  (Q:=fun c aL=>nB st aL/\ ∃out z,c=(some out,z)/\gu lt a b out) ?_ ?_ ?_) ?_)
 ·rintro i c eJ _ hi ⟨hg,out,ia,ib,g,rfl,m1,h1,h2,h3⟩
  have xW:kindOf eJ=kd:=by obtain ⟨g0,rfl⟩:=hg;exact Md
  refine wpS_bind (wpS_mono (wpS_forRange (I:=fun x c aL=>aL=eJ/\ ∃out ia ib ac bc,c=(none,out,ia,ib,ac,bc)/\jz lt a b out ia ib/\ia+1<a.size/\ib<b.size/\i+1+x<=ia+ib)
   (Q:=fun c aL=>aL=eJ/\((∃out z,c=(some out,z)/\gu lt a b out)\/ ∃out ia ib ac bc,c=(none,out,ia,ib,ac,bc)/\jz lt a b out ia ib/\ia+1<a.size/\ib<b.size/\i+2<=ia+ib)) ?_ ?_ ⟨rfl,out,ia,ib,0,0,rfl,m1,h1,h2,by lia⟩) ?_)
  ·rintro x c kq _ hx ⟨rfl,out,ia,ib,ac,bc,rfl,m1,h1,h2,h3⟩
   refine wpS_bind (bL h2 fun pb EG eb=>wpS_bind (bL (show ia<a.size by lia) fun pa Me ea=>wpS_bind (C _ _ _ _ xW (hb _ EG) (ha _ Me) ?_)))
   cases Mf:lt pb pa with
   | true=>
    refine wpS_bind (bL h2 fun q hq eq=>?_)
    have m2:=m1.i_ eq (fS L sa (i:=ia) (p:=pa) (by simpa using ea) (by rw[eb]at eq;cases eq;exact L.jO _ _ Mf))
    refine az (fun z=>wpS_pure ⟨rfl, .inl ⟨_,_,rfl,m2.zE (by simpa using z)⟩⟩) (fun z=>?_)
    have z': ¬ib+1=b.size:=fun y=>z (by simpa using y)
    exact az (fun _=>wpS_pure ⟨rfl, .inr ⟨_,ia,ib+1,_,_,rfl,m2,h1,by lia,by lia⟩⟩) (fun _=>wpS_pure ⟨rfl,_,ia,ib+1,_,_,rfl,m2,h1,by lia,by lia⟩)
   | false=>
    refine wpS_bind (bL (show ia<a.size by lia) fun q hq eq=>?_)
    have m2:=m1.ja eq (fS L sb (i:=ib) (p:=pb) (by simpa using eb) (by rw[ea]at eq;cases eq;exact Mf))
    refine az (fun z=>wpS_pure ⟨rfl, .inl ⟨_,_,rfl,xV m2 (by simpa using z)⟩⟩) (fun z=>?_)
    have z': ¬ia+1+1=a.size:=fun y=>z (by simpa using y)
    exact az (fun _=>wpS_pure ⟨rfl, .inr ⟨_,ia+1,ib,_,_,rfl,m2,by lia,h2,by lia⟩⟩) (fun _=>wpS_pure ⟨rfl,_,ia+1,ib,_,_,rfl,m2,by lia,h2,by lia⟩)
  ·rintro c kq ⟨e2,out,ia,ib,ac,bc,rfl,m1,h1,h2,h3⟩
   exact ⟨e2, .inr ⟨_,_,_,_,_,rfl,m1,h1,h2,by lia⟩⟩
  ·rintro c kq ⟨rfl,⟨out,z,rfl,pf⟩ | ⟨out,ia,ib,ac,bc,rfl,m1,h1,h2,h3⟩⟩
   ·exact wpS_pure ⟨hg,out,_,rfl,pf⟩
   refine wpS_bind (wpS_lift (wpAny_rule ⟨rfl,?_⟩))
   refine wpS_bind (wpS_mono (wpS_forRange (I:=fun x c aL=>nB st aL/\ ∃out ia ib g ac bc,c=(none,out,ia,ib,g,ac,bc)/\jz lt a b out ia ib/\ia+1<a.size/\ib<b.size/\i+2<=ia+ib)
    (Q:=fun c aL=>nB st aL/\((∃out z,c=(some out,z)/\gu lt a b out)\/ ∃out ia ib g ac bc,c=(none,out,ia,ib,g,ac,bc)/\jz lt a b out ia ib/\ia+1<a.size/\ib<b.size/\i+2<=ia+ib)) ?_ ?_ ⟨hg,out,ia,ib,_,ac,bc,rfl,m1,h1,h2,h3⟩) ?_)
   ·rintro x c vz _ hx ⟨kP,out,ia,ib,gg,ac,bc,rfl,m1,h1,h2,h3⟩
    have Mi:kindOf vz=kd:=by obtain ⟨g0,rfl⟩:=kP;exact Md
    refine az (fun _=>?_) (fun _=>?_)
    all_goals
     refine wpS_bind (wpS_modify ?_)
     refine wpS_bind (bL h2 fun pb EG eb=>wpS_bind (kO C Mi (hb _ EG) ha (show ia+(a.size - ia)<=a.size by lia) (show 0<a.size - ia by lia) (mono_right L pb (show ia+(a.size - ia)<=a.size by lia) (mG sa _ _)) fun k hk y1 y2=>?_))
     have Pz: ∀x∈b.toList.drop ib,lt x pb=false:=fS L sb (i:=ib) (p:=pb) (by simpa using eb) (DR L pb)
     have c1: ∀e∈(a.toList.drop ia).take k, ∀x∈b.toList.drop ib,lt x e=false:=fun e he x hx=>by
      obtain ⟨j,hj,ej⟩:=dQ he
      have:=y1 j hj
      rw[cT ej]at this
      exact L.tr e pb x (by simpa using this) (Pz x hx)
     have c2: ∀x∈a.toList.drop (ia+k),lt x pb=false:=fun x hx=>by
      obtain ⟨j,ej⟩:=jP hx
      have cj:=(Ru.mp ej).1
      rw[Xu]at cj
      have:=(show ∀i,k<=i->i<a.size - ia->bA lt false pb a ia i=false from y2) (k+j) (by lia) (by lia)
      rw[cT (x:=x) (by rw[<-Zr];exact ej)]at this
      exact L.jO _ _ (by simpa using this)
     refine az (fun xW=>az (fun z=>wpS_pure ⟨kP.set _, .inl ⟨_,_,rfl,xV (m1.pM c1) (by simpa using z)⟩⟩) (fun z1=>az (fun z=>wpS_pure ⟨kP.set _, .inl ⟨_,_,rfl,(m1.pM c1).zF (by simpa using z)⟩⟩) (fun z2=>?_))) (fun xW=>?_)
     all_goals first
      |(have m2:=m1.pM c1
        have c3:=c2
        have q1:ia+k+1<a.size:=zB hk h1 (fun e=>z1 (by simpa using e)) (fun e=>z2 (by simpa using e))
        have q2:i+2<=ia+k+ib:=by lia)
      |(have m2:=m1
        have PB:k=0:=Zk xW
        have c3: ∀x∈a.toList.drop ia,lt x pb=false:=by rw[PB,YZ]at c2;exact c2
        have q1:=h1
        have q2:=h3)
     all_goals
      refine wpS_bind (bL h2 fun pc UC ec=>?_)
      have PD:pc=pb:=by rw[eb]at ec;exact (WK ec).symm
      subst PD
      have m3:=m2.i_ ec c3
      refine az (fun z=>wpS_pure ⟨kP.set _, .inl ⟨_,_,rfl,m3.zE (by simpa using z)⟩⟩) (fun z3=>?_)
      have UD: ¬ib+1=b.size:=fun e=>z3 (by simpa using e)
      refine wpS_bind (bL (Nat.lt_of_succ_lt q1) fun pd PH ed=>wpS_bind (kO C Mi (ha _ PH) hb (show ib+1+(b.size - (ib+1))<=b.size by lia) (show 0<b.size - (ib+1) by lia) (mono_left L pd (show ib+1+(b.size - (ib+1))<=b.size by lia) (mG sb _ _)) fun k2 vC y3 y4=>?_))
      have NM:=fS L sa (p:=pd) (by simpa using ed) (DR L pd)
      have c4: ∀e∈(b.toList.drop (ib+1)).take k2, ∀x∈a.toList.drop _,lt x e=false:=fun e he x hx=>by
       obtain ⟨j,hj,ej⟩:=dQ he
       have:=y3 j hj
       rw[dX ej]at this
       exact L.tr e pd x (L.jO _ _ this) (NM x hx)
      have c5: ∀x∈b.toList.drop (ib+1+k2),lt x pd=false:=fun x hx=>by
       obtain ⟨j,ej⟩:=jP hx
       have cj:=(Ru.mp ej).1
       rw[Xu]at cj
       have:=(show ∀i,k2<=i->i<b.size - (ib+1)->bA lt true pd b (ib+1) i=false from y4) (k2+j) (by lia) (by lia)
       rw[dX (x:=x) (by rw[<-Zr];exact ej)]at this
       exact this
      refine az (fun BW=>az (fun z=>wpS_pure ⟨kP.set _, .inl ⟨_,_,rfl,(m3.pL c4).zE (by simpa using z)⟩⟩) (fun z4=>?_)) (fun BW=>?_)
      all_goals first
       |(have m4:=m3.pL c4
         have c6:=c5
         have r1:ib+1+k2<b.size:=zC vC h2 (fun e=>z4 (by simpa using e))
         have r2:ib<=ib+1+k2:=by lia)
       |(have m4:=m3
         have Mj:k2=0:=Zk BW
         have c6: ∀x∈b.toList.drop (ib+1),lt x pd=false:=by rw[Mj,YZ]at c5;exact c5
         have r1:ib+1<b.size:=by lia
         have r2:ib<=ib+1:=by lia)
      all_goals
       refine wpS_bind (bL (Nat.lt_of_succ_lt q1) fun pe EH ee=>?_)
       have PJ:pe=pd:=by rw[ed]at ee;exact (WK ee).symm
       subst PJ
       have m5:=m4.ja ee c6
       refine az (fun z=>wpS_pure ⟨kP.set _, .inl ⟨_,_,rfl,xV m5 (by simpa using z)⟩⟩) (fun z5=>?_)
       have q5:=Qag q1 (fun e=>z5 (by simpa using e))
       exact az (fun _=>wpS_pure (BV (kP.set _) m5 q5 r1 (Gv q2 r2))) (fun _=>wpS_pure (BU (kP.set _) m5 q5 r1 (Gv q2 r2)))
   ·rintro c vz ⟨kP,out,ia,ib,gg,ac,bc,rfl,m1,h1,h2,h3⟩
    exact ⟨kP, .inr ⟨_,_,_,_,_,_,rfl,m1,h1,h2,h3⟩⟩
   ·rintro c vz ⟨kP,⟨out,z,rfl,pf⟩ | ⟨out,ia,ib,g,ac,bc,rfl,m1,h1,h2,h3⟩⟩
    ·exact wpS_pure ⟨kP,out,_,rfl,pf⟩
    ·exact wpS_bind (wpS_modify (wpS_pure ⟨kP.set _,_,_,_,_,rfl,m1,h1,h2,by lia⟩))
 ·rintro c eJ ⟨hg,out,ia,ib,g,rfl,m1,h1,h2,h3⟩
  exfalso
  lia
 ·exact ⟨.refl _,_,_,_,_,rfl,m0,by lia,by lia,by lia⟩
 ·rintro c aL ⟨hg,out,z,rfl,hp⟩
  exact wpS_pure (h _ _ hg hp)
end
section
variable {lt:Keyed->Keyed->Bool}
theorem hZ {x c y:List Keyed} (h1:cw lt (x++y)) (h2:cw lt (c++y)) (h3: ∀e∈x, ∀f∈c,lt f e=false):cw lt (x++c++y):=by
 unfold cw at*
 rw[Lu]
 rw[XO]at h1 ⊢
 refine ⟨h1.1,h2,fun e he f hf=>?_⟩
 rcases T3.mp hf with z | z
 ·exact h3 e he f z
 ·exact h1.2.2 e he f z
theorem fT (L:fK lt) {l:List Keyed} {i:Nat} {p q:Keyed} (h:cw lt l) (hp:l[i]? =some p) (hq:lt q p=false): ∀x∈l.take (i+1),lt q x=false:=fun x hx=>by
 obtain ⟨j,hj⟩:=YE hx
 have h1:=(Ru.mp hj).1
 rw[Rt]at h1
 rw[Xt (by lia)]at hj
 exact L.tr x p q (wj L h (by lia) hj hp) hq
structure jA (lt:Keyed->Keyed->Bool) (a b out:Array Keyed) (na nb:Nat):Prop where
 m:Mh a b out na nb
 sa:cw lt (a.toList.take na++out.toList.reverse)
 sb:cw lt (b.toList.take nb++out.toList.reverse)
variable {a b out:Array Keyed} {na nb k:Nat} {p q:Keyed}
theorem jA.ja (h:jA lt a b out na nb) (h1:1<=na) (hp:a[na - 1]? =some q) (hq: ∀x∈b.toList.take nb,lt q x=false):jA lt a b (out.push q) (na - 1) nb:=by
 have hd:a.toList.take na=a.toList.take (na - 1)++[q]:=by
  have:=dP (l:=a.toList) (i:=na - 1) (p:=q) (by simpa using hp)
  rwa [show na - 1+1=na by lia]at this
 have h2:cw lt (a.toList.take (na - 1)++([q]++out.toList.reverse)):=by
  have:=h.sa;rw[hd,Lu]at this;exact this
 refine ⟨h.m.ja h1 hp,?_,?_⟩
 ·rw[Yb,Yw];exact h2
 ·rw[Yb,Yw]
  have:=hZ h.sb (eU h2) fun e he f hf=>by rw[Hy.mp hf];exact hq e he
  rw[Lu]at this
  exact this
theorem jA.i_ (h:jA lt a b out na nb) (h1:1<=nb) (hp:b[nb - 1]? =some q) (hq: ∀x∈a.toList.take na,lt q x=false):jA lt a b (out.push q) na (nb - 1):=by
 have hd:b.toList.take nb=b.toList.take (nb - 1)++[q]:=by
  have:=dP (l:=b.toList) (i:=nb - 1) (p:=q) (by simpa using hp)
  rwa [show nb - 1+1=nb by lia]at this
 have h2:cw lt (b.toList.take (nb - 1)++([q]++out.toList.reverse)):=by
  have:=h.sb;rw[hd,Lu]at this;exact this
 refine ⟨h.m.i_ h1 hp,?_,?_⟩
 ·rw[Yb,Yw]
  have:=hZ h.sa (eU h2) fun e he f hf=>by rw[Hy.mp hf];exact hq e he
  rw[Lu]at this
  exact this
 ·rw[Yb,Yw];exact h2
theorem jA.pM (h:jA lt a b out na nb) (hk:k<=na) (hq: ∀e∈b.toList.take nb, ∀f∈(a.toList.drop k).take (na - k),lt f e=false):jA lt a b (out++(a.extract k na).reverse) k nb:=by
 have hd:=nC a.toList k na hk
 have h2:cw lt (a.toList.take k++((a.toList.drop k).take (na - k)++out.toList.reverse)):=by
  have:=h.sa;rw[hd,Lu]at this;exact this
 have e:(out++(a.extract k na).reverse).toList.reverse=(a.toList.drop k).take (na - k)++out.toList.reverse:=by
  rw[Xk,Yr,aK,Yw,Zt]
 refine ⟨h.m.pM hk,?_,?_⟩
 ·rw[e];exact h2
 ·rw[e]
  have:=hZ h.sb (eU h2) hq
  rw[Lu]at this
  exact this
theorem jA.pL (h:jA lt a b out na nb) (hk:k<=nb) (hq: ∀e∈a.toList.take na, ∀f∈(b.toList.drop k).take (nb - k),lt f e=false):jA lt a b (out++(b.extract k nb).reverse) na k:=by
 have hd:=nC b.toList k nb hk
 have h2:cw lt (b.toList.take k++((b.toList.drop k).take (nb - k)++out.toList.reverse)):=by
  have:=h.sb;rw[hd,Lu]at this;exact this
 have e:(out++(b.extract k nb).reverse).toList.reverse=(b.toList.drop k).take (nb - k)++out.toList.reverse:=by
  rw[Xk,Yr,aK,Yw,Zt]
 refine ⟨h.m.pL hk,?_,?_⟩
 ·rw[e]
  have:=hZ h.sa (eU h2) hq
  rw[Lu]at this
  exact this
 ·rw[e];exact h2
theorem jA.zF (h:jA lt a b out na nb) (e:na=0):gu lt a b (a.extract 0 na++b.extract 0 nb++out.reverse):=by
 refine ⟨h.m.we,?_⟩
 rw[Xk,Xk,aK,aK,Yl,Yl,YQ,YQ,Yr,e,List.take_zero,YH]
 exact h.sb
theorem jA.zE (h:jA lt a b out na nb) (e:nb=0):gu lt a b (a.extract 0 na++b.extract 0 nb++out.reverse):=by
 refine ⟨h.m.we,?_⟩
 rw[Xk,Xk,aK,aK,Yl,Yl,YQ,YQ,Yr,e,List.take_zero,XA]
 exact h.sa
theorem jA.PK (h:jA lt a b out na nb) (hl: ∀e∈b.toList.take nb, ∀f∈a.toList,lt f e=false):gu lt a b (b.extract 0 nb++a.extract 0 na++out.reverse):=by
 refine ⟨h.m.HW,?_⟩
 rw[Xk,Xk,aK,aK,Yl,Yl,YQ,YQ,Yr]
 exact hZ h.sb h.sa fun e he f hf=>hl e he f (XF hf)
theorem fU {l:List Keyed} {k:Nat} {e:Keyed} (h:e∈l.take k): ∃j,j<k/\l[0+j]? =some e:=by
 obtain ⟨j,hj⟩:=YE h
 have h1:=(Ru.mp hj).1
 rw[Rt]at h1
 rw[Xt (by lia)]at hj
 exact ⟨j,by lia,by rw[YD];exact hj⟩
theorem BX {i g ac bc:Nat} {st aL:SortSt} (hg:nB st aL) (m:jA lt a b out na nb) (q:1<=na) (r:2<=nb) (l1:na<=a.size) (l2:nb<=b.size) (t:na+nb+i+2<=a.size+b.size):nB st aL/\ ∃pN pO hV g' HZ H_,((none,na,nb,out,g,ac,bc):Option (Array Keyed)×Nat×Nat×Array Keyed×Nat×Nat×Nat)=(none,pN,pO,hV,g',HZ,H_)/\jA lt a b hV pN pO/\1<=pN/\2<=pO/\pN<=a.size/\pO<=b.size/\pN+pO+i+2<=a.size+b.size:=
 ⟨hg,_,_,_,_,_,_,rfl,m,q,r,l1,l2,t⟩
theorem BY {i g ac bc:Nat} {st aL:SortSt} (hg:nB st aL) (m:jA lt a b out na nb) (q:1<=na) (r:2<=nb) (l1:na<=a.size) (l2:nb<=b.size) (t:na+nb+i+2<=a.size+b.size):nB st aL/\((∃hV z,((none,na,nb,out,g,ac,bc):Option (Array Keyed)×Nat×Nat×Array Keyed×Nat×Nat×Nat)=(some hV,z)/\gu lt a b hV)\/ ∃pN pO hV g' HZ H_,((none,na,nb,out,g,ac,bc):Option (Array Keyed)×Nat×Nat×Array Keyed×Nat×Nat×Nat)=(none,pN,pO,hV,g',HZ,H_)/\jA lt a b hV pN pO/\1<=pN/\2<=pO/\pN<=a.size/\pO<=b.size/\pN+pO+i+2<=a.size+b.size):=
 ⟨hg, .inr (BX hg m q r l1 l2 t).2⟩
end
section
variable {prog:Program} {w:World} {A:Around} {E:Value->Shared->Prop} {s:Shared} {kd:SortKind} {lt:Keyed->Keyed->Bool} {a₀:Array Keyed}
theorem Ib {st:SortSt} {a b:Array Keyed} {Q:Array Keyed->SortSt->Prop} (L:fK lt) (C:jb prog w A E s kd lt a₀) (Md:kindOf st=kd) (ha: ∀p∈a.toList,p∈a₀.toList) (hb: ∀p∈b.toList,p∈a₀.toList) (na:1<=a.size) (nb:1<=b.size)
  (sa:cw lt a.toList) (sb:cw lt b.toList) (hf: ∀x∈a.toList, ∀q,b[0]? =some q->lt x q=false) (hl: ∀y,a[a.size - 1]? =some y-> ∀e∈b.toList,lt y e=false)
  (h: ∀out aL,nB st aL->gu lt a b out->Q out aL):wpS (model prog w) A E s (UB a b) Q st:=by
 refine wpS_bind (wpS_lift (wpAny_rule ⟨rfl,?_⟩))
 refine wpS_bind (bL (show a.size - 1<a.size by lia) fun p hp ep=>?_)
 have m0:jA lt a b #[p] (a.size - 1) b.size:=(show jA lt a b #[] a.size b.size from ⟨by unfold Mh;simp,by rw[WJ (by simp)];simpa using sa,by rw[WJ (by simp)];simpa using sb⟩).ja na ep fun x hx=>hl p ep x (XF hx)
 have rM: ∀{out:Array Keyed} {ia ib:Nat},jA lt a b out ia ib->ib=1->gu lt a b (b.extract 0 ib++a.extract 0 ia++out.reverse):=fun {out ia ib} m e=>m.PK fun x hx f Ic=>by
  subst e
  have e0:b[0]? =some b[0]:=getElem?_pos b 0 (by lia)
  obtain ⟨j,hj,ej⟩:=fU hx
  have UE:j=0:=by lia
  subst UE
  exact hf f Ic x (by simpa using ej)
 refine az (fun g=>?_) (fun g=>?_)
 ·exact wpS_pure (h _ _ (.refl _) (m0.zF (by simpa using g)))
 refine az (fun g2=>?_) (fun g2=>?_)
 ·exact wpS_pure (h _ _ (.refl _) (rM m0 (by simpa using g2)))
 have g': ¬a.size - 1=0:=fun z=>g (by simpa using z)
 have NL: ¬b.size=1:=fun z=>g2 (by simpa using z)
 refine wpS_bind (wpS_get ?_)
 refine wpS_bind (wpS_mono (wpS_forRange (I:=fun i c aL=>nB st aL/\ ∃ia ib out g,c=(none,ia,ib,out,g)/\jA lt a b out ia ib/\1<=ia/\2<=ib/\ia<=a.size/\ib<=b.size/\ia+ib+i+1<=a.size+b.size)
  (Q:=fun c aL=>nB st aL/\ ∃out z,c=(some out,z)/\gu lt a b out) ?_ ?_ ?_) ?_)
 ·rintro i c eJ _ hi ⟨hg,ia,ib,out,g,rfl,m1,h1,h2,l1,l2,h3⟩
  have xW:kindOf eJ=kd:=by obtain ⟨g0,rfl⟩:=hg;exact Md
  refine wpS_bind (wpS_mono (wpS_forRange (I:=fun x c aL=>aL=eJ/\ ∃ia ib out ac bc,c=(none,ia,ib,out,ac,bc)/\jA lt a b out ia ib/\1<=ia/\2<=ib/\ia<=a.size/\ib<=b.size/\ia+ib+i+1+x<=a.size+b.size)
   (Q:=fun c aL=>aL=eJ/\((∃out z,c=(some out,z)/\gu lt a b out)\/ ∃ia ib out ac bc,c=(none,ia,ib,out,ac,bc)/\jA lt a b out ia ib/\1<=ia/\2<=ib/\ia<=a.size/\ib<=b.size/\ia+ib+i+2<=a.size+b.size)) ?_ ?_ ⟨rfl,ia,ib,out,0,0,rfl,m1,h1,h2,l1,l2,by lia⟩) ?_)
  ·rintro x c kq _ hx ⟨rfl,ia,ib,out,ac,bc,rfl,m1,h1,h2,l1,l2,h3⟩
   refine wpS_bind (bL (show ib - 1<b.size by lia) fun pb EG eb=>wpS_bind (bL (show ia - 1<a.size by lia) fun pa Me ea=>wpS_bind (C _ _ _ _ xW (hb _ EG) (ha _ Me) ?_)))
   have PL:ib - 1+1=ib:=by lia
   have UG:ia - 1+1=ia:=by lia
   cases Mf:lt pb pa with
   | true=>
    refine wpS_bind (bL (show ia - 1<a.size by lia) fun q hq eq=>?_)
    have PM:q=pa:=(WK (ea.symm.trans eq)).symm
    have m2:=m1.ja h1 eq (by
     have:=fT L sb (i:=ib - 1) (p:=pb) (q:=q) (by simpa using eb) (by rw[PM];exact L.jO _ _ Mf)
     rw[PL]at this;exact this)
    refine az (fun z=>wpS_pure ⟨rfl, .inl ⟨_,_,rfl,m2.zF (by simpa using z)⟩⟩) (fun z=>?_)
    have z': ¬ia - 1=0:=fun y=>z (by simpa using y)
    exact az (fun _=>wpS_pure ⟨rfl, .inr ⟨ia - 1,ib,_,_,_,rfl,m2,by lia,h2,by lia,l2,by lia⟩⟩) (fun _=>wpS_pure ⟨rfl,ia - 1,ib,_,_,_,rfl,m2,by lia,h2,by lia,l2,by lia⟩)
   | false=>
    refine wpS_bind (bL (show ib - 1<b.size by lia) fun q hq eq=>?_)
    have PM:q=pb:=(WK (eb.symm.trans eq)).symm
    have m2:=m1.i_ (by lia) eq (by
     have:=fT L sa (i:=ia - 1) (p:=pa) (q:=q) (by simpa using ea) (by rw[PM];exact Mf)
     rw[UG]at this;exact this)
    refine az (fun z=>wpS_pure ⟨rfl, .inl ⟨_,_,rfl,rM m2 (by simpa using z)⟩⟩) (fun z=>?_)
    have z': ¬ib - 1=1:=fun y=>z (by simpa using y)
    exact az (fun _=>wpS_pure ⟨rfl, .inr ⟨ia,ib - 1,_,_,_,rfl,m2,h1,by lia,l1,by lia,by lia⟩⟩) (fun _=>wpS_pure ⟨rfl,ia,ib - 1,_,_,_,rfl,m2,h1,by lia,l1,by lia,by lia⟩)
  ·rintro c kq ⟨e2,ia,ib,out,ac,bc,rfl,m1,h1,h2,l1,l2,h3⟩
   exact ⟨e2, .inr ⟨_,_,_,_,_,rfl,m1,h1,h2,l1,l2,by lia⟩⟩
  ·rintro c kq ⟨rfl,⟨out,z,rfl,pf⟩ | ⟨ia,ib,out,ac,bc,rfl,m1,h1,h2,l1,l2,h3⟩⟩
   ·exact wpS_pure ⟨hg,out,_,rfl,pf⟩
   refine wpS_bind (wpS_lift (wpAny_rule ⟨rfl,?_⟩))
   refine wpS_bind (wpS_mono (wpS_forRange (I:=fun x c aL=>nB st aL/\ ∃ia ib out g ac bc,c=(none,ia,ib,out,g,ac,bc)/\jA lt a b out ia ib/\1<=ia/\2<=ib/\ia<=a.size/\ib<=b.size/\ia+ib+i+2<=a.size+b.size)
    (Q:=fun c aL=>nB st aL/\((∃out z,c=(some out,z)/\gu lt a b out)\/ ∃ia ib out g ac bc,c=(none,ia,ib,out,g,ac,bc)/\jA lt a b out ia ib/\1<=ia/\2<=ib/\ia<=a.size/\ib<=b.size/\ia+ib+i+2<=a.size+b.size)) ?_ ?_ ⟨hg,ia,ib,out,_,ac,bc,rfl,m1,h1,h2,l1,l2,h3⟩) ?_)
   ·rintro x c vz _ hx ⟨kP,ia,ib,out,gg,ac,bc,rfl,m1,h1,h2,l1,l2,h3⟩
    have Mi:kindOf vz=kd:=by obtain ⟨g0,rfl⟩:=kP;exact Md
    have PL:ib - 1+1=ib:=by lia
    refine az (fun _=>?_) (fun _=>?_)
    all_goals
     refine wpS_bind (wpS_modify ?_)
     refine wpS_bind (bL (show ib - 1<b.size by lia) fun pb EG eb=>wpS_bind (kO C Mi (hb _ EG) ha (show 0+ia<=a.size by lia) (show ia - 1<ia by lia) (mono_right L pb (show 0+ia<=a.size by lia) (mG sa _ _)) fun k Gf y1 y2=>?_))
     have hk:k<=ia:=Gf
     have UH: ∀i,k<=i->i<ia->bA lt false pb a 0 i=false:=y2
     have Pz: ∀x∈b.toList.take ib,lt pb x=false:=by
      have:=fT L sb (i:=ib - 1) (p:=pb) (q:=pb) (by simpa using eb) (DR L pb)
      rw[PL]at this;exact this
     have c1: ∀e∈b.toList.take ib, ∀f∈(a.toList.drop k).take (ia - k),lt f e=false:=fun e he f Ic=>by
      obtain ⟨j,hj,ej⟩:=dQ Ic
      have:=UH (k+j) (by lia) (by lia)
      rw[cT (x:=f) (by rw[YD];exact ej)]at this
      exact L.tr e pb f (Pz e he) (L.jO _ _ (by simpa using this))
     have c2: ∀x∈a.toList.take k,lt pb x=false:=fun x hx=>by
      obtain ⟨j,hj,ej⟩:=fU hx
      have:=y1 j hj
      rw[cT ej]at this
      simpa using this
     refine az (fun xW=>az (fun z=>wpS_pure ⟨kP.set _, .inl ⟨_,_,rfl,(m1.pM hk c1).zF (by simpa using z)⟩⟩) (fun z1=>?_)) (fun xW=>?_)
     all_goals first
      |(have m2:=m1.pM hk c1
        have c3:=c2
        have WM: ¬k=0:=fun e=>z1 (by simpa using e)
        have q1:1<=k:=by lia
        have q2:k<=a.size:=by lia
        have q3:k+ib+i+2<=a.size+b.size:=by lia)
      |(have m2:=m1
        have ek:k=ia:=Ze hk (Nat.le_of_sub_eq_zero (Zk xW))
        have c3: ∀x∈a.toList.take ia,lt pb x=false:=by rw[ek]at c2;exact c2
        have q1:=h1
        have q2:=l1
        have q3:=h3)
     all_goals
      refine wpS_bind (bL (show ib - 1<b.size by lia) fun pc UC ec=>?_)
      have PD:pc=pb:=(WK (eb.symm.trans ec)).symm
      subst PD
      have m3:=m2.i_ (by lia) ec c3
      refine az (fun z=>wpS_pure ⟨kP.set _, .inl ⟨_,_,rfl,rM m3 (by simpa using z)⟩⟩) (fun z3=>?_)
      have UD: ¬ib - 1=1:=fun e=>z3 (by simpa using e)
      refine wpS_bind (bL (xT q1 q2) fun pd PH ed=>wpS_bind (kO C Mi (ha _ PH) hb (show 0+(ib - 1)<=b.size by lia) (show ib - 1 - 1<ib - 1 by lia) (mono_left L pd (show 0+(ib - 1)<=b.size by lia) (mG sb _ _)) fun k2 PN y3 y4=>?_))
      have vC:k2<=ib - 1:=PN
      have UI: ∀i,k2<=i->i<ib - 1->bA lt true pd b 0 i=false:=y4
      have NM:=fT L sa (p:=pd) (q:=pd) (by simpa using ed) (DR L pd)
      rw[Nat.sub_add_cancel q1]at NM
      have c4: ∀e∈a.toList.take _, ∀f∈(b.toList.drop k2).take (ib - 1 - k2),lt f e=false:=fun e he f Ic=>by
       obtain ⟨j,hj,ej⟩:=dQ Ic
       have:=UI (k2+j) (by lia) (by lia)
       rw[dX (x:=f) (by rw[YD];exact ej)]at this
       exact L.tr e pd f (NM e he) this
      have c5: ∀x∈b.toList.take k2,lt pd x=false:=fun x hx=>by
       obtain ⟨j,hj,ej⟩:=fU hx
       have:=y3 j hj
       rw[dX ej]at this
       exact L.jO _ _ this
      refine az (fun BW=>az (fun z=>wpS_pure ⟨kP.set _, .inl ⟨_,_,rfl,rM (m3.pL vC c4) (by simpa using z)⟩⟩) (fun z4=>az (fun z=>wpS_pure ⟨kP.set _, .inl ⟨_,_,rfl,(m3.pL vC c4).zE (by simpa using z)⟩⟩) (fun z5=>?_))) (fun BW=>?_)
      all_goals first
       |(have m4:=m3.pL vC c4
         have c6:=c5
         have WN: ¬k2=1:=fun e=>z4 (by simpa using e)
         have WO: ¬k2=0:=fun e=>z5 (by simpa using e)
         have r1:2<=k2:=by lia
         have r2:k2<=b.size:=by lia
         have r3:k2<=ib:=by lia)
       |(have m4:=m3
         have UJ:k2=ib - 1:=Ze vC (Nat.le_of_sub_eq_zero (Zk BW))
         have c6: ∀x∈b.toList.take (ib - 1),lt pd x=false:=by rw[UJ]at c5;exact c5
         have r1:2<=ib - 1:=by lia
         have r2:ib - 1<=b.size:=by lia
         have r3:ib - 1<=ib:=by lia)
      all_goals
       refine wpS_bind (bL (xT q1 q2) fun pe EH ee=>?_)
       have PJ:pe=pd:=(WK (ed.symm.trans ee)).symm
       subst PJ
       have m5:=m4.ja q1 ee c6
       refine az (fun z=>wpS_pure ⟨kP.set _, .inl ⟨_,_,rfl,m5.zF (by simpa using z)⟩⟩) (fun z6=>?_)
       have q5:=HX (fun e=>z6 (by simpa using e))
       exact az (fun _=>wpS_pure (BY (kP.set _) m5 q5 r1 (xU q2) r2 (BP q3 r3))) (fun _=>wpS_pure (BX (kP.set _) m5 q5 r1 (xU q2) r2 (BP q3 r3)))
   ·rintro c vz ⟨kP,ia,ib,out,gg,ac,bc,rfl,m1,h1,h2,l1,l2,h3⟩
    exact ⟨kP, .inr ⟨_,_,_,_,_,_,rfl,m1,h1,h2,l1,l2,h3⟩⟩
   ·rintro c vz ⟨kP,⟨out,z,rfl,pf⟩ | ⟨ia,ib,out,g,ac,bc,rfl,m1,h1,h2,l1,l2,h3⟩⟩
    ·exact wpS_pure ⟨kP,out,_,rfl,pf⟩
    ·exact wpS_bind (wpS_modify (wpS_pure ⟨kP.set _,ia,ib,_,_,rfl,m1,h1,h2,l1,l2,by lia⟩))
 ·rintro c eJ ⟨hg,ia,ib,out,g,rfl,m1,h1,h2,l1,l2,h3⟩
  exfalso
  lia
 ·exact ⟨.refl _,a.size - 1,b.size,_,_,rfl,m0,by lia,by lia,by lia,by lia,by lia⟩
 ·rintro c aL ⟨hg,out,z,rfl,hp⟩
  exact wpS_pure (h _ _ hg hp)
end
section
variable {lt:Keyed->Keyed->Bool}
theorem iH {x y:List Keyed} (hx:cw lt x) (hy:cw lt y) (h: ∀e∈x, ∀f∈y,lt f e=false):cw lt (x++y):=XO.mpr ⟨hx,hy,h⟩
theorem xX (L:fK lt) {l:List Keyed} {q e:Keyed} (h:cw lt l) (h0:l[0]? =some q) (he:lt q e=false): ∀f∈l,lt f e=false:=by
 have:=fS L h h0 he
 rwa [Yl]at this
theorem le_last (L:fK lt) {l:List Keyed} {y f:Keyed} (h:cw lt l) (h0:l[l.length - 1]? =some y) (hf:lt f y=false): ∀e∈l,lt f e=false:=fun e he=>by
 have hl:=(Ru.mp h0).1
 have:=fT L h h0 hf
 rw[show l.length - 1+1=l.length by lia,Yz]at this
 exact this e he
theorem zG (L:fK lt) {x y merged:List Keyed} {k m:Nat} {q z:Keyed} (sx:cw lt x) (sy:cw lt y) (h0:y[0]? =some q) (hz:x[x.length - 1]? =some z) (h1: ∀e∈x.take k,lt q e=false) (h2: ∀e∈y.drop m,lt e z=false) (pm:merged.Perm (x.drop k++y.take m)) (sm:cw lt merged):
  cw lt (x.take k++merged++y.drop m):=by
 have RQ: ∀f∈y, ∀e∈x.take k,lt f e=false:=fun f hf e he=>xX L sy h0 (h1 e he) f hf
 have UK: ∀f∈y.drop m, ∀e∈x,lt f e=false:=fun f hf e he=>le_last L sx hz (h2 f hf) e he
 have RS:cw lt (x.take k++x.drop k):=by rw[T5];exact sx
 have RT:cw lt (y.take m++y.drop m):=by rw[T5];exact sy
 refine iH (iH (fR RS) sm fun e he f hf=>?_) (eU RT) fun e he f hf=>?_
 ·rcases T3.mp (pm.mem_iff.mp hf) with g | g
  ·exact (XO.mp RS).2.2 e he f g
  ·exact RQ f (XF g) e he
 ·rcases T3.mp he with g | g
  ·exact RQ f (Ya hf) e g
  ·rcases T3.mp (pm.mem_iff.mp g) with g | g
   ·exact UK f hf e (Ya g)
   ·exact (XO.mp RT).2.2 e g f hf
structure iY (kd:SortKind) (a₀:Array Keyed) (st:SortSt):Prop where
 perm:(arrOf st).Perm a₀
 kind:kindOf st=kd
 failed:failedOf st=none
theorem rN {α:Type} {pre l:List α} {i:Nat}:(pre++l)[pre.length+i]? =l[i]?:= by rw[Xw (by lia),XX]
theorem h7 {α:Type} {pre x post:List α} {i:Nat} (h:i<x.length):(pre++x++post)[pre.length+i]? =x[i]?:= by
 rw[Lu,rN,X4 h]
theorem nG {α:Type} {pre x post:List α} {arr:Array α} (e:arr.toList=pre++x++post):(mirror arr pre.length (pre.length+x.length) ((pre.length+x.length - pre.length) / 2)).toList=pre++x.reverse++post:=by
 have hsz:arr.size=pre.length+x.length+post.length:=by rw[<-Xu,e];simp;lia
 refine Zo fun k=>?_
 rw[Xy,getElem?_mirror_all (i:=pre.length) (j:=pre.length+x.length) (by lia) k]
 by_cases h:pre.length<=k/\k<pre.length+x.length
 ·rw[if_pos h, <-Xy,e]
  rw[X4 (by rw[Jy];lia),Xw (by lia)]
  rw[X4 (by rw[Jy,Xq];lia),Xw (by lia),ZY (by lia)]
  congr 1
  lia
 ·rw[if_neg h, <-Xy,e]
  by_cases g:k<pre.length
  ·rw[Lu,Lu,X4 g,X4 g]
  ·rw[Xw (by rw[Jy];lia),Xw (by rw[Jy,Xq];lia),Jy,Jy,Xq]
theorem BZ {α:Type} {pre x post:List α} {q:α} {arr:Array α} {l:Nat} (e:arr.toList=pre++x++q::post) (hl:l<=x.length):(bubble arr (pre.length+x.length) (pre.length+x.length - (pre.length+l))).toList=pre++(x.take l++q::x.drop l)++post:=by
 have hsz:arr.size=pre.length+x.length+(post.length+1):=by rw[<-Xu,e];simp;lia
 have hq:arr[pre.length+x.length]? =some q:=by
  rw[<-Xy,e,Xw (by rw[Jy];lia),Jy,Zj];rfl
 refine Zo fun k=>?_
 rw[Xy,getElem?_bubble (by lia) _ (by lia) k,show pre.length+x.length - (pre.length+x.length - (pre.length+l))=pre.length+l by lia]
 by_cases h1:k=pre.length+l
 ·rw[if_pos h1,hq,h1]
  rw[h7 (by simp;lia),Xw (by rw[Rt];lia),Rt,X6 hl,Zj]
  rfl
 ·rw[if_neg h1]
  by_cases h2:pre.length+l<k/\k<=pre.length+x.length
  ·rw[if_pos h2, <-Xy,e]
   obtain ⟨j,rfl⟩: ∃j,k=pre.length+(l+1+j):=⟨k - pre.length - l - 1,by lia⟩
   rw[show pre.length+(l+1+j) - 1=pre.length+(l+j) by lia,h7 (by lia),h7 (by simp;lia),Xw (by rw[Rt];lia),Rt,X6 hl,show l+1+j - l=j+1 by lia,List.getElem?_cons_succ,XY]
  ·rw[if_neg h2, <-Xy,e]
   by_cases h3:k<pre.length+l
   ·by_cases h4:k<pre.length
    ·rw[Lu,Lu,X4 h4,X4 h4]
    ·obtain ⟨j,rfl⟩: ∃j,k=pre.length+j:=⟨k - pre.length,by lia⟩
     rw[h7 (by lia),h7 (by simp;lia),X4 (by rw[Rt];lia),Xt (by lia)]
   ·rw[Xw (by rw[Jy];lia),Xw (by simp;lia)]
    simp only[Jy,Xn,Rt,Xi]
    rw[show k - (pre.length+x.length)=k - (pre.length+x.length) - 1+1 by lia,List.getElem?_cons_succ]
    congr 1
    lia
end
section
variable {prog:Program} {w:World} {A:Around} {E:Value->Shared->Prop} {s:Shared} {kd:SortKind} {lt:Keyed->Keyed->Bool} {a₀:Array Keyed}
theorem iY.size {st:SortSt} (h:iY kd a₀ st):(arrOf st).size=a₀.size:=h.perm.size_eq
theorem iY.mem {st:SortSt} (h:iY kd a₀ st) {p:Keyed} (hp:p∈(arrOf st).toList):p∈a₀.toList:=(X8.mp h.perm).mem_iff.mp hp
theorem iY.set {st:SortSt} (h:iY kd a₀ st) {xs:Array Keyed} (hp:xs.toList.Perm (arrOf st).toList):iY kd a₀ (setArr st xs):=⟨(X8.mpr hp).trans h.perm,h.kind,h.failed⟩
theorem kQ {st:SortSt} {i j:Nat} {p q:Keyed} {Q:Option Bool->SortSt->Prop} (C:jb prog w A E s kd lt a₀) (hB:iY kd a₀ st) (hi:(arrOf st).toList[i]? =some p) (hj:(arrOf st).toList[j]? =some q) (h:Q (some (lt p q)) st):wpS (model prog w) A E s (ltAt' i j) Q st:=by
 rw[ltAt'_eq]
 refine wpS_bind (wpS_get ?_)
 have li:=(Ru.mp hi).1
 have lj:=(Ru.mp hj).1
 rw[Xu]at li lj
 refine wpS_bind (bL (show i<(arrOf st).size from li) fun p' hp ep=>wpS_bind (bL (show j<(arrOf st).size from lj) fun q' hq eq=>?_))
 have e1:p'=p:=by rw[Xy,ep]at hi;exact WK hi
 have e2:q'=q:=by rw[Xy,eq]at hj;exact WK hj
 subst e1
 subst e2
 exact C _ _ _ _ hB.kind (hB.mem hp) (hB.mem hq) h
theorem wm {st:SortSt} {i pw PQ:Nat} {pre x y post:List Keyed} {Q:Bool->SortSt->Prop} (L:fK lt) (C:jb prog w A E s kd lt a₀) (hB:iY kd a₀ st) (hi:(pendingOf st)[i]? =some (pre.length,x.length,pw)) (hj:(pendingOf st)[i+1]? =some (pre.length+x.length,y.length,PQ))
  (ea:(arrOf st).toList=pre++x++y++post) (hx:x≠[]) (hy:y≠[]) (sx:cw lt x) (sy:cw lt y)
  (h: ∀aL z,iY kd a₀ aL->pendingOf aL=((pendingOf st).setIfInBounds i (pre.length,x.length+y.length,pw)).eraseIdxIfInBounds (i+1)->z.Perm (x++y)->cw lt z->(arrOf aL).toList=pre++z++post->Q true aL):wpS (model prog w) A E s (mergeAt' i) Q st:=by
 have hm: ∀p∈(arrOf st).toList,p∈a₀.toList:=fun p hp=>hB.mem hp
 have lx:=Xs.mpr hx
 have ly:=Xs.mpr hy
 have hz:(arrOf st).size=pre.length+x.length+y.length+post.length:=by rw[<-Xu,ea];simp only[Jy]
 have PR: ∀j,j<x.length->(arrOf st).toList[pre.length+j]? =x[j]?:= fun j hj=>by rw[ea,Lu,h7 hj]
 have PU: ∀j,j<y.length->(arrOf st).toList[pre.length+x.length+j]? =y[j]?:= fun j hj=>by
  rw[ea, <-Jy,h7 hj]
 have dx:((arrOf st).toList.drop pre.length).take x.length=x:=by rw[ea,Lu,Lu,ZA,List.take_left]
 have dy:((arrOf st).toList.drop (pre.length+x.length)).take y.length=y:=by rw[ea, <-Jy,Lu (pre++x),ZA,List.take_left]
 have Gw:y[0]? =some y[0]:=Hz ly
 have xY:x[x.length - 1]? =some x[x.length - 1]:=Hz (by lia)
 refine wpS_bind (wpS_get ?_)
 simp only[hi,hj]
 refine wpS_bind (ED ?_)
 refine wpS_bind (bL (show pre.length+x.length<(arrOf st).size by lia) fun pb EG eb=>wpS_bind (kO C hB.kind (hm _ EG) hm (show pre.length+x.length<=(arrOf st).size by lia) (show 0<x.length by lia) (mono_right L pb (show pre.length+x.length<=(arrOf st).size by lia) (by rw[dx];exact sx)) fun k hk y1 y2=>?_))
 have Gf:k<=x.length:=hk
 have UL:pb=y[0]:=by
  have:=PU 0 ly
  rw[YZ,Xy,eb,Gw]at this
  exact WK this
 subst UL
 have b1: ∀e∈x.take k,lt y[0] e=false:=fun e he=>by
  obtain ⟨j,hj,ej⟩:=fU he
  rw[YD]at ej
  have:=y1 j hj
  rw[cT (x:=e) (by rw[PR j (by lia)];exact ej)]at this
  simpa using this
 have b2: ∀e∈x.drop k,lt e y[0]=false:=fun e he=>by
  obtain ⟨j,ej⟩:=jP he
  have cj:=(Ru.mp ej).1
  have:=(show ∀i,k<=i->i<x.length->bA lt false y[0] (arrOf st) pre.length i=false from y2) (k+j) (by lia) cj
  rw[cT (x:=e) (by rw[PR _ cj];exact ej)]at this
  exact L.jO _ _ (by simpa using this)
 refine az (fun g=>?_) (fun g=>?_)
 ·have g':x.length - k=0:=by simpa using g
  have ek:k=x.length:=by lia
  rw[ek,Yz]at b1
  exact wpS_pure (h _ (x++y) ⟨hB.perm,hB.kind,hB.failed⟩ rfl (ZC _) (iH sx sy fun e he f hf=>xX L sy Gw (b1 e he) f hf) (by rw[<-Lu];exact ea))
 have g': ¬x.length - k=0:=fun e=>g (by simpa using e)
 refine wpS_bind (bL (show pre.length+k+(x.length - k) - 1<(arrOf st).size by lia) fun pa Me ep=>wpS_bind (kO C hB.kind (hm _ Me) hm (show pre.length+x.length+y.length<=(arrOf st).size by lia) (show y.length - 1<y.length by lia) (mono_left L pa (show pre.length+x.length+y.length<=(arrOf st).size by lia) (by rw[dy];exact sy)) fun m PV y3 y4=>?_))
 have BM:m<=y.length:=PV
 have UM:pa=x[x.length - 1]:=by
  have:=PR (x.length - 1) (by lia)
  rw[Xy,show pre.length+(x.length - 1)=pre.length+k+(x.length - k) - 1 by lia,xY]at this
  rw[ep]at this
  exact WK this
 subst UM
 have c1: ∀e∈y.take m,lt x[x.length - 1] e=false:=fun e he=>by
  obtain ⟨j,hj,ej⟩:=fU he
  rw[YD]at ej
  have:=y3 j hj
  rw[dX (x:=e) (by rw[PU j (by lia)];exact ej)]at this
  exact L.jO _ _ this
 have c2: ∀e∈y.drop m,lt e x[x.length - 1]=false:=fun e he=>by
  obtain ⟨j,ej⟩:=jP he
  have cj:=(Ru.mp ej).1
  have:=(show ∀i,m<=i->i<y.length->bA lt true x[x.length - 1] (arrOf st) (pre.length+x.length) i=false from y4) (m+j) (by lia) cj
  rw[dX (x:=e) (by rw[PU _ cj];exact ej)]at this
  exact this
 refine az (fun g2=>?_) (fun g2=>?_)
 ·have g3:m=0:=by simpa using g2
  rw[g3,Yl]at c2
  exact wpS_pure (h _ (x++y) ⟨hB.perm,hB.kind,hB.failed⟩ rfl (ZC _) (iH sx sy fun e he f hf=>le_last L sx xY (c2 f hf) e he) (by rw[<-Lu];exact ea))
 have g3: ¬m=0:=fun e=>g2 (by simpa using e)
 have ex:((arrOf st).extract (pre.length+k) (pre.length+x.length)).toList=x.drop k:=by
  rw[aK,ea,Lu,Lu,ZN,XZ (by lia),YH,XX,YY Gf,X9 (by rw[Xi];lia),WJ (by rw[Xi];lia)]
 have ey:((arrOf st).extract (pre.length+x.length) (pre.length+x.length+m)).toList=y.take m:=by
  rw[aK,ea, <-Jy,Lu (pre++x),ZA,XX,X9 BM]
 have RU:cw lt (x.drop k):=sx.sublist (List.drop_sublist _ _)
 have sym:cw lt (y.take m):=sy.sublist (ZF _ _)
 have sX:((arrOf st).extract (pre.length+k) (pre.length+x.length)).size=x.length - k:=by rw[<-Xu,ex,Xi]
 have sY:((arrOf st).extract (pre.length+x.length) (pre.length+x.length+m)).size=m:=by rw[<-Xu,ey,Rt];lia
 have mx: ∀p∈((arrOf st).extract (pre.length+k) (pre.length+x.length)).toList,p∈a₀.toList:=fun p hp=>hm p (by rw[aK]at hp;exact Ya (XF hp))
 have my: ∀p∈((arrOf st).extract (pre.length+x.length) (pre.length+x.length+m)).toList,p∈a₀.toList:=fun p hp=>hm p (by rw[aK]at hp;exact Ya (XF hp))
 have hf: ∀e∈((arrOf st).extract (pre.length+k) (pre.length+x.length)).toList, ∀q,((arrOf st).extract (pre.length+x.length) (pre.length+x.length+m))[0]? =some q->lt e q=false:=fun e he q hq=>by
  rw[ex]at he
  rw[<-Xy,ey,Xt (by lia),Gw]at hq
  rw[<-WK hq]
  exact b2 e he
 have hl: ∀z,((arrOf st).extract (pre.length+k) (pre.length+x.length))[((arrOf st).extract (pre.length+k) (pre.length+x.length)).size - 1]? =some z-> ∀e∈((arrOf st).extract (pre.length+x.length) (pre.length+x.length+m)).toList,lt z e=false:=fun z NN e he=>by
  rw[ey]at he
  rw[<-Xy,ex,sX,XY,show k+(x.length - k - 1)=x.length - 1 by lia,xY]at NN
  rw[<-WK NN]
  exact c1 e he
 have ef:(failedOf st).isNone=true:=by rw[hB.failed];rfl
 have Mk: ∀(out:Array Keyed) (g:Nat),gu lt ((arrOf st).extract (pre.length+k) (pre.length+x.length)) ((arrOf st).extract (pre.length+x.length) (pre.length+x.length+m)) out->Q true (SortSt.mk' (kindOf st) (out.toList.zipIdx.foldl (fun a q=>match q with | (p,j)=>a.setIfInBounds (pre.length+k+j) p) (arrOf st)) (((pendingOf st).setIfInBounds i (pre.length,x.length+y.length,pw)).eraseIdxIfInBounds (i+1)) g (failedOf st)):=fun out g ⟨hp,hs⟩=>by
  have EI:=hp
  rw[ex,ey]at EI
  have HS:out.toList.length=x.length - k+m:=by rw[EI.length_eq,Jy,Xi,Rt];lia
  have el:=nF (pre.length+k) out.toList 0 (arrOf st) (by lia)
  rw[YZ,HS,show pre.length+k+(x.length - k+m)=pre.length+x.length+m by lia]at el
  have e1:(arrOf st).toList.take (pre.length+k)=pre++x.take k:=by
   rw[ea,Lu,Lu,Qar,WJ (by lia),XX,X9 Gf]
  have e2:(arrOf st).toList.drop (pre.length+x.length+m)=y.drop m++post:=by
   rw[ea, <-Jy,Lu (pre++x),ZN,XZ (by lia),YH,XX,YY BM]
  rw[e1,e2]at el
  refine h _ (x.take k++out.toList++y.drop m) ⟨(zD (arr:=arrOf st) (x:=pre.length+k) (y:=pre.length+x.length) (z:=pre.length+x.length+m) (by lia) (by lia) (by lia) hp).trans hB.perm,hB.kind,hB.failed⟩ rfl ?_ (zG L sx sy Gw xY b1 c2 EI hs) ?_
  ·refine ((Ye _ EI).append_right _).trans ?_
   rw[<-Lu,T5,Lu,T5]
  ·refine el.trans ?_
   simp only[Lu]
 refine az (fun _=>?_) (fun _=>?_)
 ·refine wpS_bind (Ia L C hB.kind mx my (show 1<=((arrOf st).extract (pre.length+k) (pre.length+x.length)).size by lia) (show 1<=((arrOf st).extract (pre.length+x.length) (pre.length+x.length+m)).size by lia) (by rw[ex];exact RU) (by rw[ey];exact sym) hf hl fun out aL hg Ie=>?_)
  obtain ⟨g0,rfl⟩:=hg
  refine wpS_bind (wpS_modify (wpS_bind (wpS_get (wpS_pure ?_))))
  show Q ((failedOf st).isNone) _
  rw[ef]
  exact Mk out g0 Ie
 ·refine wpS_bind (Ib L C hB.kind mx my (show 1<=((arrOf st).extract (pre.length+k) (pre.length+x.length)).size by lia) (show 1<=((arrOf st).extract (pre.length+x.length) (pre.length+x.length+m)).size by lia) (by rw[ex];exact RU) (by rw[ey];exact sym) hf hl fun out aL hg Ie=>?_)
  obtain ⟨g0,rfl⟩:=hg
  refine wpS_bind (wpS_modify (wpS_bind (wpS_get (wpS_pure ?_))))
  show Q ((failedOf st).isNone) _
  rw[ef]
  exact Mk out g0 Ie
theorem Ig {st:SortSt} {pre x rest:List Keyed} {n:Nat} {Q:Bool->SortSt->Prop} (L:fK lt) (C:jb prog w A E s kd lt a₀) (hB:iY kd a₀ st) (ea:(arrOf st).toList=pre++x++rest) (hx:x≠[]) (sx:cw lt x) (hn:n<=x.length+rest.length) (WQ:x.length<=n)
  (h: ∀aL z Ml,iY kd a₀ aL->pendingOf aL=pendingOf st->(arrOf aL).toList=pre++z++Ml->z.length=n->cw lt z->Q true aL):wpS (model prog w) A E s (binarySort' pre.length n x.length) Q st:=by
 have lx:=Xs.mpr hx
 refine wpS_bind (wpS_mono (wpS_forRange (I:=fun k c aL=>c=(none,())/\iY kd a₀ aL/\pendingOf aL=pendingOf st/\ ∃z r,(arrOf aL).toList=pre++z++r/\z.length=k/\z.length+r.length=x.length+rest.length/\cw lt z) (Q:=fun c aL=>c=(none,())/\iY kd a₀ aL/\pendingOf aL=pendingOf st/\ ∃z r,(arrOf aL).toList=pre++z++r/\z.length=n/\cw lt z) ?_ ?_ ⟨rfl,hB,rfl,x,rest,ea,by lia,rfl,sx⟩) ?_)
 ·rintro k c eJ WR WS ⟨rfl,vD,e1,z,r,ez,Mm,PX,sz⟩
  obtain ⟨q,r',rfl⟩: ∃q r',r=q::r':=by
   cases r with
   | nil=>simp at PX;lia
   | cons q r'=>exact ⟨q,r',rfl⟩
  have UN:(arrOf eJ).toList[pre.length+k]? =some q:=by
   rw[ez, <-Mm, <-Jy,Xw (Rv _),Zj];rfl
  have UO: ∀j,j<k->(arrOf eJ).toList[pre.length+j]? =z[j]?:= fun j hj=>by rw[ez,h7 (by lia)]
  refine wpS_bind (wpS_mono (wpS_forRange (I:=fun y c aL=>aL=eJ/\ ∃l r,c=(none,l,r)/\l<=r/\r<=k/\r - l+y<=k/\(∀e∈z.take l,lt q e=false)/\(∀e∈z.drop r,lt e q=false)) (Q:=fun c aL=>aL=eJ/\ ∃l r,c=(none,l,r)/\l<=k/\(∀e∈z.take l,lt q e=false)/\(∀e∈z.drop l,lt e q=false)) ?_ ?_ ⟨rfl,0,k,rfl,by lia,by lia,by lia,by simp,fun e he=>by rw[XZ (by lia)]at he;cases he⟩) ?_)
  ·rintro y c kq _ hy ⟨rfl,l,r,rfl,b1,b2,b3,b4,b5⟩
   refine az (fun g=>?_) (fun g=>?_)
   ·have g':l ≥ r:=g
    have:l=r:=by lia
    subst this
    exact wpS_pure ⟨rfl,l,l,rfl,b2,b4,b5⟩
   have g': ¬l ≥ r:=g
   have hm:(l+r) / 2<z.length:=by lia
   have em:=Hz hm
   refine wpS_bind (kQ C vD UN (show (arrOf kq).toList[pre.length+(l+r) / 2]? =some z[(l+r) / 2] by rw[UO _ (by lia)];exact em) ?_)
   cases e2:lt q z[(l+r) / 2] with
   | true=>exact wpS_pure ⟨rfl,l,(l+r) / 2,rfl,by lia,by lia,by lia,b4,fS L sz em (L.jO _ _ e2)⟩
   | false=>exact wpS_pure ⟨rfl,(l+r) / 2+1,r,rfl,by lia,b2,by lia,fT L sz em e2,b5⟩
  ·rintro c kq ⟨e,l,r,rfl,b1,b2,b3,b4,b5⟩
   have:l=r:=by lia
   subst this
   exact ⟨e,l,l,rfl,b2,b4,b5⟩
  ·rintro c kq ⟨rfl,l,r,rfl,b2,b4,b5⟩
   have eb:=BZ (l:=l) ez (by lia)
   rw[Mm]at eb
   have hp:(bubble (arrOf kq) (pre.length+k) (pre.length+k - (pre.length+l))).toList.Perm (arrOf kq).toList:=X8.mp (bubble_perm _ _ _)
   refine wpS_bind (wpS_modify (wpS_pure ⟨rfl,vD.set hp,e1,z.take l++q::z.drop l,r',eb,?_,?_,?_⟩))
   ·rw[Jy,Xn,Rt,Xi];lia
   ·rw[Jy,Xn,Rt,Xi]
    rw[Xn]at PX
    lia
   ·have s1:cw lt (z.take l++z.drop l):=by rw[T5];exact sz
    have:=eT (x:=z.take l) (c:=[q]) (y:=z.drop l) s1 (iH (fR s1) (X1 _ _) fun e he f hf=>by rw[Hy.mp hf];exact b4 e he) fun e he f hf=>by rw[Hy.mp he];exact b5 f hf
    rw[Lu]at this
    exact this
 ·rintro c eJ ⟨e,vD,e1,z,r,ez,Mm,PX,sz⟩
  exact ⟨e,vD,e1,z,r,ez,by lia,sz⟩
 ·rintro c eJ ⟨rfl,vD,e1,z,r,ez,Mm,sz⟩
  exact wpS_pure (h eJ z r vD e1 ez Mm sz)
theorem ur (L:fK lt) {l:List Keyed} {n:Nat} {p q:Keyed} (hs:cw lt (l.take n)) (h1:1<=n) (hp:l[n - 1]? =some p) (hq:l[n]? =some q) (hle:lt q p=false):cw lt (l.take (n+1)):=by
 rw[dP hq]
 have hn:=(Ru.mp hq).1
 refine iH hs (X1 _ _) fun e he f hf=>?_
 rw[Hy.mp hf]
 have hlen:(l.take n).length=n:=by rw[Rt];lia
 exact le_last L hs (by rw[hlen,Xt (by lia)];exact hp) hle e he
def zH (lt:Keyed->Keyed->Bool) (l:List Keyed):Prop:=l.Pairwise fun p q=>lt p q=false
theorem EJ {l:List Keyed} (h:zH lt l):cw lt l.reverse:=List.pairwise_reverse.mpr h
theorem nH (L:fK lt) {l:List Keyed} {n:Nat} {p q:Keyed} (hs:zH lt (l.take n)) (h1:1<=n) (hp:l[n - 1]? =some p) (hq:l[n]? =some q) (hle:lt p q=false):zH lt (l.take (n+1)):=by
 rw[dP hq]
 have hn:=(Ru.mp hq).1
 refine XO.mpr ⟨hs,X1 _ _,fun e he f hf=>?_⟩
 rw[Hy.mp hf]
 obtain ⟨j,hj⟩:=YE he
 have WT:=(Ru.mp hj).1
 have hlen:(l.take n).length=n:=by rw[Rt];lia
 rcases Nat.lt_or_ge j (n - 1) with g | g
 ·have Mn:(l.take n)[n - 1]? =some p:=by rw[Xt (by lia)];exact hp
  have h2:=Ru.mp hj
  have h3:=Ru.mp Mn
  have:=(Y_.mp hs) j (n - 1) h2.1 h3.1 g
  rw[h2.2,h3.2]at this
  exact L.tr q p e hle this
 ·have:j=n - 1:=by lia
  subst this
  rw[Xt (by lia),hp]at hj
  cases hj
  exact hle
theorem Mo {P X:SortSt->Prop} {G:Prop} (f:(∀st,P st->X st)->G) (x: ∀st,P st->X st):G:=f x
def DS (lt:Keyed->Keyed->Bool) (l:List Keyed):Prop:= ∀p∈l, ∀q∈l,lt p q=false
theorem DS.RV {l:List Keyed} (h:DS lt l):zH lt l:=Y_.mpr fun i j hi hj _=>h _ (YA hi) _ (YA hj)
theorem B0 {u v:List Keyed} (h:zH lt (u++v)) (hv:DS lt v):zH lt (u++v.reverse):=by
 obtain ⟨h1,_,h3⟩:=XO.mp h
 exact XO.mpr ⟨h1,DS.RV fun p hp q hq=>hv p (XQ.mp hp) q (XQ.mp hq),fun e he f hf=>h3 e he f (XQ.mp hf)⟩
theorem fK.DR (L:fK lt) (p:Keyed):lt p p=false:=by
 cases h:lt p p with
 | false=>rfl
 | true=>rw[L.jO _ _ h]at h;cases h
theorem rev_last {st:SortSt} {pre R:List Keyed} {x n:Nat} (ea:(arrOf st).toList=pre++R) (hx:x<=R.length) (hn:n<=x) (d:zH lt (R.take x)) (al:DS lt ((R.take x).drop (x - n))):
  ∃R',(mirror (arrOf st) (pre.length+x - n) (pre.length+x) ((pre.length+x - (pre.length+x - n)) / 2)).toList=pre++R'/\R'.length=R.length/\zH lt (R'.take x)/\(∀j,x<=j->R'[j]? =R[j]?)/\ ∀p∈R'.take x,p∈R.take x:=by
 have PY:(R.take x).length=x:=by rw[Rt];lia
 have hu:((R.take x).take (x - n)).length=x - n:=by rw[Rt,PY];lia
 have hv:((R.take x).drop (x - n)).length=n:=by rw[Xi,PY];lia
 have e0:(arrOf st).toList=(pre++(R.take x).take (x - n))++(R.take x).drop (x - n)++R.drop x:=by
  rw[Lu pre,T5,Lu,T5];exact ea
 have er:=nG e0
 rw[Jy,hu,hv,show pre.length+(x - n)=pre.length+x - n by lia,show pre.length+x - n+n=pre.length+x by lia]at er
 refine ⟨(R.take x).take (x - n)++((R.take x).drop (x - n)).reverse++R.drop x,by rw[er];simp only[Lu],?_,?_,fun j hj=>?_,fun p hp=>?_⟩
 ·rw[Jy,Jy,Xq,hu,hv,Xi];lia
 ·rw[X9 (by rw[Jy,Xq,hu,hv];lia),WJ (by rw[Jy,Xq,hu,hv];lia)]
  exact B0 (by rw[T5];exact d) al
 ·rw[Xw (by rw[Jy,Xq,hu,hv];lia),Jy,Xq,hu,hv,XY]
  congr 1
  lia
 ·rw[X9 (by rw[Jy,Xq,hu,hv];lia)]at hp
  have B1:=XF hp
  rcases T3.mp B1 with g | g
  ·exact XF g
  ·exact Ya (XQ.mp g)
theorem Ih {st:SortSt} {pre rest:List Keyed} {Q:Option Nat->SortSt->Prop} (L:fK lt) (C:jb prog w A E s kd lt a₀) (hB:iY kd a₀ st) (ea:(arrOf st).toList=pre++rest) (h1:1<=rest.length)
  (h: ∀m aL x r,iY kd a₀ aL->pendingOf aL=pendingOf st->(arrOf aL).toList=pre++x++r->x.length=m->1<=m->x.length+r.length=rest.length->cw lt x->Q (some m) aL):wpS (model prog w) A E s (countRun' pre.length rest.length) Q st:=by
 have at_: ∀j,(arrOf st).toList[pre.length+j]? =rest[j]?:= fun j=>by rw[ea,rN]
 have fin: ∀n,1<=n->n<=rest.length->cw lt (rest.take n)->Q (some n) st:=fun n g1 g2 g3=>h n st (rest.take n) (rest.drop n) hB rfl (by rw[Lu,T5];exact ea) (by rw[Rt];lia) g1 (by rw[Rt,Xi];lia) g3
 refine wpS_bind (wpS_mono (wpS_forRange (I:=fun x c aL=>aL=st/\c=(none,x)/\cw lt (rest.take x)) (Q:=fun c aL=>aL=st/\ ∃n,c=(none,n)/\1<=n/\n<=rest.length/\cw lt (rest.take n)/\(n=rest.length\/ ∃p q,rest[n - 1]? =some p/\rest[n]? =some q/\lt q p=true)) ?_ ?_ ⟨rfl,rfl,?_⟩) ?_)
 ·rintro x c eJ NO hx ⟨rfl,rfl,sx⟩
  have e1:rest[x - 1]? =some rest[x - 1]:=Hz (by lia)
  have e2:rest[x]? =some rest[x]:=Hz hx
  refine wpS_bind (kQ C hB (show (arrOf eJ).toList[pre.length+x]? =some rest[x] by rw[at_];exact e2) (show (arrOf eJ).toList[pre.length+x - 1]? =some rest[x - 1] by rw[show pre.length+x - 1=pre.length+(x - 1) by lia,at_];exact e1) ?_)
  cases e3:lt rest[x] rest[x - 1] with
  | true=>exact wpS_pure ⟨rfl,x,rfl,NO,by lia,sx, .inr ⟨_,_,e1,e2,e3⟩⟩
  | false=>exact wpS_pure ⟨rfl,rfl,ur L sx NO e1 e2 e3⟩
 ·rintro c eJ ⟨e,rfl,sx⟩
  have em:max 1 rest.length=rest.length:=by lia
  rw[em]at sx
  exact ⟨e,max 1 rest.length,rfl,by lia,by lia,by rw[em];exact sx, .inl em⟩
 ·rw[show rest.take 1=[rest[0]] by
   cases rest with
   | nil=>simp at h1
   | cons a r=>rfl]
  exact X1 _ _
 ·rintro c eJ ⟨rfl,n,rfl,RW,Ii,sn,UP⟩
  refine az (fun g=>wpS_pure (fin n RW Ii sn)) (fun g=>?_)
  have g': ¬n=rest.length:=fun e=>g (by simpa using e)
  obtain ⟨p,q,ep,eq,elt⟩:=UP.resolve_left g'
  have e0:rest[0]? =some rest[0]:=Hz (by lia)
  have JC:(rest.take n).length=n:=by rw[Rt];lia
  apply Mo (P:=fun aL=> ∃R,iY kd a₀ aL/\pendingOf aL=pendingOf eJ/\(arrOf aL).toList=pre++R/\R.length=rest.length/\zH lt (R.take (n+1)))
  ·intro key
   refine az (fun g2=>wpS_bind (kQ C hB (show (arrOf eJ).toList[pre.length]? =some rest[0] by have:=at_ 0;rw[YZ]at this;rw[this];exact e0) (show (arrOf eJ).toList[pre.length+n - 1]? =some p by rw[show pre.length+n - 1=pre.length+(n - 1) by lia,at_];exact ep) ?_)) (fun g2=>?_)
   ·have NL:n>1:=g2
    cases z:lt rest[0] p with
    | true=>exact az (fun _=>wpS_pure (fin n RW Ii sn)) (fun z=>absurd rfl z)
    | false=>
     refine az (fun z=>absurd z Xm) (fun _=>?_)
     have low: ∀e∈rest.take n,lt e rest[0]=false:=fun e he=>by
      obtain ⟨j,hj⟩:=YE he
      rcases Nat.eq_zero_or_pos j with z0 | z0
      ·subst z0
       rw[Xt (by lia),e0]at hj
       cases hj
       exact L.DR _
      ·exact wg sn (i:=0) (j:=j) z0 (by rw[Xt (by lia)];exact e0) hj
     have high: ∀e∈rest.take n,lt p e=false:=fun e he=>by
      obtain ⟨j,hj⟩:=YE he
      have UQ:=(Ru.mp hj).1
      rw[JC]at UQ
      rcases Nat.lt_or_ge j (n - 1) with z1 | z1
      ·exact wg sn (i:=j) (j:=n - 1) z1 hj (by rw[Xt (by lia)];exact ep)
      ·have:j=n - 1:=by lia
       subst this
       rw[Xt (by lia),ep]at hj
       cases hj
       exact L.DR _
     have al:DS lt (rest.take n):=fun e he f hf=>L.tr f rest[0] e (L.tr f p rest[0] (high f hf) z) (low e he)
     have er:(mirror (arrOf eJ) pre.length (pre.length+n) ((pre.length+n - pre.length) / 2)).toList=pre++(rest.take n).reverse++rest.drop n:=by
      have:=nG (arr:=arrOf eJ) (pre:=pre) (x:=rest.take n) (post:=rest.drop n) (by rw[Lu,T5];exact ea)
      rw[JC]at this
      exact this
     have hp:(mirror (arrOf eJ) pre.length (pre.length+n) ((pre.length+n - pre.length) / 2)).toList.Perm (arrOf eJ).toList:=X8.mp (mirror_perm _ _ _ _)
     refine wpS_bind (wpS_reverse ?_)
     have Ij:=hB.set hp
     generalize e7:setArr eJ (mirror (arrOf eJ) pre.length (pre.length+n) ((pre.length+n - pre.length) / 2))=kq at Ij
     have PZ:(arrOf kq).toList=pre++((rest.take n).reverse++rest.drop n):=by rw[<-e7, <-Lu];exact er
     have P0:pendingOf kq=pendingOf eJ:=by rw[<-e7]
     refine key kq ⟨_,Ij,P0,PZ,by rw[Jy,Xq,JC,Xi];lia,?_⟩
     have UR:(rest.take n).reverse.length=n:=by rw[Xq];exact JC
     have t1:((rest.take n).reverse++rest.drop n).take (n+1)=(rest.take n).reverse++[q]:=by
      rw[Qar,WJ (by lia),UR,show n+1 - n=1 by lia]
      congr 1
      have:(rest.drop n)[0]? =some q:=by rw[XY];exact eq
      cases hd:rest.drop n with
      | nil=>rw[hd]at this;cases this
      | cons a r=>rw[hd]at this;cases this;rfl
     rw[t1]
     refine XO.mpr ⟨DS.RV fun e he f hf=>al e (XQ.mp he) f (XQ.mp hf),X1 _ _,fun e he f hf=>?_⟩
     rw[Hy.mp hf]
     exact L.tr q rest[0] e (L.tr q p rest[0] (L.jO _ _ elt) z) (low e (XQ.mp he))
   ·have NL: ¬n>1:=g2
    refine key eJ ⟨rest,hB,rfl,ea,rfl,?_⟩
    have en:n=1:=by lia
    subst en
    have d1:zH lt (rest.take 1):=by
     rw[show rest.take 1=[rest[0]] by
      cases rest with
      | nil=>simp at h1
      | cons a r=>rfl]
     exact X1 _ _
    exact nH L d1 (Rv _) ep eq (L.jO _ _ elt)
  ·rintro kq ⟨R2,Ij,P0,PZ,l2,d2⟩
   refine wpS_bind (wpS_lift (wpAny_rule ⟨rfl,?_⟩))
   have one: ∀{R:List Keyed} {x:Nat},x<R.length->DS lt ((R.take (x+1)).drop (x+1 - (0+1))):=fun {R x} hx p hp q hq=>by
    have e:(R.take (x+1)).drop (x+1 - (0+1))=[R[x]]:=by
     rw[dP (Hz hx),show x+1 - (0+1)=(R.take x).length by rw[Rt];lia,ZA]
    rw[e]at hp hq
    rw[Hy.mp hp,Hy.mp hq]
    exact L.DR _
   refine wpS_bind (wpS_mono (wpS_forRange (I:=fun x c aL=> ∃R kR,c=(none,x,kR)/\iY kd a₀ aL/\pendingOf aL=pendingOf eJ/\(arrOf aL).toList=pre++R/\R.length=rest.length/\zH lt (R.take x)/\kR+1<=x/\DS lt ((R.take x).drop (x - (kR+1))))
    (Q:=fun c aL=> ∃R m kR,c=(none,m,kR)/\iY kd a₀ aL/\pendingOf aL=pendingOf eJ/\(arrOf aL).toList=pre++R/\R.length=rest.length/\n+1<=m/\m<=rest.length/\zH lt (R.take m)/\kR+1<=m/\DS lt ((R.take m).drop (m - (kR+1)))) ?_ ?_ ⟨R2,0,rfl,Ij,P0,PZ,l2,d2,by lia,one (by lia)⟩) ?_)
   ·rintro x c pP US hx ⟨R,kR,rfl,uu,B2,DT,l4,dx,cR,al⟩
    have P4:n+1<=x:=US
    have xY:x<R.length:=by lia
    have RX: ∀j,(arrOf pP).toList[pre.length+j]? =R[j]?:= fun j=>by rw[DT,rN]
    have e1:R[x - 1]? =some (R[x - 1]'(by lia)):=Hz (by lia)
    have e2:R[x]? =some R[x]:=Hz xY
    have a1:(arrOf pP).toList[pre.length+x]? =some R[x]:=by rw[RX];exact e2
    have a2:(arrOf pP).toList[pre.length+x - 1]? =some (R[x - 1]'(by lia)):=by rw[show pre.length+x - 1=pre.length+(x - 1) by lia,RX];exact e1
    refine wpS_bind (kQ C uu a1 a2 ?_)
    cases e3:lt R[x] (R[x - 1]'(by lia)) with
    | true=>
     have dn:=nH L dx (by lia) e1 e2 (L.jO _ _ e3)
     refine az (fun _=>?_) (fun z=>absurd rfl z)
     refine az (fun z=>?_) (fun _=>wpS_pure ⟨R,0,rfl,uu,B2,DT,l4,dn,by lia,one xY⟩)
     obtain ⟨R',er,lr,dr,ar,mr⟩:=rev_last (st:=pP) DT (by lia) cR dx al
     have hp:(mirror (arrOf pP) (pre.length+x - (kR+1)) (pre.length+x) ((pre.length+x - (pre.length+x - (kR+1))) / 2)).toList.Perm (arrOf pP).toList:=X8.mp (mirror_perm _ _ _ _)
     refine wpS_bind (wpS_reverse (wpS_pure ?_))
     have P5:x<R'.length:=by lia
     refine ⟨R',0,rfl,uu.set hp,B2,er,by lia,?_,by lia,one P5⟩
     rw[dP (show R'[x]? =some R[x] by rw[ar x (Rv _)];exact e2)]
     refine XO.mpr ⟨dr,X1 _ _,fun e he f hf=>?_⟩
     rw[Hy.mp hf]
     rw[dP e2]at dn
     exact (XO.mp dn).2.2 e (mr e he) _ (Hy.mpr rfl)
    | false=>
     refine az (fun z=>absurd z Xm) (fun _=>?_)
     refine wpS_bind (kQ C uu a2 a1 ?_)
     cases e4:lt (R[x - 1]'(by lia)) R[x] with
     | true=>exact az (fun _=>wpS_pure ⟨R,x,kR,rfl,uu,B2,DT,l4,P4,by lia,dx,cR,al⟩) (fun z=>absurd rfl z)
     | false=>
      refine az (fun z=>absurd z Xm) (fun _=>wpS_pure ⟨R,kR+1,rfl,uu,B2,DT,l4,nH L dx (by lia) e1 e2 e4,by lia,?_⟩)
      have hl:(R.take x).length=x:=by rw[Rt];lia
      have et:(R.take (x+1)).drop (x+1 - (kR+1+1))=(R.take x).drop (x - (kR+1))++[R[x]]:=by
       rw[dP e2,show x+1 - (kR+1+1)=x - (kR+1) by lia,YY (by lia)]
      have Gx:(R[x - 1]'(by lia))∈(R.take x).drop (x - (kR+1)):=by
       refine Xo (i:=kR) ?_
       rw[XY,Xt (by lia),show x - (kR+1)+kR=x - 1 by lia]
       exact e1
      rw[et]
      intro e he f hf
      rcases T3.mp he with ge | ge
      ·rcases T3.mp hf with gf | gf
       ·exact al e ge f gf
       ·rw[Hy.mp gf]
        exact L.tr _ _ _ e4 (al e ge _ Gx)
      ·rw[Hy.mp ge]
       rcases T3.mp hf with gf | gf
       ·exact L.tr _ _ _ (al _ Gx f gf) e3
       ·rw[Hy.mp gf];exact L.DR _
   ·rintro c pP ⟨R,kR,rfl,uu,B2,DT,l4,dx,cR,al⟩
    have em:max (n+1) rest.length=rest.length:=by lia
    exact ⟨R,max (n+1) rest.length,kR,rfl,uu,B2,DT,l4,by lia,by lia,dx,cR,al⟩
   ·rintro c pP ⟨R,m,kR,rfl,uu,B2,DT,l4,NI,BM,dm,cR,al⟩
    apply Mo (P:=fun aL=> ∃R,iY kd a₀ aL/\pendingOf aL=pendingOf eJ/\(arrOf aL).toList=pre++R/\R.length=rest.length/\zH lt (R.take m))
    ·intro key
     refine az (fun z=>?_) (fun _=>key pP ⟨R,uu,B2,DT,l4,dm⟩)
     obtain ⟨R',er,lr,dr,_,_⟩:=rev_last (st:=pP) DT (by lia) cR dm al
     have hp:(mirror (arrOf pP) (pre.length+m - (kR+1)) (pre.length+m) ((pre.length+m - (pre.length+m - (kR+1))) / 2)).toList.Perm (arrOf pP).toList:=X8.mp (mirror_perm _ _ _ _)
     refine wpS_bind (wpS_reverse ?_)
     have lN:=uu.set hp
     generalize e7:setArr pP (mirror (arrOf pP) (pre.length+m - (kR+1)) (pre.length+m) ((pre.length+m - (pre.length+m - (kR+1))) / 2))=ku at lN
     exact key ku ⟨R',lN,by rw[<-e7];exact B2,by rw[<-e7];exact er,by lia,dr⟩
    ·rintro pP ⟨fV,hB,B2,ea,l4,dm⟩
     have UT:(fV.take m).length=m:=by rw[Rt];lia
     have er:(mirror (arrOf pP) pre.length (pre.length+m) ((pre.length+m - pre.length) / 2)).toList=pre++(fV.take m).reverse++fV.drop m:=by
      have:=nG (arr:=arrOf pP) (pre:=pre) (x:=fV.take m) (post:=fV.drop m) (by rw[Lu,T5];exact ea)
      rw[UT]at this
      exact this
     have hp:(mirror (arrOf pP) pre.length (pre.length+m) ((pre.length+m - pre.length) / 2)).toList.Perm (arrOf pP).toList:=X8.mp (mirror_perm _ _ _ _)
     refine wpS_bind (wpS_reverse ?_)
     have P6:=hB.set hp
     generalize e7:setArr pP (mirror (arrOf pP) pre.length (pre.length+m) ((pre.length+m - pre.length) / 2))=Mp at P6
     have P7:(arrOf Mp).toList=pre++((fV.take m).reverse++fV.drop m):=by rw[<-e7, <-Lu];exact er
     have UU:pendingOf Mp=pendingOf eJ:=by rw[<-e7];exact B2
     have s7:cw lt (((fV.take m).reverse++fV.drop m).take m):=by
      rw[X9 (by rw[Xq];lia),WJ (by rw[Xq];lia)]
      exact EJ dm
     have l7:((fV.take m).reverse++fV.drop m).length=rest.length:=by rw[Jy,Xq,Rt,Xi];lia
     generalize (fV.take m).reverse++fV.drop m=R at P7 s7 l7
     have RY: ∀j,(arrOf Mp).toList[pre.length+j]? =R[j]?:= fun j=>by rw[P7,rN]
     refine wpS_bind (wpS_mono (wpS_forRange (I:=fun x c aL=>aL=Mp/\c=(none,x)/\cw lt (R.take x)) (Q:=fun c aL=>aL=Mp/\ ∃k,c=(none,k)/\1<=k/\k<=rest.length/\cw lt (R.take k)) ?_ ?_ ⟨rfl,rfl,s7⟩) ?_)
     ·rintro x c Mq NO hx ⟨rfl,rfl,sx⟩
      have UW:m<=x:=NO
      have e1:R[x - 1]? =some (R[x - 1]'(by lia)):=Hz (by lia)
      have e2:R[x]? =some (R[x]'(by lia)):=Hz (by lia)
      refine wpS_bind (kQ C P6 (show (arrOf Mq).toList[pre.length+x]? =some (R[x]'(by lia)) by rw[RY];exact e2) (show (arrOf Mq).toList[pre.length+x - 1]? =some (R[x - 1]'(by lia)) by rw[show pre.length+x - 1=pre.length+(x - 1) by lia,RY];exact e1) ?_)
      cases e3:lt (R[x]'(by lia)) (R[x - 1]'(by lia)) with
      | true=>exact wpS_pure ⟨rfl,x,rfl,by lia,by lia,sx⟩
      | false=>exact wpS_pure ⟨rfl,rfl,ur L sx (by lia) e1 e2 e3⟩
     ·rintro c Mq ⟨e,rfl,sx⟩
      exact ⟨e,max m rest.length,rfl,by lia,by lia,sx⟩
     ·rintro c Mq ⟨rfl,k,rfl,xW,vC,sk⟩
      exact wpS_pure (h k Mq (R.take k) (R.drop k) P6 UU (by rw[Lu,T5];exact P7) (by rw[Rt];lia) xW (by rw[Rt,Xi];lia) sk)
end
noncomputable def spans:Nat->List (List Keyed)->List (Nat×Nat)
 | _,[]=>[]
 | a,l::r=>(a,l.length)::spans (a+l.length) r
theorem iI: ∀(b1 b2:List (List Keyed)) (a:Nat),spans a (b1++b2)=spans a b1++spans (a+b1.flatten.length) b2
 | [],b2,a=>by simp[spans]
 | l::b1,b2,a=>by
  show (a,l.length)::spans (a+l.length) (b1++b2)=(a,l.length)::(spans (a+l.length) b1++spans (a+(l++b1.flatten).length) b2)
  rw[iI b1 b2,Jy,Zr]
theorem kT: ∀(bl:List (List Keyed)) (a:Nat),(spans a bl).length=bl.length
 | [],a=>rfl
 | l::r,a=>by show (spans (a+l.length) r).length+1=r.length+1;rw[kT r]
structure tG (lt:Keyed->Keyed->Bool) (st:SortSt) (bl:List (List Keyed)) (rest:List Keyed):Prop where
 arr:(arrOf st).toList=bl.flatten++rest
 EK:cp (pendingOf st)=spans 0 bl
 ok: ∀l∈bl,l≠[]/\cw lt l
theorem xZ {P:Array (Nat×Nat×Nat)} {i:Nat} (pw:Nat):cp (P.modify i fun x=>match x with | (st,len,_)=>(st,len,pw))=cp P:=by
 unfold cp
 refine Zo fun j=>?_
 rw[XC,XC,Xy,Xy,Array.getElem?_modify]
 by_cases z:i=j
 ·rw[if_pos z]
  cases P[j]?<;> rfl
 ·rw[if_neg z]
theorem tG.Gy {lt:Keyed->Keyed->Bool} {st:SortSt} {bl:List (List Keyed)} {rest:List Keyed} (h:tG lt st bl rest):(pendingOf st).size=bl.length:=by
 have:=congrArg List.length h.EK
 unfold cp at this
 rw[WH,Xu,kT]at this
 exact this
theorem tG.h_ {lt:Keyed->Keyed->Bool} {st:SortSt} {bl:List (List Keyed)} {rest:List Keyed} (h:tG lt st bl rest):bl.length<=bl.flatten.length:=by
 have key: ∀bl:List (List Keyed),(∀l∈bl,l≠[])->bl.length<=bl.flatten.length:=by
  intro bl
  induction bl with
  | nil=>intro _;exact Rv _
  | cons l r ih=>
   intro hn
   have h1:=Xs.mpr (hn l NB)
   have h2:=ih fun l hl=>hn l (NA _ hl)
   rw[X7,Jy,Xn]
   lia
 exact key bl fun l hl=>(h.ok l hl).1
section
variable {prog:Program} {w:World} {A:Around} {E:Value->Shared->Prop} {s:Shared} {kd:SortKind} {lt:Keyed->Keyed->Bool} {a₀:Array Keyed}
theorem wo {st:SortSt} {i:Nat} {bl:List (List Keyed)} {rest:List Keyed} {Q:Bool->SortSt->Prop} (L:fK lt) (C:jb prog w A E s kd lt a₀) (hB:iY kd a₀ st) (hb:tG lt st bl rest) (hi:i+1<(pendingOf st).size)
  (h: ∀aL rO,iY kd a₀ aL->tG lt aL rO rest->rO.flatten.length=bl.flatten.length->rO.length+1=bl.length->Q true aL):wpS (model prog w) A E s (mergeAt' i) Q st:=by
 have RZ:=hb.Gy
 have ex:bl[i]? =some (bl[i]'(by lia)):=Hz _
 have ey:bl[i+1]? =some (bl[i+1]'(by lia)):=Hz _
 generalize hx:(bl[i]'(by lia))=x at ex
 generalize hy:(bl[i+1]'(by lia))=y at ey
 have e0:=HY ex ey
 have l1:(bl.take i).length=i:=by rw[Rt];lia
 generalize bl.take i=b1 at e0 l1
 generalize bl.drop (i+2)=b2 at e0
 subst e0
 obtain ⟨⟨sa,na,pw⟩,q1⟩: ∃v,(pendingOf st)[i]? =some v:=⟨_,getElem?_pos (pendingOf st) i (by lia)⟩
 obtain ⟨⟨sb,nb,PQ⟩,q2⟩: ∃v,(pendingOf st)[i+1]? =some v:=⟨_,getElem?_pos (pendingOf st) (i+1) hi⟩
 have p1:(pendingOf st).toList[i]? =some (sa,na,pw):=by simpa using q1
 have p2:(pendingOf st).toList[i+1]? =some (sb,nb,PQ):=by simpa using q2
 have sp:spans 0 (b1++x::y::b2)=spans 0 b1++(b1.flatten.length,x.length)::(b1.flatten.length+x.length,y.length)::spans (b1.flatten.length+x.length+y.length) b2:=by rw[iI,YD];rfl
 have ls:(spans 0 b1).length=i:=by rw[kT];exact l1
 have c1:(cp (pendingOf st))[i]? =some (sa,na):=by unfold cp;rw[XC,p1];rfl
 have c2:(cp (pendingOf st))[i+1]? =some (sb,nb):=by unfold cp;rw[XC,p2];rfl
 rw[hb.EK,sp]at c1 c2
 rw[Xw (by lia),ls,Zj]at c1
 rw[Xw (by lia),ls,XX]at c2
 have d1:b1.flatten.length=sa/\x.length=na:=by cases c1;exact ⟨rfl,rfl⟩
 have d2:b1.flatten.length+x.length=sb/\y.length=nb:=by cases c2;exact ⟨rfl,rfl⟩
 rw[<-d1.1, <-d1.2]at q1
 rw[<-d2.1, <-d2.2]at q2
 have P8:=hb.ok x (by simp)
 have R0:=hb.ok y (by simp)
 refine wm (pre:=b1.flatten) (x:=x) (y:=y) (post:=b2.flatten++rest) L C hB q1 q2 (by rw[hb.arr];simp) P8.1 R0.1 P8.2 R0.2 fun aL z UX ep pz sz ea=>?_
 have lz:z.length=x.length+y.length:=by rw[pz.length_eq,Jy]
 refine h aL (b1++z::b2) UX ⟨by rw[ea];simp,?_,fun l hl=>?_⟩ (by simp[lz];lia) (by simp;lia)
 ·unfold cp
  rw[ep,Array.toList_eraseIdxIfInBounds,Array.toList_setIfInBounds,EE p1 p2,XJ,XM]
  have t1:(cp (pendingOf st)).take i=spans 0 b1:=by rw[hb.EK,sp,X9 (by lia),WJ (by lia)]
  have t2:(cp (pendingOf st)).drop (i+2)=spans (b1.flatten.length+x.length+y.length) b2:=by
   rw[hb.EK,sp,ZN,XZ (by lia),YH,ls,show i+2 - i=2 by lia];rfl
  unfold cp at t1 t2
  rw[Qae,List.map_drop,t1,t2,iI,YD]
  show spans 0 b1++(b1.flatten.length,x.length+y.length)::_=spans 0 b1++(b1.flatten.length,z.length)::spans (b1.flatten.length+z.length) b2
  rw[lz,Zr]
 ·rcases T3.mp hl with g | g
  ·exact hb.ok l (Xx _ g)
  ·rcases T4.mp g with g | g
   ·rw[g]
    have PY:=Xs.mpr P8.1
    exact ⟨fun e=>by rw[e,Yp]at lz;lia,sz⟩
   ·exact hb.ok l (T6 _ (NA _ (NA _ g)))
theorem rP {st:SortSt} {bl:List (List Keyed)} {z r:List Keyed} {P:Array (Nat×Nat×Nat)} {lo n x:Nat} (hB:iY kd a₀ st) (hb:tG lt st bl (z++r)) (hz:z≠[]) (sz:cw lt z) (hP:cp P=cp (pendingOf st)) (Rr:lo=bl.flatten.length) (hn:z.length=n) (hx:x<=lo):
  iY kd a₀ (setPending st (P.push (lo,n,0)))/\ ∃rO rest,tG lt (setPending st (P.push (lo,n,0))) rO rest/\((none,lo+n):Option Unit×Nat)=(none,rO.flatten.length)/\x+1<=rO.flatten.length:=by
 subst Rr
 subst hn
 have lz:=Xs.mpr hz
 refine ⟨⟨hB.perm,hB.kind,hB.failed⟩,bl++[z],r,⟨by show (arrOf st).toList=_;rw[hb.arr];simp,?_,fun l hl=>?_⟩,by rw[Qaa,Jy,X7,ZM,XA],by rw[Qaa,Jy,X7,ZM,XA];lia⟩
 ·show cp (P.push (bl.flatten.length,z.length,0))=_
  have:cp (P.push (bl.flatten.length,z.length,0))=cp P++[(bl.flatten.length,z.length)]:=by unfold cp;rw[Yb,XJ];rfl
  rw[this,hP,hb.EK,iI,YD]
  rfl
 ·rcases T3.mp hl with g | g
  ·exact hb.ok l g
  ·rw[Hy.mp g];exact ⟨hz,sz⟩
theorem EL {st:SortSt} {Q:Unit->SortSt->Prop} (L:fK lt) (C:jb prog w A E s kd lt a₀) (hB:iY kd a₀ st) (hp:pendingOf st= #[])
  (h: ∀aL,(arrOf aL).Perm a₀->failedOf aL=none->cw lt (arrOf aL).toList->Q () aL):wpS (model prog w) A E s sortRuns' Q st:=by
 have hz:=hB.size
 rw[sortRuns'_eq]
 refine wpS_bind (wpS_get ?_)
 refine wpS_bind (wpS_mono (wpS_forRange (I:=fun x c aL=>iY kd a₀ aL/\ ∃bl rest,tG lt aL bl rest/\c=(none,bl.flatten.length)/\x<=bl.flatten.length) (Q:=fun c aL=>iY kd a₀ aL/\ ∃bl,tG lt aL bl []/\c=(none,bl.flatten.length)) ?_ ?_ ⟨hB,[],(arrOf st).toList,⟨rfl,by rw[hp];rfl,fun l hl=>by cases hl⟩,rfl,XI _⟩) ?_)
 ·rintro x c eJ _ hx ⟨vD,bl,rest,b1,rfl,xY⟩
  have Mr:=vD.size
  have hlen:bl.flatten.length+rest.length=a₀.size:=by rw[<-Mr, <-Xu,b1.arr,Jy]
  refine az (fun g=>?_) (fun g=>?_)
  ·have g':bl.flatten.length ≥ (arrOf st).size:=g
   have e0:rest=[]:=Yn (by lia)
   subst e0
   exact wpS_pure ⟨vD,bl,b1,rfl⟩
  have g': ¬bl.flatten.length ≥ (arrOf st).size:=g
  have er:(arrOf st).size - bl.flatten.length=rest.length:=by lia
  show wpS (model prog w) A E s (countRun' bl.flatten.length ((arrOf st).size - bl.flatten.length) >>= _) _ eJ
  rw[er]
  refine wpS_bind (Ih L C vD b1.arr (by lia) fun m kq y r Ij e2 a2 hm m1 WU sy=>?_)
  refine az (fun g2=>wpS_bind (wpS_lift (wpAny_rule ⟨rfl,?_⟩))) (fun g2=>wpS_bind (wpS_get ?_))
  ·have NL:m<minRun' (arrOf st).size (arrOf st).size 0:=g2
   subst hm
   refine wpS_bind (Ig (pre:=bl.flatten) (x:=y) (rest:=r) (n:=min rest.length (minRun' (arrOf st).size (arrOf st).size 0)) L C Ij a2 (fun e=>by rw[e]at m1;cases m1) sy (by lia) (by lia) fun vz z r3 UY e3 a3 R1 sz=>az (fun z=>by cases z) (fun _=>wpS_bind (wpS_get ?_)))
   have uu:=UY
   have b4:tG lt vz bl (z++r3):=⟨by rw[<-Lu];exact a3,by rw[e3,e2];exact b1.EK,b1.ok⟩
   have R3:=R1
   have s4:=sz
   have n4:z≠[]:=fun e=>by rw[e,Yp]at R1;lia
   generalize hb:(pendingOf vz).back? =o
   cases o with
   | none=>exact wpS_bind (wpS_modify (wpS_pure (rP uu b4 n4 s4 rfl rfl R3 xY)))
   | some v=>
    obtain ⟨s1,l1,p1⟩:=v
    refine wpS_bind (wpS_mono (wpS_forRange (I:=fun _ c aL=>c=(none,())/\iY kd a₀ aL/\ ∃rO,tG lt aL rO (z++r3)/\rO.flatten.length=bl.flatten.length) (Q:=fun c aL=>c=(none,())/\iY kd a₀ aL/\ ∃rO,tG lt aL rO (z++r3)/\rO.flatten.length=bl.flatten.length) ?_ (fun _ _ z=>z) ⟨rfl,uu,bl,b4,rfl⟩) ?_)
    ·rintro y' c ku _ _ ⟨rfl,lN,zI,b5,l5⟩
     refine wpS_bind (wpS_get ?_)
     by_cases hs:(pendingOf ku).size>1
     ·obtain ⟨⟨u,v,Ms⟩,eo⟩: ∃x,(pendingOf ku)[(pendingOf ku).size - 2]? =some x:=⟨_,getElem?_pos (pendingOf ku) ((pendingOf ku).size - 2) (by lia)⟩
      simp only[if_pos hs,eo]
      exact az (fun _=>wpS_pure ⟨rfl,lN,zI,b5,l5⟩) (fun _=>wpS_bind (wo L C lN b5 (by lia) fun R4 Mt Mu b6 l6 _=>az (fun z=>by cases z) (fun z=>wpS_pure ⟨rfl,Mu,Mt,b6,l6.trans l5⟩)))
     ·simp only[if_neg hs]
      exact wpS_pure ⟨rfl,lN,zI,b5,l5⟩
    ·rintro c ku ⟨rfl,lN,zI,b5,l5⟩
     exact wpS_bind (wpS_modify (wpS_bind (wpS_modify (wpS_pure (rP ⟨lN.perm,lN.kind,lN.failed⟩ ⟨b5.arr,(xZ _).trans b5.EK,b5.ok⟩ n4 s4 rfl l5.symm R3 xY)))))
  ·subst hm
   have uu:=Ij
   have b4:tG lt kq bl (y++r):=⟨by rw[<-Lu];exact a2,by rw[e2];exact b1.EK,b1.ok⟩
   have n4:y≠[]:=fun e=>by rw[e]at m1;cases m1
   generalize hb:(pendingOf kq).back? =o
   cases o with
   | none=>exact wpS_bind (wpS_modify (wpS_pure (rP uu b4 n4 sy rfl rfl rfl xY)))
   | some v=>
    obtain ⟨s1,l1,p1⟩:=v
    refine wpS_bind (wpS_mono (wpS_forRange (I:=fun _ c aL=>c=(none,())/\iY kd a₀ aL/\ ∃rO,tG lt aL rO (y++r)/\rO.flatten.length=bl.flatten.length) (Q:=fun c aL=>c=(none,())/\iY kd a₀ aL/\ ∃rO,tG lt aL rO (y++r)/\rO.flatten.length=bl.flatten.length) ?_ (fun _ _ z=>z) ⟨rfl,uu,bl,b4,rfl⟩) ?_)
    ·rintro y' c ku _ _ ⟨rfl,lN,zI,b5,l5⟩
     refine wpS_bind (wpS_get ?_)
     by_cases hs:(pendingOf ku).size>1
     ·obtain ⟨⟨u,v,Ms⟩,eo⟩: ∃x,(pendingOf ku)[(pendingOf ku).size - 2]? =some x:=⟨_,getElem?_pos (pendingOf ku) ((pendingOf ku).size - 2) (by lia)⟩
      simp only[if_pos hs,eo]
      exact az (fun _=>wpS_pure ⟨rfl,lN,zI,b5,l5⟩) (fun _=>wpS_bind (wo L C lN b5 (by lia) fun R4 Mt Mu b6 l6 _=>az (fun z=>by cases z) (fun z=>wpS_pure ⟨rfl,Mu,Mt,b6,l6.trans l5⟩)))
     ·simp only[if_neg hs]
      exact wpS_pure ⟨rfl,lN,zI,b5,l5⟩
    ·rintro c ku ⟨rfl,lN,zI,b5,l5⟩
     exact wpS_bind (wpS_modify (wpS_bind (wpS_modify (wpS_pure (rP ⟨lN.perm,lN.kind,lN.failed⟩ ⟨b5.arr,(xZ _).trans b5.EK,b5.ok⟩ n4 sy rfl l5.symm rfl xY)))))
 ·rintro c eJ ⟨vD,bl,rest,b1,rfl,xY⟩
  have Mr:=vD.size
  have hlen:bl.flatten.length+rest.length=a₀.size:=by rw[<-Mr, <-Xu,b1.arr,Jy]
  have e0:rest=[]:=Yn (by lia)
  subst e0
  exact ⟨vD,bl,b1,rfl⟩
 ·rintro c eJ ⟨vD,bl,b1,rfl⟩
  have Mr:=vD.size
  have hlen:bl.flatten.length=a₀.size:=by rw[<-Mr, <-Xu,b1.arr,XA]
  have ze:=b1.h_
  refine wpS_bind (wpS_mono (wpS_forRange (I:=fun y c aL=>c=(none,())/\iY kd a₀ aL/\ ∃bl,tG lt aL bl []/\bl.length+y<=a₀.size+1) (Q:=fun c aL=>c=(none,())/\iY kd a₀ aL/\ ∃bl,tG lt aL bl []/\bl.length<=1) ?_ ?_ ⟨rfl,vD,bl,b1,by lia⟩) ?_)
  ·rintro y c ku _ _ ⟨rfl,lN,zI,b5,UZ⟩
   refine wpS_bind (wpS_get ?_)
   refine az (fun g=>?_) (fun g=>?_)
   ·have g':(pendingOf ku).size<=1:=g
    rw[b5.Gy]at g'
    exact wpS_pure ⟨rfl,lN,zI,b5,g'⟩
   have g': ¬(pendingOf ku).size<=1:=g
   refine wpS_bind (wo L C lN b5 ?_ fun R4 Mt Mu b6 l6 n6=>az (fun z=>by cases z) (fun z=>wpS_pure ⟨rfl,Mu,Mt,b6,by lia⟩))
   exact BQ _ g'
  ·rintro c ku ⟨e,lN,zI,b5,UZ⟩
   exact ⟨e,lN,zI,b5,by lia⟩
  ·rintro c ku ⟨rfl,lN,zI,b5,h5⟩
   refine wpS_pure (h _ lN.perm lN.failed ?_)
   rw[b5.arr,XA]
   match zI,h5,b5.ok with
   | [],_,_=>exact List.Pairwise.nil
   | [l],_,ok=>rw[X7,ZM,XA];exact (ok l NB).2
   | _::_::_,h5,_=>simp at h5
end
end L2
namespace PySem
open PySem.Spec PyProof.Rows
end PySem
namespace L2
open PySem PySem.Spec PyProof.Rows
section
variable {X:Cx}
theorem B3: ∀{l:List Bool} {us:List Value},Vals (l.map V.bl) us->us.countP (tV (.bl true))=l.countP id
 | [],_, .nil=>rfl
 | b::t,_, .cons r1 r2=>by
  rw[List.countP_cons,List.countP_cons,B3 r2,vP r1 rfl]
  cases b<;>rfl
inductive qw (K:PySem.W.Frag) (x:V) (vs:List V) (H:Hp) (Q:VK):Prop
 | mk (p:Addr) (l:List Bool) (_:x= .ref p) (_:vs=[.bl true]) (_:H p=some (.lst (l.map V.bl))) (_:Q (.int (l.countP id:Nat)) H):qw K x vs H Q
def EM (K:PySem.W.Frag):V->List V->Hp->VK->Prop:=qw K
theorem zJ (K:PySem.W.Frag) (h:X.K=K):AE X "list.count" (EM K):=by
 subst h
 intro pins s σ H x vs v us Q I rx rv h
 obtain ⟨p,l,rfl,rfl,hH,q⟩:=h
 cases rx
 obtain ⟨u,rfl,ru⟩:=vals1 rv
 cases (show u=Value.bool true from ru)
 obtain ⟨z,aF,n,r,hl,e⟩:=I.tW hH
 have hc:=B3 r
 refine call_meets F.slot_list_count ⟨_,e,rfl⟩ F.entry_list_count (F.args_list_count_2 _ _) (SeqAt.list_countAt p aF.toArray n none #[] (.bool true) (tV (.bl true))) ⟨e,?_,?_⟩
 ·intro w hw
  have fs:(l.map V.bl).all gI=true:=by
   rw[Yg];intro v hv
   obtain ⟨d,_,rfl⟩:=XH.mp hv
   rfl
  exact fO (x:= .bl true) (show RelV (.bl true) _ from rfl) rfl r fs w (by simpa using hw)
 ·rw[show aF.toArray.toList=aF from rfl,hc]
  exact ⟨.int (l.countP id:Nat),H,I.tok _,⟨_,rfl⟩,q⟩
end
section
variable {X:Cx} {pos:Pos}
def Mv (i j k:Nat) (ta:TA):TS:=fun D σ H=>ta σ H fun vs H1=> ∃v w z,vs=[v,w,z]/\D.nx (((σ.set i (some v)).set j (some w)).set k (some z)) H1
theorem rQ {i j k:Nat} {x y z:Str} {a b c:Expr} {ta:TA} {px py pz pt:Pos} {kt k2 G8} (hc:X.calm=true) (hN:X.N.Nodup) (hi:X.N[i]? =some x) (hj:X.N[j]? =some y) (hk:X.N[k]? =some z) (q_:i≠j/\i≠k/\j≠k)
  (hx:X.env.scope.names.lookup x=some .local) (hy:X.env.scope.names.lookup y=some .local) (hz:X.env.scope.names.lookup z=some .local) (ha:PA X [a,b,c] ta)
  (hw:swappedStores [.Tuple [.Name x px, .Name y py, .Name z pz] kt pt] (.Tuple [a,b,c] k2 G8) X.env=pure (some [x,y,z]))
  (hs:swapsWithSole [.Tuple [.Name x px, .Name y py, .Name z pz] kt pt] (.Tuple [a,b,c] k2 G8) pos.line X.env=pure false:=by rfl):
  PS X (.Assign [.Tuple [.Name x px, .Name y py, .Name z pz] kt pt] (.Tuple [a,b,c] k2 G8) pos) (Mv i j k ta):=by
 intro pins s σ H D I h
 rw[exec_Assign_arm]
 refine wpAny_bind (wpAny_standAt ?_)
 rw[hs]
 refine wpAny_bind (wpAny_pure ?_)
 rw[if_neg (by decide)]
 refine wpAny_bind (Tuple_ (cg (ha _ pins s σ H _ I h) fun us s1 ⟨vs,H1,I1,r1,q1⟩=>?_))
 obtain ⟨v,w,q,e1,q1⟩:=q1
 subst e1
 obtain ⟨u1,u2,u3,rfl,rv,G9,rq⟩: ∃u1 u2 u3,us=[u1,u2,u3]/\RelV v u1/\RelV w u2/\RelV q u3:=by
  cases r1 with
  | cons p q=>
   cases q with
   | cons p' q'=>
    cases q' with
    | cons U0 U1=>
     cases U1
     exact ⟨_,_,_,rfl,p,p',U0⟩
 refine wpAny_newObj_type ?_ (by show 3<=sizeLine;decide)
 have I2:Inv X pins σ H1 { s1 with heap:=s1.heap.push { cls:= .type "tuple",data:= .seq [u1,u2,u3].toArray } }:=I1.kept (t':=s1.toks) fun b o e=>Rw _ e
 rw[hw]
 refine wpAny_bind (wpAny_pure ?_)
 show wpAny (model X.prog X.w) X.A (do rule "assign.swapped-stores";let items <-unpackItems (.ref s1.heap.objs.size) 3 none;assignInOrder [fun v=>bindName X.env z v,fun v=>bindName X.env y v,fun v=>bindName X.env x v] items.reverse;pure Flow.next) _ _ _
 refine wpAny_bind (wpAny_rule (wpAny_bind (unpackItems_tuple (items:= #[u1,u2,u3]) (I.ok.hd hc) (IsTup.new s1.heap _) fun h' D5=>?_)))
 have I3:=I2.kept (h':=h') (t':=s1.toks) fun b o e=>D5 b o (XB (Xj e)) e
 show wpAny _ _ (assignInOrder [fun v=>bindName X.env z v,fun v=>bindName X.env y v,fun v=>bindName X.env x v] [u3,u2,u1] >>= fun _=>pure Flow.next) _ _ _
 refine wpAny_bind (assignInOrder_cons (wpAny_bindName (cY I3 hN hk (.inl hz) rq (fun s2 I4=>?_) (.inr hz))))
 refine assignInOrder_cons (wpAny_bindName (cY I4 hN hj (.inl hy) G9 (fun s3 I5=>?_) (.inr hy)))
 refine assignInOrder_cons (wpAny_bindName (cY I5 hN hi (.inl hx) rv (fun s4 I6=>assignInOrder_nil (wpAny_pure ?_)) (.inr hx)))
 rw[Qad _ _ (Ne.symm q_.1),Qad _ _ (Ne.symm q_.2.1),Qad _ _ (Ne.symm q_.2.2)]at I6
 exact ⟨_,H1,I6,q1⟩
end
noncomputable def jB (a b:List Nat):Bool:=if a.length=b.length then decide (a<b) else decide (a.length<b.length)
theorem B4 (a b:List Nat) (h:jB a b=true):jB b a=false:=by
 unfold jB at*
 by_cases e:a.length=b.length
 ·rw[if_pos e]at h
  rw[if_pos e.symm]
  exact decide_eq_false fun z=>Y6 _ (List.lt_trans (of_decide_eq_true h) z)
 ·rw[if_neg e]at h
  rw[if_neg (Ne.symm e)]
  have:=of_decide_eq_true h
  exact decide_eq_false (by lia)
theorem Ik (a b c:List Nat) (h:jB b a=false) (g:jB c b=false):jB c a=false:=by
 unfold jB at*
 by_cases e:b.length=a.length
 ·rw[if_pos e]at h
  by_cases e2:c.length=b.length
  ·rw[if_pos e2]at g
   rw[if_pos (e2.trans e)]
   have x:=Z_.mp (of_decide_eq_false h)
   have y:=Z_.mp (of_decide_eq_false g)
   exact decide_eq_false (Z_.mpr (List.le_trans x y))
  ·rw[if_neg e2]at g
   rw[if_neg fun z=>e2 (z.trans e.symm), <-e]
   exact g
 ·rw[if_neg e]at h
  have q1:=of_decide_eq_false h
  by_cases e2:c.length=b.length
  ·rw[if_neg fun z=>e (e2.symm.trans z),e2];exact h
  ·rw[if_neg e2]at g
   have q2:=of_decide_eq_false g
   rw[if_neg (by lia)]
   exact decide_eq_false (by lia)
theorem EN (a b:List Nat) (h:jB a b=false) (g:jB b a=false):a=b:=by
 unfold jB at*
 by_cases e:a.length=b.length
 ·rw[if_pos e]at h
  rw[if_pos e.symm]at g
  exact List.le_antisymm (Z_.mp (of_decide_eq_false g)) (Z_.mp (of_decide_eq_false h))
 ·rw[if_neg e]at h
  rw[if_neg (Ne.symm e)]at g
  have q1:=of_decide_eq_false h
  have q2:=of_decide_eq_false g
  lia
noncomputable def nI (v:Value):List Nat:=(PyProof.Rows.strOf v).cps.toList
noncomputable def Il (p q:Keyed):Bool:=jB (nI p.2) (nI q.2)
theorem Im:fK Il:=⟨fun _ _ e=>B4 _ _ e,fun _ _ _ e g=>Ik _ _ _ e g⟩
theorem rR (w:List Nat) (t:Tok):nI (.str (S w) t)=w:=bV w
def B5 (h:Heap) (v:Value) (w:List Nat):Prop:= ∃x ox us m t u,v= .ref x/\h.get? x=some ox/\ox.cls= .type "tuple"/\ox.data= .seq us m/\us.toList=[Value.int (w.length:Nat) t, .str (S w) u]
section
variable {prog:Program} {w:World} {A:Around} {E:Value->Shared->Prop} {s:Shared}
theorem Io {u v:Value} {a c:List Nat} {Q:Bool->Shared->Prop} (hx:B5 s.heap u a) (hy:B5 s.heap v c) (q:Q (jB a c) s):wpAny (model prog w) A (keyLt' (tuples' true) u v) Q E s:=by
 obtain ⟨x,ox,us,n,t1,t2,rfl,gx,_,dx,ix⟩:=hx
 obtain ⟨y,oy,vs,m,t3,t4,rfl,gy,_,dy,iy⟩:=hy
 refine PySem.W.kat_lt gx dx gy dy ?_
 rw[show decide (us.size<vs.size)=false from decide_eq_false (by rw[<-Xu, <-Xu,ix,iy];exact X_ _),ix,iy]
 refine PySem.W.kat_cons (wpAny_eqBool_int ?_)
 by_cases e:a.length=c.length
 ·rw[show ((a.length:Int)==(c.length:Int))=true by simp[e]]
  refine PySem.W.kat_yes (PySem.W.kat_cons (wpAny_eqBool_str ?_))
  by_cases g:S a=S c
  ·have e2:a=c:=by rw[<-bV a,g,bV]
   rw[decide_eq_true g]
   rw[e2,show jB c c=false by unfold jB;rw[if_pos rfl];exact decide_eq_false (Y6 c)]at q
   exact PySem.W.kat_yes (PySem.W.kat_nil q)
  ·rw[decide_eq_false g]
   rw[show jB a c=decide (a<c) by unfold jB;rw[if_pos e]]at q
   refine PySem.W.kat_no ?_
   refine PySem.W.kat_one _ _ ?_
   show wpAny (model prog w) A (richCompare .Lt _ _) _ _ s
   exact P.lt_str (by rw[bV,bV];exact q)
 ·rw[show ((a.length:Int)==(c.length:Int))=false by simp;exact fun z=>e (ZI z)]
  rw[show jB a c=decide (a.length<c.length) by unfold jB;rw[if_neg e]]at q
  refine PySem.W.kat_no (PySem.W.kat_lt_int (E:=fun _ _=>False) ?_)
  have:decide ((a.length:Int)<(c.length:Int))=decide (a.length<c.length):=by simp
  rw[this]
  exact q
def ie (h:Heap):List Value->List (List Nat)->Prop
 | [],[]=>True
 | v::vs,w::ws=>B5 h v w/\ie h vs ws
 | _,_=>False
theorem ie.kB {h:Heap}: ∀{ks:List Value} {ws:List (List Nat)},ie h ks ws-> ∃fs,PySem.W.KatTups h ks fs/\fs.length=ks.length/\ ∀v∈fs, ∃i t,v=Value.int i t
 | [],[],_=>⟨[],trivial,rfl,fun _ h=>absurd h Xl⟩
 | v::vs,n::ns,⟨⟨x,ox,us,m,t,u,e1,e2,e3,e4,e5⟩,b⟩=>by
  obtain ⟨fs,k1,k2,k3⟩:=ie.kB b
  refine ⟨.int (n.length:Nat) t::fs,⟨⟨x,ox,us,m,e1,e2,e3,e4,by rw[<-Xy,e5];rfl⟩,k1⟩,by simp[k2],fun z hz=>(T4.mp hz).elim (fun e=>⟨_,_,e⟩) (k3 z)⟩
theorem ie.len {h:Heap}: ∀{ks:List Value} {ws:List (List Nat)},ie h ks ws->ks.length=ws.length
 | [],[],_=>rfl
 | _::_,_::_,⟨_,b⟩=>by rw[Xn,Xn,b.len]
theorem ie.pair {h:Heap}: ∀{ks vs:List Value} {ws:List (List Nat)},ie h ks ws->Vals (ws.map fun l=>V.str (S l)) vs-> ∀p∈ks.zip vs, ∃w t,p.2= .str (S w) t/\B5 h p.1 w
 | [],_,_,_,_,p,hp=>by simp at hp
 | k::ks,_,[],a,_,_,_=>a.elim
 | k::ks,_,w::ws,⟨a,b⟩,r,p,hp=>by
  cases r with
  | cons r1 rs=>
   rw[List.zip_cons_cons]at hp
   rcases T4.mp hp with e | e
   ·obtain ⟨t,q⟩:=r1
    rw[e];exact ⟨w,t,q,a⟩
   ·exact ie.pair b rs p e
theorem P9 {ks vs:List Value} (hz: ∀p∈ks.zip vs, ∃w t,p.2= .str (S w) t/\B5 s.heap p.1 w):jb prog w A E s (tuples' true) Il (ks.toArray.zip vs.toArray):=by
 intro st p q Q hk hp hq hQ
 have e:(ks.toArray.zip vs.toArray).toList=ks.zip vs:=by simp
 rw[e]at hp hq
 obtain ⟨x,t,ex,kx⟩:=hz p hp
 obtain ⟨y,u,ey,ky⟩:=hz q hq
 have NC:Q (some (jB x y)) st:=by
  have:Il p q=jB x y:=by unfold Il;rw[ex,ey,rR,rR]
  rw[<-this];exact hQ
 rw[lt'_eq]
 refine wpS_bind (wpS_get ?_)
 rw[hk]
 exact wpS_bind (wpS_lift (wpAny_attempt (Io kx ky ⟨rfl,wpS_pure NC⟩)))
theorem Mw: ∀{l:List Keyed},(∀p∈l, ∃w t,p.2=Value.str (S w) t)->Vals ((l.map fun p=>nI p.2).map fun w=>V.str (S w)) (l.map (·.2))
 | [],_=> .nil
 | p::l,h=>by
  obtain ⟨w,t,e⟩:=h p NB
  refine .cons ⟨t,?_⟩ (Mw fun q hq=>h q (NA _ hq))
  show p.2=Value.str (S (nI p.2)) t
  rw[e,rR]
theorem Ip {ws:List (List Nat)}: ∀{vs:List Value},Vals (ws.map fun l=>V.str (S l)) vs->vs.map nI=ws:=by
 induction ws with
 | nil=>intro vs r;cases r;rfl
 | cons w ws ih=>
  intro vs r
  cases r with
  | cons r1 rs=>
   obtain ⟨t,q⟩:=r1
   rw[XM,ih rs,q,rR]
theorem B6 {D kS:Addr} {ks vs:List Value} {ws:List (List Nat)} {e e1:Nat} {P:PySem.Fin->Shared->Prop} (hD:s.heap.get? D=some (seqObj "list" #[] e1)) (hK:s.heap.get? kS=some (seqObj "list" ks.toArray e)) (cR:kS≠D)
  (hk:ie s.heap ks ws) (hv:Vals (ws.map fun l=>V.str (S l)) vs) (hn:ws.length<=10000)
  (h: ∀(h':Heap) (kz:List (List Nat)) (out:List Value) (c:Nat),(∀b o,b≠D->b≠kS->s.heap.get? b=some o->h'.get? b=some o)->(∃o,h'.get? kS=some o)->h'.get? D=some (seqObj "list" out.toArray c)->Vals (kz.map fun l=>V.str (S l)) out->kz.Perm ws->(kz.Pairwise fun a b=>jB b a=false)->P (.done (.ret .none)) { s with heap:=h' }):
  wpAny (model prog w) A (ksk_end D false vs.toArray e1 (.ref kS) ks.toArray) P E s:=by
 have gZ:(10000:Nat)<sizeLine:=by decide
 have W2:=hk.len
 have R5:ws.length=vs.length:=by have:=hv.length;rwa [WH]at this
 have hz:=hk.pair hv
 have ez:(ks.toArray.zip vs.toArray).toList=ks.zip vs:=by simp
 have fin: ∀st:SortSt,(arrOf st).toList.Perm (ks.zip vs)->cw Il (arrOf st).toList->failedOf st=none->wpAny (model prog w) A (ksk_tail D false e1 (.ref kS) st) P E s:=by
  intro st hp hs hf
  have hlen:(arrOf st).size=vs.length:=by rw[<-Xu,hp.length_eq,List.length_zip];lia
  unfold ksk_tail
  try dsimp only
  refine wpAny_bind (listUpdate_at hK rfl ?_ (by rw[WI];lia) (XI _))
  refine wpAny_bind (wpAny_letGo ?_)
  have Gz:(s.heap.update kS (Obj.mapSeq fun _=>(#[]:Array Value))).get? D=some (seqObj "list" #[] e1):=(X0 _ _ cR).trans hD
  obtain ⟨c0,U2⟩: ∃c,(s.heap.update kS (Obj.mapSeq fun _=>(#[]:Array Value))).get? kS=some (seqObj "list" #[] c):=⟨_,get?_update_seq hK fun _=> #[]⟩
  refine wpAny_bind (seqEpoch_at Gz rfl ?_)
  refine wpAny_bind (listUpdate_at Gz rfl ?_ (XI _) (by simp only[Y0,if_false,Array.size_map,hlen];lia))
  rw[hf]
  simp only[bne_self_eq_false,Y0,if_false]
  obtain ⟨c2,AG⟩: ∃c2,((s.heap.update kS (Obj.mapSeq fun _=>(#[]:Array Value))).update D (Obj.mapSeq fun _=>(arrOf st).map (·.2))).get? D=some (seqObj "list" ((arrOf st).map (·.2)) c2):=⟨_,get?_update_seq Gz fun _=>(arrOf st).map (·.2)⟩
  refine wpAny_pure (h _ ((arrOf st).toList.map fun p=>nI p.2) ((arrOf st).toList.map (·.2)) c2 (fun b o n1 n2 g=>?_) ⟨_,(X0 _ _ (Ne.symm cR)).trans U2⟩ ?_ (Mw fun p wq=>?_) ?_ ?_)
  ·exact (X0 _ _ (Ne.symm n1)).trans ((X0 _ _ (Ne.symm n2)).trans g)
  ·rw[AG]
   congr 2
   apply ZO.mp
   simp
  ·obtain ⟨w,t,g,_⟩:=hz p (hp.mem_iff.mp wq)
   exact ⟨w,t,g⟩
  ·have:=hp.map fun p:Keyed=>nI p.2
   rwa [show (ks.zip vs).map (fun p:Keyed=>nI p.2)=ws by rw[show (fun p:Keyed=>nI p.2)=nI ∘ Prod.snd from rfl, <-Zm,List.map_snd_zip (by lia),Ip hv]]at this
  ·exact YU.mpr hs
 unfold ksk_end
 try dsimp only
 simp only[Y0,if_false]
 by_cases h2:vs.toArray.size<2
 ·rw[if_pos h2,if_pos h2]
  refine wpAny_bind (wpAny_pure ?_)
  rw[StateT.run_pure]
  refine wpAny_bind (wpAny_pure ?_)
  refine fin (SortSt.mk' general' (ks.toArray.zip vs.toArray) #[] 7 none) (by show (ks.toArray.zip vs.toArray).toList.Perm _;rw[ez]) ?_ rfl
  show cw Il (ks.toArray.zip vs.toArray).toList
  rw[ez]
  rw[WI]at h2
  match ks,vs,h2 with
  | [],_,_=>exact List.Pairwise.nil
  | _::_,[],_=>exact List.Pairwise.nil
  | _::k,[_],_=>rw[List.zip_cons_cons,List.zip_nil_right];exact X1 _ _
  | _,_::_::_,h=>exact absurd h (by simp)
 ·rw[if_neg h2,if_neg h2]
  rw[WI]at h2
  obtain ⟨fs,k1,k2,k3⟩:=hk.kB
  refine wpAny_bind (PySem.W.kat_kind (T:= .type "int") k1 (by lia) (fun v hv=>by obtain ⟨i,t,rfl⟩:=k3 v hv;exact PySem.W.Looks.of_pure rfl) (by rfl) ?_)
  have run:=EL (prog:=prog) (w:=w) (A:=A) (E:=E) (s:=s) (a₀:=ks.toArray.zip vs.toArray) (st:=SortSt.mk' (tuples' (Value.type "int" != Value.type "tuple")) (ks.toArray.zip vs.toArray) #[] 7 none) (Q:=fun _ aL=>(arrOf aL).toList.Perm (ks.zip vs)/\cw Il (arrOf aL).toList/\failedOf aL=none) Im (P9 hz) ⟨Array.Perm.refl _,rfl,rfl⟩ rfl fun aL a1 a2 a3=>⟨by rw[<-ez];exact X8.mp a1,a3,a2⟩
  refine wpAny_bind (wpAny_mono run ?_ fun _ _ e=>e)
  rintro ⟨⟨⟩,aL⟩ s' ⟨rfl,g1,g2,g3⟩
  exact fin aL g1 g2 g3
end
section
variable {X:Cx} {k:Nat} {f:Addr} {fd:FuncData} {sp:Sp}
theorem B7 {ps:List Str} {pins:List (Addr×Obj)} {σ:St} {H:Hp} {s:Shared} {Q:VK} {us:List Value} {vs:List V} {E:Value->Shared->Prop} (F:bp X.prog X.w X.K X.mg X.base dB k f fd ps sp) (hr:cF k X.A.in1.in1) (hb:Binds X.K fd ps [])
  (I:Inv X pins σ H s) (r:Vals vs us) (h:sp vs H Q E0):wpAny (model X.prog X.w) X.A.in1.in1 (call (.ref f) us) (EP X pins σ Q) E s:=by
 have hl:(us++[]).length=ps.length:=by rw[XA, <-r.length];exact F.len _ _ _ _ h
 have GA:=hb s us I.qY hl
 rw[XA]at GA
 refine wpAny_call (codeAny_mono (F.run X.A.in1.in1 X.stack s H ⟨us,[]⟩ us vs Q E0 hr I.Lj.in1.in1 GA r h) fun r s' hq=>?_)
 cases r with
 | error e=>exact (show False from hq).elim
 | ok fl=>
  cases fl with
  | ret u=>exact I.after hq
  | next=>exact False.elim hq
  | brk=>exact False.elim hq
  | cont=>exact False.elim hq
structure P_ (X:Cx) (pins:List (Addr×Obj)) (a:Addr):Prop where
 z:X.s₀.heap.objs.size<=a
 l:a≠X.env.locals
 c: ∀x c,X.env.cells.lookup x=some c->c≠a
 p: ∀p∈X.pn++pins,p.1≠a
 f:a∉X.fs
theorem Inv.Qa {pins:List (Addr×Obj)} {σ:St} {H:Hp} {s:Shared} {a:Addr} (I:Inv X pins σ H s) (ha:s.heap.objs.size<=a):P_ X pins a where
 z:=XG I.sz ha
 l:=Zw (Xv I.lt ha)
 c:=fun x c e=>by
  obtain ⟨v,o,ho,_⟩:=I.cell x c e
  exact XB (Xv (Xj ho) ha)
 p:=fun p hp=>XB (Xv (Xj (I.pin p hp).1) ha)
 f:=I.D0 ha
theorem Inv.own {pins:List (Addr×Obj)} {σ:St} {H:Hp} {s:Shared} {h':Heap} {t':Nat} {D:Addr} {o:HO} {ch:List Addr} (I:Inv X pins σ H s) (hD:D∈ch) (k: ∀b u,b∉ch->s.heap.get? b=some u->h'.get? b=some u)
  (hn: ∀b∈ch,H b=none) (hf: ∀b∈ch,P_ X pins b) (new:bI X.prog X.w (upd H D o) h' D o):Inv X pins σ (upd H D o) { s with heap:=h',toks:=t' }:=by
 have nD: ∀b u,H b=some u->b∉ch:=fun b u e z=>by rw[hn b z]at e;cases e
 have Mx: ∀b u,H b=some u->b≠D:=fun b u e z=>nD b u e (z▸hD)
 refine I.step (g':=s.gens) (d':=s.drawn) (ch:=ch) (fun b hb=>⟨.inr (hf b hb).z,(hf b hb).l,(hf b hb).c,(hf b hb).p⟩) (fun b u _ _ hc e n=>k b u hc e) (fun b u _ _ hc e _=>⟨u.slots,k b u hc e⟩) (fun b u hc _ n=>by rw[ao (show b≠D from fun z=>hc (by rw[z];exact hD))];exact n)
  (fun b u hc e=>⟨u,k b u hc e⟩) (fun b xs e=>by rw[ao (Mx b _ e)];exact e) (fun b _ _ e=>by rw[ao (Mx b _ e)];exact e) (fun b ps e=>⟨#[],by rw[ao (Mx b _ e),e];simp⟩) (fun m hm=>?_) (fun b u e=>?_) I.bare
 ·obtain ⟨o,es,ep,ho,r⟩:=hm
  exact ⟨o,es,ep,k _ o (fun z=>(hf _ z).l rfl) ho,r⟩
 ·by_cases hb:b=D
  ·subst hb;rw[ah]at e;cases e;exact new
  ·rw[ao hb]at e
   refine (I.bN b u e).iV (fun c v hc q=>k c v ?_ q) (fun c q=>by rw[ao (Mx c _ q)];exact q) fun c xs q=>by rw[ao (Mx c _ q)];exact q
   rcases hc with z | z
   ·rw[z];exact nD b u e
   ·exact nD c _ z
def KeysIn (H:Hp):List Addr->List (List Nat)->Prop
 | [],[]=>True
 | x::xs,w::ws=>H x=some (.tup [.int (w.length:Nat), .str (S w)])/\KeysIn H xs ws
 | _,_=>False
theorem KeysIn.same {H H':Hp} (e:ay H H'): ∀{xs:List Addr} {ws:List (List Nat)},KeysIn H xs ws->KeysIn H' xs ws
 | [],[],_=>trivial
 | _::_,_::_,⟨a,b⟩=>⟨e _ _ a,b.same e⟩
theorem KeysIn.snoc {H:Hp} {x:Addr} {w:List Nat} (h:H x=some (.tup [.int (w.length:Nat), .str (S w)])): ∀{xs:List Addr} {ws:List (List Nat)},KeysIn H xs ws->KeysIn H (xs++[x]) (ws++[w])
 | [],[],_=>⟨h,trivial⟩
 | _::_,_::_,⟨a,b⟩=>⟨a,b.snoc h⟩
theorem KeysIn.at_ {pins:List (Addr×Obj)} {σ:St} {H:Hp} {s:Shared} (I:Inv X pins σ H s): ∀{xs:List Addr} {ws:List (List Nat)},KeysIn H xs ws->ie s.heap (xs.map Value.ref) ws
 | [],[],_=>trivial
 | x::xs,w::ws,⟨a,b⟩=>by
  refine ⟨?_,KeysIn.at_ I b⟩
  obtain ⟨us,Mz,px,_⟩:=I.tuple (me.of (K:=X.K) a)
  obtain ⟨ox,U3,NP,mx,U4⟩:=px
  cases Mz with
  | cons r1 Mz=>cases Mz with
   | cons r2 Mz=>
    cases Mz
    obtain ⟨t1,rfl⟩:=r1
    obtain ⟨t2,rfl⟩:=r2
    exact ⟨_,ox,_,mx,t1,t2,rfl,U3,NP,U4,by simp⟩
theorem KeysIn.len {H:Hp}: ∀{xs:List Addr} {ws:List (List Nat)},KeysIn H xs ws->xs.length=ws.length
 | [],[],_=>rfl
 | _::_,_::_,⟨_,b⟩=>by rw[Xn,Xn,b.len]
theorem zK {pins:List (Addr×Obj)} {σ:St} {H:Hp} {s:Shared} {h1:Heap} {vs:List Value} {ws:List (List Nat)} {x:Str} {P:PySem.Fin->Shared->Prop} {E:Value->Shared->Prop}
  (F:bp X.prog X.w X.K X.mg X.base dB k f fd [x] sp) (hr:cF k X.A.in1.in1) (hb:Binds X.K fd [x] []) (I:Inv X pins σ H { s with heap:=h1 }) (hv:Vals (ws.map fun l=>V.str (S l)) vs) (hn:ws.length<=10000)
  (tS: ∀(H':Hp) (w:List Nat) (Q:VK),w∈ws->ay H H'->(∀p NQ,ay H' NQ->NQ p=some (.tup [.int (w.length:Nat), .str (S w)])->Q (.ref p) NQ)->sp [.str (S w)] H' Q E0)
  (q: ∀(s':Shared) (H':Hp) (kz:List (List Nat)),ay H H'->H' h1.objs.size=none->kz.Perm ws->(kz.Pairwise fun a b=>jB b a=false)->Inv X pins σ (upd H' h1.objs.size (.lst (kz.map fun l=>V.str (S l)))) s'->P (.done (.ret .none)) s'):
  wpAny (model X.prog X.w) X.A.in1.in1 (ksk_tree h1.objs.size (.ref f) false) P E { s with heap:=h1.push (seqObj "list" vs.toArray 0) }:=by
 have gZ:(10000:Nat)<sizeLine:=by decide
 have R5:ws.length=vs.length:=by have:=hv.length;rwa [WH]at this
 have FD:=I.Qa (a:=h1.objs.size) (Rv _)
 have ho:(h1.push (seqObj "list" vs.toArray 0)).get? h1.objs.size=some (seqObj "list" vs.toArray 0):=Xr _ rfl
 unfold ksk_tree
 refine wpAny_bind (listItems_at ho rfl ?_)
 refine wpAny_bind (listUpdate_at ho rfl ?_ (by rw[WI];lia) (XI _))
 obtain ⟨e1,R6⟩: ∃e1,((h1.push (seqObj "list" vs.toArray 0)).update h1.objs.size (Obj.mapSeq fun _=>(#[]:Array Value))).get? h1.objs.size=some (seqObj "list" #[] e1):=⟨_,get?_update_seq ho fun _=> #[]⟩
 refine wpAny_bind (seqEpoch_at R6 rfl ?_)
 refine wpAny_bind (wpAny_newTuple ?_ (by show vs.length<=_;lia))
 refine wpAny_bind (wpAny_newList ?_ (XI _))
 refine wpAny_holding ?_
 show wpAny (model X.prog X.w) X.A.in1.in1 _ P E { s with heap:=(((h1.push (seqObj "list" vs.toArray 0)).update h1.objs.size (Obj.mapSeq fun _=>(#[]:Array Value))).push (seqObj "tuple" vs.toArray 0)).push (seqObj "list" #[] 0) }
 generalize R7:(((h1.push (seqObj "list" vs.toArray 0)).update h1.objs.size (Obj.mapSeq fun _=>(#[]:Array Value))).push (seqObj "tuple" vs.toArray 0)).objs.size=kS
 have hz:kS=h1.objs.size+2:=by rw[<-R7,size_push',Heap.size_update,size_push']
 have R8:((((h1.push (seqObj "list" vs.toArray 0)).update h1.objs.size (Obj.mapSeq fun _=>(#[]:Array Value))).push (seqObj "tuple" vs.toArray 0)).push (seqObj "list" #[] 0)).get? kS=some (seqObj "list" #[] 0):=by
  rw[<-R7];exact Xr _ rfl
 have R9:((((h1.push (seqObj "list" vs.toArray 0)).update h1.objs.size (Obj.mapSeq fun _=>(#[]:Array Value))).push (seqObj "tuple" vs.toArray 0)).push (seqObj "list" #[] 0)).get? h1.objs.size=some (seqObj "list" #[] e1):=
  Rw _ (Rw _ R6)
 have keep: ∀b o,h1.get? b=some o->((((h1.push (seqObj "list" vs.toArray 0)).update h1.objs.size (Obj.mapSeq fun _=>(#[]:Array Value))).push (seqObj "tuple" vs.toArray 0)).push (seqObj "list" #[] 0)).get? b=some o:=fun b o e=>
  Rw _ (Rw _ ((X0 _ _ (Zw (Xj e))).trans (Rw _ e)))
 generalize ((((h1.push (seqObj "list" vs.toArray 0)).update h1.objs.size (Obj.mapSeq fun _=>(#[]:Array Value))).push (seqObj "tuple" vs.toArray 0)).push (seqObj "list" #[] 0))=h5 at R8 R9 keep
 have FK:=I.Qa (a:=kS) (by show h1.objs.size<=kS;lia)
 have cR:kS≠h1.objs.size:=by lia
 have I5:Inv X pins σ H { s with heap:=h5 }:=I.kept (t':=s.toks) keep
 have HD:H h1.objs.size=none:=I.fresh
 have HK:H kS=none:=I.bN.fresh (show h1.objs.size<=kS by lia)
 generalize h1.objs.size=D at*
 have Iq: ∀(e:Nat) (xs:Array Value) (v:Option Value),(seqObj "list" xs e).data≠ .cell v:=fun e xs v z=>by cases z
 unfold ksk_rest
 refine wpAny_bind (wpAny_rule ?_)
 rw[List.forIn_toArray]
 refine wpAny_bind (ksk_fold (fun i s'=> ∃H' xs e,Inv X ((D,seqObj "list" #[] e1)::(kS,seqObj "list" (xs.map Value.ref).toArray e)::pins) σ H' s'/\ay H H'/\KeysIn H' xs (ws.take i)) vs 0 _ ⟨H,[],0,I5.eL fun p hp=>?_,ay.refl H,trivial⟩ ?step ?done)
 ·rcases T4.mp hp with rfl | hp
  ·exact ⟨R9,HD,FD.l,FD.f,Iq _ _⟩
  ·rcases T4.mp hp with rfl | hp
   ·exact ⟨R8,HK,FK.l,FK.f,Iq _ _⟩
   ·exact I5.pin p (T6 _ hp)
 case step=>
  rintro j v s' hx ⟨H',xs,e,I',sm,ki⟩
  simp only[YD]at ki ⊢
  obtain ⟨w,hw,mH⟩: ∃w,ws[j]? =some w/\RelV (.str (S w)) v:=by
   have hj:j<vs.length:=(Ru.mp hx).1
   have R_:ws[j]? =some (ws[j]'(by lia)):=Hz _
   obtain ⟨u,hu,ru⟩:=hv.get (show (ws.map fun l=>V.str (S l))[j]? =some (.str (S (ws[j]'(by lia)))) by rw[XC,R_];rfl)
   rw[hx]at hu
   cases hu
   exact ⟨_,R_,ru⟩
  have U5:w∈ws:=Xo hw
  refine wpAny_bind (wpAny_attempt (wpAny_mono (B7 F hr hb (Q:=fun v H2=> ∃p,v= .ref p/\ay H' H2/\H2 p=some (.tup [.int (w.length:Nat), .str (S w)])) (E:=fun _ _=>False) I' (.cons mH .nil) (tS H' w _ U5 sm fun p NQ a b=>⟨p,rfl,a,b⟩)) (fun u s2 hq=>?_) fun _ _ z=>z.elim))
  obtain ⟨_,H2,I2,ru,p,rfl,cX,B1⟩:=hq
  cases ru
  have pK:=I2.pin (kS,seqObj "list" (xs.map Value.ref).toArray e) (T6 _ (.tail _ (.head _)))
  have pD:=I2.pin (D,seqObj "list" #[] e1) (T6 _ (.head _))
  have xY:xs.length<=ws.length:=by rw[ki.len,Rt];lia
  try dsimp only
  refine wpAny_bind (listUpdate_at pK.1 rfl ?_ (by rw[WI,WH];lia) (XG (Nat.le_of_eq (Array.size_push ..)) (by rw[WI,WH];lia)))
  obtain ⟨c2,AG⟩: ∃c2,(s2.heap.update kS (Obj.mapSeq (·.push (.ref p)))).get? kS=some (seqObj "list" ((xs.map Value.ref).toArray.push (.ref p)) c2):=⟨_,get?_update_seq pK.1 (·.push (.ref p))⟩
  have ek:ws.take (j+1)=ws.take j++[w]:=by rw[Zl,hw];rfl
  have ea:(xs.map Value.ref).toArray.push (Value.ref p)=((xs++[p]).map Value.ref).toArray:=by apply ZO.mp;simp
  rw[ea]at AG
  have ps: ∀r∈X.pn++((D,seqObj "list" #[] e1)::pins),r.1≠kS:=fun r hr=>by
   rcases T3.mp hr with g | g
   ·exact FK.p r (Xx _ g)
   ·rcases T4.mp g with rfl | g
    ·exact Ne.symm cR
    ·exact FK.p r (T6 _ g)
  have I3:Inv X ((D,seqObj "list" #[] e1)::pins) σ H2 s2:=I2.eL fun r hr=>by
   rcases T4.mp hr with rfl | g
   ·exact pD
   ·exact I2.pin r (T6 _ (.tail _ (.tail _ g)))
  have kp: ∀b o,b≠kS->s2.heap.get? b=some o->(s2.heap.update kS (Obj.mapSeq (·.push (.ref p)))).get? b=some o:=fun b o hb g=>(X0 _ _ (Ne.symm hb)).trans g
  have I4:Inv X ((D,seqObj "list" #[] e1)::pins) σ H2 { s2 with heap:=s2.heap.update kS (Obj.mapSeq (·.push (.ref p))) }:=I3.turned (t':=s2.toks) (it:=kS) kp pK.2.1 FK.l (.inr FK.z) FK.c ps
  refine wpAny_pure ⟨rfl,H2,xs++[p],c2,I4.eL fun r hr=>?_,sm.trans cX,by rw[ek];exact (ki.same cX).snoc B1⟩
  rcases T4.mp hr with rfl | g
  ·exact I4.pin _ (T6 _ (.head _))
  ·rcases T4.mp g with rfl | g
   ·exact ⟨AG,pK.2.1,FK.l,FK.f,Iq _ _⟩
   ·exact I4.pin r (T6 _ (.tail _ g))
 case done=>
  rintro s' ⟨H',xs,e,I',sm,ki⟩
  rw[WJ (by lia)]at ki
  have pK:=I'.pin (kS,seqObj "list" (xs.map Value.ref).toArray e) (T6 _ (.tail _ (.head _)))
  have pD:=I'.pin (D,seqObj "list" #[] e1) (T6 _ (.head _))
  try dsimp only
  refine wpAny_bind (listItems_at pK.1 rfl ?_)
  refine B6 pD.1 pK.1 cR (KeysIn.at_ I' ki) hv hn fun h' kz out c g1 g2 g3 g4 g5 g6=>q _ H' kz sm pD.2.1 g5 g6 ?_
  have I3:Inv X pins σ H' s':=I'.eL fun r hr=>I'.pin r (T6 _ (.tail _ (.tail _ hr)))
  refine I3.own (t':=s'.toks) (ch:=[D,kS]) (.head _) (fun b u hb e=>g1 b u (fun z=>hb (by simp[z])) (fun z=>hb (by simp[z])) e) (fun b hb=>?_) (fun b hb=>?_) ⟨by rw[WH,g5.length_eq];lia,out,c,g4,g3⟩
  ·rcases T4.mp hb with rfl | g
   ·exact pD.2.1
   ·rw[Hy.mp g];exact pK.2.1
  ·rcases T4.mp hb with rfl | g
   ·exact FD
   ·rw[Hy.mp g];exact FK
end
noncomputable def EO (f:Addr) (o:Obj):HO:= .ext fun h=>h.get? f=some o
noncomputable def ER (c:Addr) (q:Str):HO:= .ext fun h=> ∃oc vs t,h.get? c=some oc/\oc.data= .fields vs/\vs[1]? =some (.str q t)
theorem B8 {P:Program} {w:World} {H:Hp} {h:Heap} {f:Addr} {o:Obj} (e:h.get? f=some o):bI P w H h f (EO f o):=⟨e,⟨_,e⟩,fun _ _ a b=>b _ a⟩
theorem Ir {P:Program} {w:World} {H:Hp} {h:Heap} {c:Addr} {q:Str} {oc:Obj} {vs:Array Value} {t:Tok} (e:h.get? c=some oc) (d:oc.data= .fields vs) (v:vs[1]? =some (.str q t)):bI P w H h c (ER c q):=
 ⟨⟨oc,vs,t,e,d,v⟩,⟨_,e⟩,fun _ _ ⟨o,vs,t,a,b,d⟩ k=>⟨o,vs,t,k _ a,b,d⟩⟩
def bo (p:Addr->Prop) (H H':Hp):Prop:= ∀b o,H b=some o->H' b=some o\/(p b/\(∃ps,o= .ma ps)/\ ∃ps,H' b=some (.ma ps))
section
variable {p:Addr->Prop}
theorem bo.refl (H:Hp):bo p H H:=fun _ _ h=> .inl h
theorem bo.of {H H':Hp} (s:ay H H'):bo p H H':=fun b o h=> .inl (s b o h)
theorem bo.imp {q:Addr->Prop} {H H':Hp} (s:bo p H H') (h: ∀b,p b->q b):bo q H H':=fun b o e=>(s b o e).imp id fun z=>⟨h b z.1,z.2⟩
theorem bo.get {H H':Hp} (s:bo p H H') {b:Addr} {o:HO} (h:H b=some o) (n: ∀ps,o≠ .ma ps:=by exact fun _ z=>nomatch z):H' b=some o:=by
 rcases s b o h with e | ⟨_,⟨ps,e⟩,_⟩
 ·exact e
 ·exact absurd e (n ps)
theorem bo.off {H H':Hp} (s:bo p H H') {b:Addr} {o:HO} (h:H b=some o) (n: ¬p b):H' b=some o:=by
 rcases s b o h with e | ⟨e,_⟩
 ·exact e
 ·exact absurd e n
theorem bo.free {H H':Hp} (s:bo p H H') {b:Addr} (h:H' b=none):H b=none:=by
 cases q:H b with
 | none=>rfl
 | some o=>rcases s b o q with e | ⟨_,_,ps,e⟩<;>rw[h]at e<;>cases e
theorem bo.trans {H H1 H2:Hp} (x:bo p H H1) (y:bo p H1 H2):bo p H H2:=fun b o h=>by
 rcases x b o h with e | ⟨t0,t,ps,e⟩
 ·exact y b o e
 ·rcases y b _ e with g | ⟨_,_,U6,g⟩
  ·exact .inr ⟨t0,t,ps,g⟩
  ·exact .inr ⟨t0,t,U6,g⟩
theorem bo.seq {K:PySem.W.Frag} {H H':Hp} {a:Addr} {xs:List V} (e:bo p H H') (h:a_ K H a xs):a_ K H' a xs:=by
 rcases h with (h | ⟨o,h⟩) | h
 ·exact .inl (.inl (e.get h))
 ·exact .inl (.inr ⟨o,e.get h⟩)
 ·exact .inr h
end
def jQ (P:Addr) (pos:Pos) (q:Str) (H:Hp):Prop:=H P=some (.ma #[])\/ ∃c',H P=some (.ma #[rawInt pos.line,rawInt pos.col, .ref c'])/\H c'=some (ER c' q)
theorem jQ.same {P:Addr} {pos:Pos} {q:Str} {H H':Hp} (h:jQ P pos q H) (s:ay H H'):jQ P pos q H':=by
 rcases h with h | ⟨c,h,g⟩
 ·exact .inl (s _ _ h)
 ·exact .inr ⟨c,s _ _ h,s _ _ g⟩
theorem jQ.off {p:Addr->Prop} {P:Addr} {pos:Pos} {q:Str} {H H':Hp} (h:jQ P pos q H) (s:bo p H H') (n: ¬p P):jQ P pos q H':=by
 rcases h with h | ⟨c,h,g⟩
 ·exact .inl (s.off h n)
 ·exact .inr ⟨c,s.off h n,s.get g⟩
def uv (base:Heap) (mg:Str->Option Value):Prop:= ∃bm ob,mg "__builtins__"=some (.ref bm)/\bm≠builtinsNs/\base.get? bm=some ob/\ob.cls= .type "module"/\ob.dict=some builtinsNs/\ob.data= .plain
section
variable {X:Cx} {pins:List (Addr×Obj)} {σ:St} {H:Hp} {s:Shared}
theorem Inv.grow {P:Addr} {ps more:Array Value} {h':Heap} {t':Nat} (I:Inv X pins σ H s) (hP:H P=some (.ma ps)) (k: ∀b u,b≠P->s.heap.get? b=some u->h'.get? b=some u) (e:h'.get? P=some { cls:= .none,data:= .fields (ps++more) }):
  Inv X pins σ (upd H P (.ma (ps++more))) { s with heap:=h',toks:=t' }:=by
 have n0: ∀b,H b=none->b≠P:=fun b n z=>by rw[z,hP]at n;cases n
 have n1: ∀b u,H b=some u->(∀ps,u≠ .ma ps)->b≠P:=fun b u q n z=>by rw[z,hP]at q;cases q;exact n _ rfl
 refine I.un (h':=h') (t':=t') ⟨fun b u q n _ _=>k b u (n0 b n) q,fun b u q n _ _=>⟨u.slots,k b u (n0 b n) q⟩,fun b u q n _=>by rw[ao (n0 b n)];exact n,fun b u q _=>?_,
  fun b xs q=>by rw[ao (n1 b _ q fun _ z=>by cases z)];exact q,fun b u xs q=>by rw[ao (n1 b _ q fun _ z=>by cases z)];exact q,fun b qs q=>?_⟩ fun b u q=>?_
 ·by_cases hb:b=P
  ·exact ⟨_,hb▸e⟩
  ·exact ⟨u,k b u hb q⟩
 ·by_cases hb:b=P
  ·subst hb;rw[hP]at q;cases q;exact ⟨more,ah⟩
  ·exact ⟨#[],by rw[ao hb,q];simp⟩
 ·by_cases hb:b=P
  ·subst hb;rw[ah]at q;cases q;exact e
  ·rw[ao hb]at q
   refine (I.bN b u q).iV (fun c v hc r=>k c v ?_ r) (fun c r=>by rw[ao (n1 c _ r fun _ z=>by cases z)];exact r) fun c xs r=>by rw[ao (n1 c _ r fun _ z=>by cases z)];exact r
   rcases hc with z | z
   ·rw[z];exact hb
   ·exact n1 c _ z fun _ w=>by cases w
end
section
variable {X:Cx} {c P:Addr} {params:Arguments} {body:Expr} {scope:Scope} {pos:Pos} {qual:Str}
def MA (P:Addr) (qual:Str) (params:Arguments) (body:Expr) (scope:Scope) (pos:Pos):TE:=fun σ H Q=>jQ P pos qual H/\
 ∀f c' pm jC H',bo (· =P) H H'->H f=none->jQ P pos qual H'->H' f=some (EO f (PySem.W.kla_obj "<lambda>" qual params body scope [] pm c' jC))->H' c'=some (ER c' qual)->Q (.ref f) H'
theorem B9 (GB:X.env.code= .ref c) (hh:PySem.W.codeHdIn X.K c P=true) (hb:uv X.base X.mg) (hq:X.env.qual++"<lambda>"=qual) (EB:closureFor scope X.env=pure []) (hd:defaultsOf params X.env=([],[])):
  PE X (.Lambda params body scope pos) (MA P qual params body scope pos):=by
 subst hq
 intro pins s σ H Q I h
 obtain ⟨hT,hQ⟩:=h
 have hg:s.heap.Ns mainGlobals X.mg:=I.mod.glob.keeps I.bk
 have C:=PySem.W.codeHd_of_K I.qY hh
 obtain ⟨bm,ob,b1,b2,b3,b4,b5,b6⟩:=hb
 obtain ⟨ps,hP,RZ⟩: ∃ps,H P=some (.ma ps)/\(ps= #[]\/ ∃c',ps= #[rawInt pos.line,rawInt pos.col, .ref c']/\H c'=some (ER c' (X.env.qual++"<lambda>"))):=by
  rcases hT with h | ⟨c',h,g⟩
  ·exact ⟨_,h, .inl rfl⟩
  ·exact ⟨_,h, .inr ⟨c',rfl,g⟩⟩
 have LQ:s.heap.get? P=some (PySem.W.tabObj ps):=I.bN P _ hP
 have nP: ∀b o,X.base.get? b=some o->b≠P:=fun b o e z=>by
  have:=(I.bs b o e).2
  rw[z,hP]at this;cases this
 have U7:mainGlobals≠P:=by
  obtain ⟨o,es,ep,e,_⟩:=I.mod.glob
  exact nP _ _ e
 have U8:bm≠mainGlobals:=fun q=>by
  obtain ⟨o,es,ep,e,Sa,_⟩:=I.mod.glob
  rw[<-q,b3]at e;cases e;rw[Sa]at b6;cases b6
 have NR:s.heap.BuiltinsAt X.mg P:=⟨bm,ob,b1,b2,U8,nP _ _ b3,I.bk _ _ b3,b4,b5,b6⟩
 refine PySem.W.kla_eval hd ?_
 rcases RZ with rfl | ⟨c',rfl,o9⟩
 ·-- made
  refine PySem.W.kla_makeFunction (mg:=X.mg) (P:=P) (ps:= #[]) EB I.ok.glob hg GB C LQ trivial rfl U7 NR fun c' jC h' tk hx NS cj Qb U9=>?_
  obtain ⟨c₂,oc,vs,t,e2,Np,U_,hv⟩:=Qb
  cases e2
  have Sb:P<s.heap.objs.size:=Xj LQ
  have fC:H c'=none:=I.bN.fresh NS
  have hsz:s.heap.objs.size<=h'.objs.size:=YI (Zy NS cj)
  have fF:H h'.objs.size=none:=I.bN.fresh hsz
  have Sd:P≠c':=XB (Xv Sb NS)
  have Va:P≠h'.objs.size:=XB (Xv Sb hsz)
  have Se:c'≠h'.objs.size:=XB cj
  have I1:=I.grow (more:= #[rawInt pos.line,rawInt pos.col, .ref c']) (h':=h') (t':=tk) hP (fun b u n e=>hx b u n e) U9
  have F1:P_ X pins c':=I.Qa NS
  have I2:=I1.own (t':=tk) (h':=h') (D:=c') (o:=ER c' (X.env.qual++"<lambda>")) (ch:=[c']) (.head _) (fun _ _ _ e=>e) (fun b hb=>by rw[Hy.mp hb,ao (Ne.symm Sd)];exact fC) (fun b hb=>by rw[Hy.mp hb];exact F1) (Ir Np U_ hv)
  have I3:=I2.laid (a:=h'.objs.size) (o:=EO h'.objs.size (PySem.W.kla_obj "<lambda>" (X.env.qual++"<lambda>") params body scope [] ((X.mg "__name__").getD .none) c' jC)) (t':=tk) (h':=h'.push (PySem.W.kla_obj "<lambda>" (X.env.qual++"<lambda>") params body scope [] ((X.mg "__name__").getD .none) c' jC)) (fun b u e=>Rw _ e) (Rv _) (B8 (Xr _ rfl))
  refine ⟨.ref h'.objs.size,_,I3,rfl,hQ h'.objs.size c' _ jC _ (fun b u e=>?_) fF (.inr ⟨c',?_,?_⟩) ah ?_⟩
  ·rw[ao (aA e fF),ao (aA e fC)]
   by_cases nb:b=P
   ·subst nb
    rw[hP]at e
    cases e
    exact .inr ⟨rfl,⟨_,rfl⟩,_,ah⟩
   ·rw[ao nb];exact .inl e
  ·rw[ao Va,ao Sd,ah];simp
  ·rw[ao Se,ah]
  ·rw[ao Se,ah]
 ·refine PySem.W.kla_makeFunctionHit (mg:=X.mg) (P:=P) (cv:= .ref c') EB I.ok.glob hg GB C LQ trivial (codeAmong_snoc [] trivial rfl) NR fun jC h' tk hk hsz=>?_
  have fF:H h'.objs.size=none:=I.bN.fresh hsz
  have I1:Inv X pins σ H { s with heap:=h',toks:=tk }:=I.kept (t':=tk) hk
  have I3:=I1.laid (a:=h'.objs.size) (o:=EO h'.objs.size (PySem.W.kla_obj "<lambda>" (X.env.qual++"<lambda>") params body scope [] ((X.mg "__name__").getD .none) c' jC)) (t':=tk) (h':=h'.push (PySem.W.kla_obj "<lambda>" (X.env.qual++"<lambda>") params body scope [] ((X.mg "__name__").getD .none) c' jC)) (fun b u e=>Rw _ e) (Rv _) (B8 (Xr _ rfl))
  have k: ∀b u,H b=some u->upd H h'.objs.size (EO h'.objs.size (PySem.W.kla_obj "<lambda>" (X.env.qual++"<lambda>") params body scope [] ((X.mg "__name__").getD .none) c' jC)) b=some u:=fun b u e=>by rw[ao (aA e fF)];exact e
  exact ⟨.ref h'.objs.size,_,I3,rfl,hQ h'.objs.size c' _ jC _ (fun b u e=> .inl (k b u e)) fF (.inr ⟨c',k _ _ hP,k _ _ o9⟩) ah (k _ _ o9)⟩
end
section
variable {P:Program} {w:World} {K:PySem.W.Frag} {mg:Str->Option Value} {base:Heap}
theorem Iu {k:Nat} {f c':Addr} {params:Arguments} {body:Expr} {scope:Scope} {pm jC:Value} {qual:Str} {N ps:List Str} {Qc:Sp} (S:aB N ps scope) (len: ∀vs H Q E,Qc vs H Q E->vs.length=ps.length)
  (mV: ∀(A:Around) (outer:List Env) (s:Shared) (H:Hp) (vs:List V) (Q:VK) (E:XK),cF k (A.deeper (envOfC qual scope s.heap.objs.size f (.ref c')))->Qc vs H Q E->
   ∃t:TE,PE (rj dB P w K mg base N qual scope f (.ref c') A outer s H E).DN body t/\t (start N vs) H Q):
  bp P w K mg base dB (k+1) f (PySem.W.kla_fn "<lambda>" qual params body scope [] pm (.ref c') jC) ps
   (fun vs H Q E=>H f=some (EO f (PySem.W.kla_obj "<lambda>" qual params body scope [] pm c' jC))/\H c'=some (ER c' qual)/\Qc vs H Q E):=by
 refine ⟨fun vs H Q E h=>len _ _ _ _ h.2.2,fun A outer s H args us vs Q E hr e0 hb r tS=>?_⟩
 obtain ⟨h1,h2,tS⟩:=tS
 have hl:=len _ _ _ _ tS
 obtain ⟨ho,_,_⟩:=e0.bN f _ h1
 obtain ⟨⟨oc,ws,tc,g1,g2,g3⟩,_,_⟩:=e0.bN c' _ h2
 have D1:s.heap.get? f=some (PySem.W.kla_obj "<lambda>" qual params body scope [] pm c' jC):=ho
 have lim:s.heap.NoLimit:=e0.mod.nolimit.keeps fun b o e=>(e0.bs b o e).1
 have fu: ∀y∈ps.zip us,scope.names.lookup y.1=some .local\/(scope.names.lookup y.1=some .cell/\((cellsFrom (s.heap.objs.size+1) scope.names []).lookup y.1).isSome=true):=fun ⟨n,v⟩ hy=>by
  rcases S.par n (ZV hy).1 with q | q
  ·exact .inl q
  ·exact .inr ⟨q,ZP _ _ _ (.inl q)⟩
 refine PySem.W.kla_callFunE hr.depth D1 rfl S.co S.gen rfl ⟨c',oc,ws,tc,rfl,g1,g2,g3⟩ (hb _ _ _ _ ?_)
 refine wpAny_newFunctionEnv_cells S.kind fu fun env he s1 x=>?_
 subst he
 refine ⟨lim.keeps x.toInCall.keep,PySem.W.kla_codeExpr ?_⟩
 obtain ⟨t,ht,hq⟩:=mV A outer s H vs Q E (hr.deeper _) tS
 have I:Inv (rj dB P w K mg base N qual scope f (.ref c') A outer s H E) [] (start N vs) H s1:=qc S hr.hd e0 hl r x
 refine wpAny_mono (ht.DN [] s1 (start N vs) H _ I hq) (fun u s' hs=>?_) fun e s' hs=>hs
 obtain ⟨v,H',J,rv,q⟩:=hs
 exact ⟨v,H',J.os,J.bare,J.base,J.bN,rv,q⟩
end
def GC:Sp:=fun vs H Q _=> ∃w:List Nat,vs=[.str (S w)]/\w.length<=10000/\ ∀p H',ay H H'->H' p=some (.tup [.int (w.length:Nat), .str (S w)])->Q (.ref p) H'
theorem zL (vs:List V) (H:Hp) (Q:VK) (E:XK) (h:GC vs H Q E):vs.length=1:=by obtain ⟨_,rfl,_⟩:=h;rfl
section
variable {X:Cx} {k:Nat} {c P:Addr} {params:Arguments} {body:Expr} {scope:Scope} {qual x:Str}
inductive B_ (K:PySem.W.Frag) (H:Hp) (p:Addr) (ws:List (List Nat)):Prop
 | lst (_:a_ K H p (ws.map fun l=>V.str (S l)))
 | NT (aJ:List (Key×V)) (_:H p=some (.dK aJ)) (_:aJ.map (·.1)=ws.map fun l=>Sum.inr (S l))
theorem B_.MB {K:PySem.W.Frag} {pp:Addr->Prop} {H H':Hp} {p:Addr} {ws:List (List Nat)} (h:B_ K H p ws) (s:bo pp H H'):B_ K H' p ws:=by
 cases h with
 | lst h=>exact .lst (s.seq h)
 | NT aJ h e=>exact .NT aJ (s.get h) e
def Ca (X:Cx) (k:Nat) (x qual:Str) (params:Arguments) (body:Expr) (scope:Scope):Prop:= ∀(f c':Addr) (pm jC:Value),
 bp X.prog X.w X.K X.mg X.base dB k f (PySem.W.kla_fn "<lambda>" qual params body scope [] pm (.ref c') jC) [x] (fun vs H Q E=>H f=some (EO f (PySem.W.kla_obj "<lambda>" qual params body scope [] pm c' jC))/\H c'=some (ER c' qual)/\GC vs H Q E)/\
  Binds X.K (PySem.W.kla_fn "<lambda>" qual params body scope [] pm (.ref c') jC) [x] []
theorem rS {pins:List (Addr×Obj)} {σ:St} {H:Hp} {s:Shared} {Q:VK} {p f c':Addr} {pm jC:Value} {ws:List (List Nat)} (hc:X.calm=true) (hF:Ca X k x qual params body scope) (hr:cF k X.A.in1.in1) (I:Inv X pins σ H s) (h:B_ X.K H p ws) (hn:ws.length<=10000) (hw: ∀w∈ws,w.length<=10000)
  (h1:H f=some (EO f (PySem.W.kla_obj "<lambda>" qual params body scope [] pm c' jC))) (h2:H c'=some (ER c' qual))
  (q: ∀(D:Addr) (H':Hp) (kz:List (List Nat)),ay H H'->H D=none->H' D=some (.lst (kz.map fun l=>V.str (S l)))->kz.Perm ws->(kz.Pairwise fun a b=>jB b a=false)->Q (.ref D) H'):
  wpAny (model X.prog X.w) X.A (call (.builtin "sorted") [.ref p] [(Str.ofString "key", .ref f)]) (EP X pins σ Q) X.xe s:=by
 have gZ:(10000:Nat)<sizeLine:=by decide
 obtain ⟨F,hb⟩:=hF f c' pm jC
 have fin: ∀(s1:Shared) (vs:List Value),Inv X pins σ H s1->(∀a,s1.heap.objs.size<=a->H a=none)->Vals (ws.map fun l=>V.str (S l)) vs->
   wpAny (model X.prog X.w) X.A.in1 (newList vs >>= fun l=>holding [l] (call (.builtin "list.sort") [l] [(Str.ofString "key", .ref f)]) >>= fun _=>(ret l:Sem PySem.Fin)) (fun fin s'=> ∃v,fin= .done (.ret v)/\EP X pins σ Q v s') X.xe s1:=by
  intro s1 vs I1 Bc rv
  have R5:ws.length=vs.length:=by have:=rv.length;rwa [WH]at this
  refine wpAny_bind (wpAny_newList ?_ (by show vs.length<=_;lia))
  have Om:(s1.heap.push (seqObj "list" vs.toArray 0)).get? s1.heap.objs.size=some (seqObj "list" vs.toArray 0):=Xr _ rfl
  show wpAny _ _ _ _ _ { s1 with heap:=s1.heap.push (seqObj "list" vs.toArray 0) }
  refine wpAny_bind (wpAny_holding (wpAny_call_entry_kw slot_list_sort ⟨_,Om,rfl⟩ entry_list_sort ?_ (ksk_l1 _ _)))
  show wpAny (model X.prog X.w) X.A.in1.in1 (Builtin.«list.sort» ⟨[.ref s1.heap.objs.size],[(Str.ofString "key", .ref f)]⟩) _ _ _
  rw[ksk_t1]
  refine zK (s:=s1) (h1:=s1.heap) F hr hb I1 rv hn (fun H' w Q' hm sm hQ=>⟨sm _ _ h1,sm _ _ h2,w,rfl,hw w hm,hQ⟩) fun s' H' kz sm hD pw ord I'=>⟨_,rfl,?_⟩
  have Vb:H s1.heap.objs.size=none:=Bc _ (Rv _)
  exact wpAny_pure ⟨_,rfl, .ref s1.heap.objs.size,_,I',rfl,q _ _ kz (sm.trans fun b o e=>by rw[ao (aA e hD)];exact e) Vb ah pw ord⟩
 refine call_function_entry_kw kind_sorted plain_sorted entry_sorted (ksk_s1 _ _) ?_
 unfold Builtin.«sorted»
 refine wpAny_bind (m:=checkCount "sorted" 1 1 _) (wpAny_pure ?_)
 cases h with
 | lst hq=>
  obtain ⟨aF,rv,pl,hz⟩:=I.list hq
  obtain ⟨o,ho,EB,m,hd⟩:=pl.isList
  refine wpAny_bind (wpAny_collect_seq p (.inl rfl) ho EB hd (fun h1 k1=>?_) (by rw[WI, <-rv.length];exact hz))
  have I1:Inv X pins σ H { s with heap:=h1 }:=I.kept (t':=s.toks) k1
  exact fin { s with heap:=h1 } aF I1 (fun a ha=>I1.bN.fresh ha) (by simpa using rv)
 | NT aJ hd hk=>
  obtain ⟨hz,Qd,vs,kv,o,es,ep,e1,e2,e3,e4,e5,e6⟩:=I.bN p _ hd
  have hlen:vs.length=ws.length:=by
   have a1:=congrArg List.length (xS kv)
   have a2:=congrArg List.length hk
   simp only[WH]at a1 a2
   lia
  refine wpAny_bind (rK (A:=X.A.in1) (show X.A.in1.handled=none from I.ok.hd hc) p vs ep Qd ⟨o,es,e1,e2,e3,e4,e5,e6⟩ (by lia) (fun s' acc Vc hg Sf ho rB=>?_))
  obtain ⟨g1,g2⟩:=rB
  have rv:Vals (ws.map fun l=>V.str (S l)) acc.toList:=by
   have key: ∀(ls:List (List Nat)) (vs:List Value),vs.length=ls.length->(∀(j:Nat) (v:Value),vs[j]? =some v-> ∃l t,ls[j]? =some l/\v=Value.str (S l) t)->Vals (ls.map fun l=>V.str (S l)) vs:=by
    intro ls
    induction ls with
    | nil=>intro vs hl _;have:vs=[]:=Yn hl;subst this;exact .nil
    | cons l ls ih=>
     intro vs hl hv
     cases vs with
     | nil=>simp at hl
     | cons v vs=>
      obtain ⟨l',t,e1,e2⟩:=hv 0 v rfl
      have O4:l=l':=by simpa using e1
      subst O4
      refine .cons ⟨t,e2⟩ (ih vs (by simpa using hl) fun j v' e=>?_)
      obtain ⟨l',t',g1,g2⟩:=hv (j+1) v' (by simpa using e)
      exact ⟨l',t',by simpa using g1,g2⟩
   refine key ws acc.toList (by simpa [<-hlen]using g1) fun j v e=>?_
   obtain ⟨k,x,e1,e2⟩:=g2 j v (by simpa using e)
   have e3:(vs.map (·.1))[j]? =some k:=by rw[XC,e1];rfl
   rw[xS kv,hk,XC]at e3
   cases e4:ws[j]? with
   | none=>rw[e4]at e3;cases e3
   | some l=>
    rw[e4]at e3
    have e5:k=Sum.inr (S l):=(WK e3).symm
    subst e5
    obtain ⟨t,e6⟩:=Value.isStrOf_shape (x:=S l) (v:=v) e2
    exact ⟨l,t,rfl,e6⟩
  have I1:Inv X pins σ H s':=by
   have:=I.kept (t':=s'.toks) Vc
   have es:({ s with heap:=s'.heap,toks:=s'.toks }:Shared)=s':=by
    cases s;cases s'
    simp only at hg Sf ho
    subst hg Sf ho
    rfl
   rwa [es]at this
  exact fin s' acc.toList I1 (fun a ha=>I1.bN.fresh ha) rv
inductive ux (K:PySem.W.Frag) (P:Addr) (pos:Pos) (qual:Str) (vs:List V) (H:Hp) (Q:VK):Prop
 | mk (p:Addr) (ws:List (List Nat)) (_:vs=[.ref p]) (_:B_ K H p ws) (_:ws.length<=10000) (_: ∀w∈ws,w.length<=10000) (_:jQ P pos qual H)
  (_: ∀(D:Addr) (H':Hp) (kz:List (List Nat)),bo (· =P) H H'->jQ P pos qual H'->H D=none->H' D=some (.lst (kz.map fun l=>V.str (S l)))->kz.Perm ws->(kz.Pairwise fun a b=>jB b a=false)->Q (.ref D) H'):ux K P pos qual vs H Q
def Iv (K:PySem.W.Frag) (P:Addr) (pos:Pos) (qual:Str) (t:TA):TE:=fun σ H Q=>t σ H fun vs H1=>ux K P pos qual vs H1 Q
theorem uz {e:Expr} {t:TA} {kp p pos pl:Pos} (K:PySem.W.Frag) (hK:X.K=K) (hc:X.calm=true) (hg:Gl X "sorted") (hm:X.mg "sorted"=none) (hv:bootBuiltins "sorted"=some (.builtin "sorted")) (ha:PA X [e] t)
  (hl:PE X (.Lambda params body scope pl) (MA P qual params body scope pl)) (hF:Ca X k x qual params body scope) (hr:cF k X.A.in1.in1)
  (he:starEach [e] X.env=[(false,eval e X.env)]:=by rfl):PE X (.Call (.Name "sorted" p) [e] [⟨some "key", .Lambda params body scope pl,kp⟩] pos) (Iv K P pl qual t):=by
 subst hK
 intro pins s σ H Q I h
 refine wpAny_Call_Name_kw (fH I hg hm hv ?_)
 refine callWith_kw (cg (ha pos pins s σ H _ I h) fun us s1 ⟨vs,H1,I1,r1,q1⟩=>?_) (by rw[he];rfl) (by rw[he];rfl)
 obtain ⟨a,ws,rfl,hq,hn,hw,hT,q⟩:=q1
 obtain ⟨u,rfl,ru⟩:=vals1 r1
 cases ru
 refine kws_cons (cg (hl pins s1 σ H1 (fun v H2=> ∃f c' pm jC,v= .ref f/\bo (· =P) H1 H2/\jQ P pl qual H2/\H2 f=some (EO f (PySem.W.kla_obj "<lambda>" qual params body scope [] pm c' jC))/\H2 c'=some (ER c' qual)) I1 ⟨hT,fun f c' pm jC H' a1 _ a3 a4 a5=>⟨f,c',pm,jC,rfl,a1,a3,a4,a5⟩⟩) fun v s2 Vd=>kws_nil ?_)
 obtain ⟨_,H2,I2,r2,f,c',pm,jC,rfl,sT,HU,hf,AG⟩:=Vd
 cases r2
 refine rS hc hF hr I2 (hq.MB sT) hn hw hf AG fun D H' kz sm hD Ve pw ord=>q D H' kz (sT.trans (.of sm)) (HU.same sm) (sT.free hD) Ve pw ord
end
def GD (H:Hp):Prop:= ∀b o,H b=some o->(∃ob xs,o= .tJ ob (.lst xs))\/o= .ma #[]
theorem zM {P:Program} {w:World} {K:PySem.W.Frag} {mg mb:Str->Option Value} {CX:y_} {k:Nat} {fa a:Addr} {fd:FuncData} {x:Str} {sp:Sp} {s₁:Shared} {vs:List Value} {ns:List Int} {ts:List Addr}
  (KX:K.In s₁.heap) (Gg:s₁.heap.Ns mainGlobals mg) (hb:s₁.heap.Ns builtinsNs mb) (Vf: ∀x:Str,x≠"__name__"->mb x=bootBuiltins x) (Qe:s₁.heap.NoLimit) (hg:s₁.gens= #[])
  (hT: ∀Q∈ts,s₁.heap.get? Q=some (PySem.W.tabObj #[])/\isCodeTable s₁.heap Q) (MC:PySem.W.noTabs K=true) (NR:uv s₁.heap mg)
  (ha:s₁.heap.get? a=some { cls:= .type "list",data:= .seq vs.toArray }) (hi:IntsAre vs ns) (hl:ns.length<=sizeLine) (hr:cF k callerA)
  (F: ∀base:Heap,K.In base->base.Ns mainGlobals mg->uv base mg->bp P w K mg base CX k fa fd [x] sp) (MD: ∀(s:Shared) (u:Value),BindsTo s fd ⟨[u],[]⟩ [(x,u)])
  (tS: ∀H:Hp,GD H->(∀Q∈ts,H Q=some (.ma #[]))->a_ K H a (ns.map V.int)->sp [.ref a] H (fun v _=>v= .bl true) fun _ _ _=>False)
  (Qf: ∀H e s',CX [] H s₁ (fun _ _ _=>False) e s'->False):
  codeAny (model P w) callerA (.call (.ref fa) ⟨[.ref a],[]⟩) (fun r s'=>r= .ok (.ret (.bool true))/\OldK s₁.heap s'.heap/\s'.os=s₁.os/\AllBare s'.gens) s₁:=by
 have rv:=qe hi
 have Qg:=hi.length
 have Qh: ∀{b:Addr} {o:Obj},K.lookup b=some o->o≠PySem.W.tabObj #[]:=fun {b o} e z=>by
  have h2:=Yg.mp MC (b,o) (PySem.W.mem_of_lookupK e)
  subst z
  exact absurd (show false=true from h2) Xm
 have core: ∀H:Hp,(∀b o,H b=some o->(b∈ts/\o= .ma #[])\/(b=a/\ ∃ob xs,o= .tJ ob (.lst xs)))->(∀Q∈ts,H Q=some (.ma #[]))->a_ K H a (ns.map V.int)->jh P w H s₁.heap->(H a≠none->K.lookup a=none)->
   codeAny (model P w) callerA (.call (.ref fa) ⟨[.ref a],[]⟩) (fun r s'=>r= .ok (.ret (.bool true))/\OldK s₁.heap s'.heap/\s'.os=s₁.os/\AllBare s'.gens) s₁:=by
  intro H hA Qi hS bN hK
  have rT: ∀{b:Addr} {o:Obj},s₁.heap.get? b=some o->H b=none->(pk s₁.heap H).get? b=some o:=fun e n=>AM e n
  have x3: ∀{b:Addr} {o:Obj},s₁.heap.get? b=some o->o≠PySem.W.tabObj #[]->(b=a->False)->H b=none:=fun {b o} e n na=>by
   cases q:H b with
   | none=>rfl
   | some u=>
    rcases hA b u q with ⟨hm,_⟩ | ⟨z,_⟩
    ·have:=(hT b hm).1
     rw[e]at this
     exact absurd (WK this) n
    ·exact (na z).elim
  have Ll: ∀{b:Addr} {o:Obj} {es:Array DictEntry} {ep:Nat},s₁.heap.get? b=some o->o.data= .dict es ep->H b=none:=fun {b o es ep} e d=>by
   refine x3 e (fun z=>by rw[z]at d;cases d) fun z=>?_
   rw[z,ha]at e
   cases e
   have d':Data.seq vs.toArray _=Data.dict es ep:=d
   cases d'
  have NU: ∀{b:Addr} {m:Str->Option Value},s₁.heap.Ns b m->(pk s₁.heap H).Ns b m:=fun {b m} ⟨o,es,ep,e,d,r⟩=>⟨o,es,ep,rT e (Ll e d),d,r⟩
  have Sg:K.In (pk s₁.heap H):=fun b o e=>rT (KX b o e) (by
   cases q:H b with
   | none=>rfl
   | some u=>
    rcases hA b u q with ⟨hm,_⟩ | ⟨z,_⟩
    ·have:=(hT b hm).1
     rw[KX b o e]at this
     exact absurd (WK this) (Qh e)
    ·rw[z]at e q
     rw[hK (by rw[q];simp)]at e;cases e)
  have Vg:uv (pk s₁.heap H) mg:=by
   obtain ⟨bm,ob,b1,b2,b3,b4,b5,b6⟩:=NR
   refine ⟨bm,ob,b1,b2,rT b3 (x3 b3 (fun z=>by rw[z]at b4;cases b4) fun z=>?_),b4,b5,b6⟩
   rw[z,ha]at b3
   cases b3
   cases b6
  have hM:Mod K mg (pk s₁.heap H):=⟨Sg,NU Gg,⟨mb,NU hb,Vf⟩,let ⟨mc,h1,h2⟩:=Qe;⟨mc,NU h1,h2⟩⟩
  have e0:vN P w K mg (pk s₁.heap H) callerA [] s₁ H:=⟨rfl,hM,fun b o e=>DX e,Nat.le_of_eq (yV _ _),trivial,fun b hb=>absurd (show b∈([]:List Addr) from hb) (by simp),bN, .of_eq hg⟩
  have hO:GD H:=fun b o e=>(hA b o e).elim (fun z=> .inr z.2) fun z=> .inl z.2
  refine codeAny_mono ((F _ Sg (NU Gg) Vg).run callerA [] s₁ H ⟨[.ref a],[]⟩ [.ref a] [.ref a] _ _ hr e0 (MD s₁ (.ref a)) (.cons rfl .nil) (tS H hO Qi hS)) fun r s' h=>?_
  cases r with
  | error e=>exact (Qf H e s' h).elim
  | ok fl=>
   cases fl with
   | next=>exact False.elim h
   | brk=>exact False.elim h
   | cont=>exact False.elim h
   | ret u=>
    obtain ⟨v,H',os,bare,un,ME,r',q⟩:=h
    have q':v= .bl true:=q
    subst q'
    obtain rfl:u=Value.bool true:=r'
    refine ⟨rfl,⟨fun b o e=>?_,fun b o e=>un.there b o e (by simp)⟩,os,bare⟩
    cases q:H b with
    | none=>exact .inl (un.keep b o e q (by intro z;exact absurd (show b∈([]:List Addr) from z) (by simp)) (by simp))
    | some u=>
     rcases hA b u q with ⟨hm,rfl⟩ | ⟨_,ob,xs,rfl⟩
     ·obtain ⟨t1,t2⟩:=hT b hm
      rw[e]at t1
      cases t1
      obtain ⟨more,z2⟩:=un.pj b _ q
      exact .inr (.inl ⟨t2,rfl, #[],more,rfl,ME b _ z2⟩)
     ·have z2:=un.mP b ob _ q
      obtain ⟨e1,_⟩:=bN b _ q
      obtain ⟨e2,_⟩:=ME b _ z2
      rw[e]at e1;cases e1
      exact .inl e2
 have aT:a∉ts:=fun hm=>by
  have:=(hT a hm).1
  rw[ha]at this
  cases this
 have GF: ∀(H:Hp) (b:Addr),b∈ts->bI P w H s₁.heap b (.ma #[]):=fun H b hm=>(hT b hm).1
 cases hk:K.lookup a with
 | some o=>
  have e:=KX a o hk
  rw[ha]at e
  cases e
  refine core (fun b=>if b∈ts then some (.ma #[]) else none) (fun b o e=>?_) (fun Q hm=>if_pos hm) (.inr ⟨_,vs.toArray,_,hk,rfl,rfl,rfl,by rw[WI,Qg];exact hl,by simpa using rv⟩) (fun b u z=>?_) fun z=>absurd (if_neg aT) z
  ·by_cases hm:b∈ts
   ·have e':=(if_pos hm).symm.trans e
    cases e'
    exact .inl ⟨hm,rfl⟩
   ·have e':=(if_neg hm).symm.trans e
    cases e'
  ·by_cases hm:b∈ts
   ·have e':=(if_pos hm).symm.trans z
    cases e'
    exact GF _ b hm
   ·have e':=(if_neg hm).symm.trans z
    cases e'
 | none=>
  have Sh: ∀b o,(if b∈ts then some (HO.ma #[]) else if b=a then some (HO.tJ { cls:= .type "list",data:= .seq vs.toArray } (.lst (ns.map V.int))) else none)=some o->(b∈ts/\o= .ma #[])\/(b=a/\o= .tJ { cls:= .type "list",data:= .seq vs.toArray } (.lst (ns.map V.int))):=fun b o e=>by
   by_cases hm:b∈ts
   ·rw[if_pos hm]at e
    cases e
    exact .inl ⟨hm,rfl⟩
   ·rw[if_neg hm]at e
    by_cases hb:b=a
    ·rw[if_pos hb]at e
     cases e
     exact .inr ⟨hb,rfl⟩
    ·rw[if_neg hb]at e
     cases e
  refine core (fun b=>if b∈ts then some (.ma #[]) else if b=a then some (.tJ { cls:= .type "list",data:= .seq vs.toArray } (.lst (ns.map V.int))) else none) (fun b o e=>(Sh b o e).imp id fun z=>⟨z.1,_,_,z.2⟩) (fun Q hm=>if_pos hm)
   (.inl (.inr ⟨{ cls:= .type "list",data:= .seq vs.toArray },by show (if a∈ts then _ else if a=a then _ else _)=_;rw[if_neg aT,if_pos rfl]⟩)) (fun b u z=>?_) fun _=>hk
  rcases Sh b u z with ⟨hm,rfl⟩ | ⟨rfl,rfl⟩
  ·exact GF _ b hm
  ·exact ⟨ha,by rw[WH];exact hl,vs,_,rv,ha⟩
theorem Cb {h:Heap} {c P:Addr} (x:PySem.W.CodeHd h c P):isCodeTable h P:=let ⟨o,vs,_,_,_,_,_,_,_,e1,e2,e3,e4,_⟩:=x;⟨c,o,vs,e1,e2,e3,e4⟩
def Tab (K:PySem.W.Frag) (x:Str) (pos:Pos) (q:Str) (H:Hp):Prop:= ∀c P,PySem.W.tabIn K x=some (c,P)->jQ P pos q H
theorem Tab.same {K:PySem.W.Frag} {x:Str} {pos:Pos} {q:Str} {H H':Hp} (h:Tab K x pos q H) (s:ay H H'):Tab K x pos q H':=fun c P e=>(h c P e).same s
def TabAt (K:PySem.W.Frag) (x:Str) (P:Addr):Prop:= ∃c,PySem.W.tabIn K x=some (c,P)
theorem TabAt.eq {K:PySem.W.Frag} {x:Str} {P Q:Addr} (h:TabAt K x P) (g:TabAt K x Q):P=Q:=by
 obtain ⟨c,e⟩:=h
 obtain ⟨d,f⟩:=g
 rw[e]at f
 cases f
 rfl
theorem Tab.at_ {K:PySem.W.Frag} {x:Str} {pos:Pos} {q:Str} {H:Hp} {P:Addr} (h:Tab K x pos q H) (t:TabAt K x P):jQ P pos q H:=let ⟨c,e⟩:=t;h c P e
theorem Tab.mk {K:PySem.W.Frag} {x:Str} {pos:Pos} {q:Str} {H:Hp} {P:Addr} (t:TabAt K x P) (h:jQ P pos q H):Tab K x pos q H:=fun c Q e=>by rw[<-t.eq ⟨c,e⟩];exact h
theorem Tab.off {K:PySem.W.Frag} {x z:Str} {pos:Pos} {q:Str} {H H':Hp} {P Q:Addr} (h:Tab K x pos q H) (tx:TabAt K x P) (tz:TabAt K z Q) (n:P≠Q) (s:bo (TabAt K z) H H'):Tab K x pos q H':= .mk tx ((h.at_ tx).off s fun g=>n (g.eq tz))
noncomputable def Cc (K:PySem.W.Frag) (P:Addr):Bool:=K.any fun p=>PySem.W.codeHdIn K p.1 P
noncomputable def tabOf (K:PySem.W.Frag) (ts:List Addr) (x:Str):Bool:=match PySem.W.tabIn K x with
 | some (_,P)=>ts.contains P
 | none=>true
class x4 (base:Heap) (mg:Str->Option Value):Prop where
 bm:uv base mg
theorem Cd {l:PySem.W.OpenLaw} {n k:Nat} {q:Program} {loose:List Str} {XP:(Str->Option Value)->Heap->Prop} {YP:World->Heap->Prop} {d:DefRec} {K:Params->PySem.W.Frag} {CX:y_} {sp:PySem.W.Frag->Sp} {x:Str} {ts:List Addr} {xs:List Str}
  (hn:l.most=some n) (Ii:n<=sizeLine) (Lx:d.params.defaults=[]) (hr:cF k callerA)
  (hY: ∀(w:World) (h:Heap),YP w h->(K w.params).In h/\ ∀r∈ts,h.get? r=some (PySem.W.tabObj #[])) (MC: ∀w:World,PySem.W.noTabs (K w.params)=true) (hC: ∀w:World,ts.all (Cc (K w.params))=true) (hX: ∀w:World,xs.all (tabOf (K w.params) ts)=true)
  (F: ∀(w:World) (mg:Str->Option Value) (fa:Addr) (h:Heap),(K w.params).In h->h.Ns mainGlobals mg->mg d.name=some (.ref fa)->
   ∃fd:FuncData,(∀(s:Shared) (u:Value),BindsTo s fd ⟨[u],[]⟩ [(x,u)])/\
    ∀base:Heap,(K w.params).In base->base.Ns mainGlobals mg->uv base mg->bp l.prog w (K w.params) mg base CX k fa fd [x] (sp (K w.params)))
  (tS: ∀(K:PySem.W.Frag) (H:Hp) (a:Addr) (ns:List Int),ns.length<=n->(∀x∈xs, ∀pos q,Tab K x pos q H)->a_ K H a (ns.map V.int)->sp K [.ref a] H (fun v _=>v= .bl true) fun _ _ _=>False)
  (Qf: ∀(H:Hp) (s:Shared) (e:Value) (s':Shared),CX [] H s (fun _ _ _=>False) e s'->False):
  PySem.W.WalkO q loose XP YP l.row.toRowW d [] (fun f vs=>PySem.call f vs):=by
 refine Rq.t5 hn Lx fun w s₀ s₁ mg mb fa o pm cd doc a vs ns G Y ho hd qZ hmg Hx hints hlen hg=>?_
 obtain ⟨KX,hT⟩:=hY w _ Y
 obtain ⟨fd,hb,hF⟩:=F w mg fa _ KX G.T.g hmg
 refine zM (ts:=ts) KX G.T.g G.T.b G.T.builtins G.T.nolimit hg (fun Q hm=>⟨hT Q hm,?_⟩) (MC w) ?_ Hx hints (XG hlen Ii) hr hF hb (fun H hO Qi hS=>tS _ H a ns hlen (fun x hx pos q c P e=> .inl (Qi P ?_)) hS) fun H e s'=>Qf H s₁ e s'
 ·have h1:=Yg.mp (hC w) Q hm
  obtain ⟨p,_,h2⟩:=List.any_eq_true.mp h1
  exact Cb (PySem.W.codeHd_of_K KX h2)
 ·obtain ⟨bm,ob,b1,b2,b3,b4,b5,b6⟩:=G.T.bmain
  exact ⟨bm,ob,b1,b2,b3,b4,b5,b6⟩
 ·have h1:=Yg.mp (hX w) x hx
  unfold tabOf at h1
  rw[e]at h1
  simpa using h1
structure zN (K:PySem.W.Frag) (x qual:Str) (st:Stmt) (f:Addr) (fd:FuncData) (P:Addr):Prop where
 ex: ∃(oc:Value) (od:Option Addr) (kV doc pm:Value) (an:Option Addr) (c:Addr) (ct:Value) (tF:Array (Option Value)),
  fd=PySem.W.fnOf x qual (cQ st) (cA st) (aq st) .none kV doc pm an (.ref c) ct/\K.lookup f=some ⟨oc,od, .func fd,tF⟩/\PySem.W.codeIn K (.ref c) qual=true/\PySem.W.codeHdIn K c P=true
 kp:PySem.W.keepIn K (.ref f)=true
section
variable {P:Program} {w:World} {K:PySem.W.Frag} {mg:Str->Option Value} {base:Heap}
theorem zN.ok {x qual:Str} {st:Stmt} {f:Addr} {fd:FuncData} {T:Addr} {N ps:List Str} {k:Nat} {sp:Sp} (F:zN K x qual st f fd T) (S:aB N ps (aq st)) (len: ∀vs H Q E,sp vs H Q E->vs.length=ps.length)
  (mV: ∀(c:Addr) (A:Around) (outer:List Env) (s:Shared) (H:Hp) (vs:List V) (Q:VK) (E:XK),PySem.W.codeHdIn K c T=true->cF k (A.deeper (envOfC qual (aq st) s.heap.objs.size f (.ref c)))->sp vs H Q E->
   ∃t,vv (rj dB P w K mg base N qual (aq st) f (.ref c) A outer s H E).DN (cA st) t/\t { nx:=fun _ H'=>Q .eK H',rt:=Q } (start N vs) H):bp P w K mg base dB (k+1) f fd ps sp:=by
 obtain ⟨oc,od,kV,doc,pm,an,c,ct,tF,rfl,lk,qZ,hh⟩:=F.ex
 refine Gb lk qZ S len fun A outer s H vs Q E hr tS=>?_
 obtain ⟨t,h,q⟩:=mV c A outer s H vs Q E hh hr tS
 exact ⟨t,h.DN,q⟩
theorem ES {x qual:Str} {st:Stmt} {f c T:Addr} {oc:Value} {od an:Option Addr} {tF:Array (Option Value)} {kV doc pm ct:Value} (l:K.lookup f=some ⟨oc,od, .func (PySem.W.fnOf x qual (cQ st) (cA st) (aq st) .none kV doc pm an (.ref c) ct),tF⟩)
  (cc:PySem.W.codeIn K (.ref c) qual=true) (k:PySem.W.keepIn K (.ref f)=true) (h:PySem.W.codeHdIn K c T=true):zN K x qual st f (PySem.W.fnOf x qual (cQ st) (cA st) (aq st) .none kV doc pm an (.ref c) ct) T:=⟨⟨oc,od,kV,doc,pm,an,c,ct,tF,rfl,l,cc,h⟩,k⟩
end
theorem uA {X:Cx} {x:Str} {qual:Str} {scope:Scope} {params:Arguments} {p1 p2 p3 p4 pos:Pos} {cx:Nat} (hz:X.mg "len"=none) (S:aB [x] [x] scope) (hg:scope.names.lookup ("len":Str)=some .globalImplicit) (hl:scope.names.lookup x=some .local) (hd:(x==("__debug__":Str))=false) (hd2:(x==("__classdict__":Str))=false)
  (hp: ∀(pm cd jC:Value) (us:List Value),us.length=1->bindArgs (PySem.W.kla_fn "<lambda>" qual params (.Tuple [.Call (.Name "len" p1) [.Name x p2] [] p3, .Name x p4] cx pos) scope [] pm cd jC) ⟨us,[]⟩=pure ([x].zip us)):
  Ca X 2 x qual params (.Tuple [.Call (.Name "len" p1) [.Name x p2] [] p3, .Name x p4] cx pos) scope:=fun f c' pm jC=>
 ⟨Iu (N:=[x]) S zL fun A outer s H vs Q E hr h=>⟨_,kF (ai (aH aQ hg hz boot_len (ai (vH (i:=0) rfl (.inl hl) hd hd2) eZ)) (ai (vH (i:=0) rfl (.inl hl) hd hd2) eZ)),by
  obtain ⟨w,rfl,hw,q⟩:=h
  have gZ:(10000:Nat)<sizeLine:=by decide
  exact ⟨_,rfl,⟨w,rfl,by lia,_,rfl,(by decide:2<=sizeLine),fun p e=>q p _ (fun b o z=>by rw[ao (aA z e)];exact z) ah⟩⟩⟩, .all (hp pm _ jC)⟩
end L2
namespace My
open PySem PySem.Spec PyProof.Rows L2 XL
noncomputable def iJ:List Str:=["by_size","_law_full"]
noncomputable abbrev wu:Pos:=⟨41,29,41,59⟩
noncomputable abbrev wx:Str:=(("by_size":Str)++".<locals>.")++"<lambda>"
abbrev cb (K:PySem.W.Frag) (H:Hp):Prop:=Tab K "by_size" wu wx H
noncomputable abbrev Ce:Pos:=⟨215,34,215,79⟩
noncomputable abbrev Cf:Str:=(("_law_full":Str)++".<locals>.")++"<lambda>"
abbrev fc (K:PySem.W.Frag) (H:Hp):Prop:=Tab K "_law_full" Ce Cf H
noncomputable def aO:List Nat:=[97,98,99,100,101,102,103,104,105,106,107,108,109,110,111,112,113,114,115,116,117,118,119,120,121,122]
noncomputable def kU:List Nat:=[65,66,67,68,69,70,71,72,73,74,75,76,77,78,79,80,81,82,83,84,85,86,87,88,89,90]
def Lt (c:Nat):Prop:=c∈aO\/c∈kU
noncomputable instance (c:Nat):Decidable (Lt c):=by unfold Lt;infer_instance
noncomputable def ax (c:Nat):Nat:=if bW c=true then PyProof.Rows.up1 c else PyProof.Rows.lo1 c
theorem rV: ∀c∈aO++kU,c<128/\ax c∈aO++kU/\ax (ax c)=c/\ax c≠c:=by decide+kernel
theorem Lt.mem {c:Nat} (h:Lt c):c∈aO++kU:=T3.mpr h
theorem Lt.lt {c:Nat} (h:Lt c):c<128:=(rV c h.mem).1
theorem Lt.ax {c:Nat} (h:Lt c):Lt (ax c):=T3.mp (rV c h.mem).2.1
theorem aD {c:Nat} (h:Lt c):ax (ax c)=c:=(rV c h.mem).2.2.1
theorem kW {c:Nat} (h:Lt c):ax c≠c:=(rV c h.mem).2.2.2
theorem cB {a b:Nat} (ha:Lt a) (hb:Lt b) (e:My.ax a=My.ax b):a=b:=by rw[<-aD ha,e,aD hb]
theorem uB: ∀c∈aO,mC kU ((aO.idxOf c:Nat):Int)=some (ax c):=by decide+kernel
theorem zO: ∀c∈kU,mC aO ((kU.idxOf c:Nat):Int)=some (ax c):=by decide+kernel
noncomputable def bD (l:List Nat):List Nat:=(l.map ax).reverse
def b9 (b:Addr) (H H':Hp):Prop:= ∀c o,H c=some o->c≠b->H' c=some o
theorem b9.trans {b:Addr} {H H1 H2:Hp} (x:b9 b H H1) (y:b9 b H1 H2):b9 b H H2:=fun c o h n=>y c o (x c o h n) n
theorem b9.of {b:Addr} {H H':Hp} (x:ay H H'):b9 b H H':=fun c o h _=>x c o h
theorem b9.upd (b:Addr) (H:Hp) (o:HO):b9 b H (upd H b o):=fun c o h n=>by rw[ao n];exact h
theorem ay.upd {H:Hp} {p:Addr} {o:HO} (h:H p=none):ay H (L2.upd H p o):=fun c u e=>by rw[ao (aA e h)];exact e
def fe (H:Hp) (b:Addr):Prop:= ∃x y:Int,H b=some (.lst [.int x, .int y])
theorem fe.same {H H':Hp} {b:Addr} (h:fe H b) (s:ay H H'):fe H' b:=let ⟨x,y,e⟩:=h;⟨x,y,s _ _ e⟩
structure Yd (y:List Nat):Prop where
 nd:y.Nodup
 lt: ∀c∈y,Lt c
 cl: ∀c∈y,ax c∈y
def lO (_:PySem.W.Frag):Sp:=fun vs H Q _=> ∃c,vs=[.str (S [c])]/\c<128/\Q (.str (S [ax c])) H
theorem rW {K:PySem.W.Frag} {vs:List V} {H:Hp} {Q:VK} {E:XK} (h:lO K vs H Q E):vs.length=1:=by obtain ⟨c,rfl,_⟩:=h;rfl
def qx (_:PySem.W.Frag):Sp:=fun vs H Q _=> ∃c,vs=[.str (S [c])]/\Lt c/\Q (.str (S [ax c])) H
theorem wz {K:PySem.W.Frag} {vs:List V} {H:Hp} {Q:VK} {E:XK} (h:qx K vs H Q E):vs.length=1:=by obtain ⟨c,rfl,_⟩:=h;rfl
def qy (_:PySem.W.Frag):Sp:=fun vs H Q _=> ∃l:List Nat,vs=[.str (S l)]/\(∀c∈l,c<128)/\l.length<=1000/\ ∀H',ay H H'->Q (.str (S (bD l))) H'
theorem wA {K:PySem.W.Frag} {vs:List V} {H:Hp} {Q:VK} {E:XK} (h:qy K vs H Q E):vs.length=1:=by obtain ⟨c,rfl,_⟩:=h;rfl
inductive qz (K:PySem.W.Frag) (vs:List V) (H:Hp) (Q:VK) (gR:XK):Prop
 | mk (a:Addr) (ns:List Int) (k:Nat) (_:vs=[.ref a, .int k]) (_:a_ K H a (ns.map V.int)) (_:k<=1000) (_: ∀b H',H b=none->fe H' b->ay H H'->Q (.ref b) H'):qz K vs H Q gR
def x5 (K:PySem.W.Frag):Sp:=qz K
theorem Cg {K:PySem.W.Frag} {vs:List V} {H:Hp} {Q:VK} {E:XK} (h:x5 K vs H Q E):vs.length=2:=by obtain ⟨a,ns,k,rfl,_⟩:=h;rfl
inductive nJ (p_:PySem.W.Frag) (vs:List V) (H:Hp) (Q:VK) (gR:XK):Prop
 | mk (b:Addr) (m:Int) (_:vs=[.ref b, .int m]) (_:fe H b) (_:1<=m) (_:m<1000000) (_: ∀(r:Nat) H',(r:Int)<m->fe H' b->b9 b H H'->Q (.int r) H'):nJ p_ vs H Q gR
def uC (p_:PySem.W.Frag):Sp:=nJ p_
theorem zP {K:PySem.W.Frag} {vs:List V} {H:Hp} {Q:VK} {E:XK} (h:uC K vs H Q E):vs.length=2:=by obtain ⟨b,m,rfl,_⟩:=h;rfl
inductive nK (p_:PySem.W.Frag) (vs:List V) (H:Hp) (Q:VK) (gR:XK):Prop
 | mk (b:Addr) (h_ top:Nat) (_:vs=[.ref b, .int h_, .int top]) (_:fe H b) (_:1<=h_) (_:h_<=top) (_:top<=8) (_: ∀(y:List Nat) H',Yd y->2*h_<=y.length->y.length<=2*top->fe H' b->b9 b H H'->Q (.str (S y)) H'):nK p_ vs H Q gR
def uD (p_:PySem.W.Frag):Sp:=nK p_
theorem zQ {K:PySem.W.Frag} {vs:List V} {H:Hp} {Q:VK} {E:XK} (h:uD K vs H Q E):vs.length=3:=by obtain ⟨b,m,t,rfl,_⟩:=h;rfl
theorem nL: ∀l:List Nat,(l.map fun c=>[c]).flatten=l
 | []=>rfl
 | c::l=>by rw[XM,X7,nL l];rfl
theorem wB: ∀l:List Nat,((l.map fun c=>[c]).map List.length).sum=l.length
 | []=>rfl
 | c::l=>by
  rw[XM,XM,List.sum_cons,wB l]
  show 1+l.length=l.length+1
  lia
theorem cU (l:List Nat):bw l=(l.map fun c=>[c]).map fun l=>V.str (S l):=by unfold bw;rw[Zm];rfl
theorem x6 (l:List Nat):(bw l).reverse=bw l.reverse:=by unfold bw;rw[ZL]
theorem cI (l:List Nat) (c:Nat):bw l++[V.str (S [c])]=bw (l++[c]):=by unfold bw;rw[XJ];rfl
theorem take_snoc {α:Type} {l:List α} {i:Nat} {x:α} (h:l[i]? =some x):l.take i++[x]=l.take (i+1):=by rw[Zl,h];rfl
theorem x8 {ns:List Int} {i:Nat} (h:i<ns.length): ∃z,(ns.map V.int)[i]? =some (V.int z):=⟨ns[i],by rw[XC,Hz h];rfl⟩
theorem eP {σ:L2.St} {H:Hp} {A B:Hp->Prop} (h:A H):LB σ H fun b H3=>if b=true then A H3 else B H3:=by
 show (if true=true then A H else B H)
 rw[if_pos rfl]
 exact h
theorem wC (b:Bool) (z:Int): ∃y,mC [V.int 0,V.int z] (if b=true then 1 else 0)=some (V.int y):=by
 cases b
 ·exact ⟨0,rfl⟩
 ·exact ⟨z,rfl⟩
theorem jm {α:Type}: ∀{l:List α} {i:Nat} {x:α},l[i]? =some x->(x::l.eraseIdx i).Perm l
 | [],i,x,h=>by simp at h
 | a::l,0,x,h=>by
  have:a=x:=by simpa using h
  subst this
  exact ZC _
 | a::l,i+1,x,h=>by
  have ih:=jm (l:=l) (i:=i) (x:=x) (by simpa using h)
  rw[Zi]
  exact (List.Perm.swap a x _).trans (List.Perm.cons a ih)
theorem qA (l:List Nat) (i:Nat):(bw l).eraseIdx i=bw (l.eraseIdx i):=by
 unfold bw
 induction l generalizing i with
 | nil=>rfl
 | cons a l ih=>
  cases i with
  | zero=>rfl
  | succ i=>rw[XM,Zi,ih,Zi,XM]
theorem Ci {l:List Nat} {i:Nat} (h:i<l.length):(bw l)[i]? =some (V.str (S [l[i]])):=by unfold bw;rw[XC,Hz h];rfl
theorem ET (a b:List Nat):bw a++bw b=bw (a++b):=by unfold bw;rw[XJ]
theorem zR: ∀c∈aO,ax c∉aO:=by decide+kernel
theorem zS:aO.Nodup:=by decide+kernel
theorem Yd.perm {a b:List Nat} (h:Yd a) (p:a.Perm b):Yd b:=
 ⟨p.nodup_iff.mp h.nd,fun c hc=>h.lt c (p.mem_iff.mpr hc),fun c hc=>p.mem_iff.mp (h.cl c (p.mem_iff.mpr hc))⟩
structure Iw (i:Nat) (L E:List Nat):Prop where
 yd:Yd E
 nd:L.Nodup
 sm: ∀c∈L,c∈aO
 ap: ∀c∈L,c∉E
 ll:L.length=26 - i
 el:E.length=2*i
theorem Iw.start:Iw 0 aO []:=⟨⟨Yk,fun _ h=>absurd h Xl,fun _ h=>absurd h Xl⟩,zS,fun _ h=>h,fun _ _ h=>absurd h Xl,rfl,rfl⟩
theorem Iw.turn {i r:Nat} {L E:List Nat} (w:Iw i L E) (hi:i<26) (hr:r<L.length):Iw (i+1) (L.eraseIdx r) (E++[L[r],ax L[r]]):=by
 have hp:=jm (l:=L) (Hz hr)
 have hm:L[r]∈L:=YA hr
 have hs:=w.sm _ hm
 have hl:Lt L[r]:= .inl hs
 have MF:=hp.nodup_iff.mpr w.nd
 have sub: ∀c∈L.eraseIdx r,c∈L:=fun c hc=>hp.mem_iff.mp (NA _ hc)
 have Si:=w.ap _ hm
 have Vh:ax L[r]∉E:=fun z=>Si (by have:=w.yd.cl _ z;rwa [aD hl]at this)
 refine ⟨⟨?_,fun c hc=>?_,fun c hc=>?_⟩,(XD.mp MF).2,fun c hc=>w.sm c (sub c hc),fun c hc hE=>?_,?_,?_⟩
 ·rw[XS]
  refine ⟨w.yd.nd,?_,fun a ha b hb z=>?_⟩
  ·rw[XD]
   refine ⟨fun z=>(kW hl) (Hy.mp z).symm,XD.mpr ⟨Xl,Yk⟩⟩
  ·subst z
   rcases T4.mp hb with z | z
   ·exact Si (z▸ha)
   ·exact Vh (Hy.mp z▸ha)
 ·rcases T3.mp hc with z | z
  ·exact w.yd.lt c z
  ·rcases T4.mp z with z | z
   ·rw[z];exact hl
   ·rw[Hy.mp z];exact hl.ax
 ·rcases T3.mp hc with z | z
  ·exact Xx _ (w.yd.cl c z)
  ·refine T6 _ ?_
   rcases T4.mp z with z | z
   ·rw[z];exact NA _ (Hy.mpr rfl)
   ·rw[Hy.mp z,aD hl];exact NB
 ·rcases T3.mp hE with z | z
  ·exact w.ap c (sub c hc) z
  ·rcases T4.mp z with z | z
   ·exact (XD.mp MF).1 (z▸hc)
   ·have e:c=ax L[r]:=Hy.mp z
    exact zR _ hs (e▸w.sm c (sub c hc))
 ·have:=hp.length_eq
  rw[Xn,w.ll]at this
  lia
 ·rw[Jy,w.el]
  show 2*i+2=_
  lia
theorem b9.nM {b p:Addr} {H H':Hp} {o:HO} (h:b9 b H H') (n:H p=none):b9 b H (L2.upd H' p o):=fun c u e z=>by rw[ao (aA e n)];exact h c u e z
theorem fe.nM {b p:Addr} {H:Hp} {o:HO} (h:fe H b) (n:p≠b):fe (L2.upd H p o) b:=let ⟨x,y,e⟩:=h;⟨x,y,by rw[ao (Ne.symm n)];exact e⟩
theorem b9.none {b p:Addr} {H H':Hp} (h:b9 b H H') (n:H' p=none) (z:p≠b):H p=none:=by
 cases q:H p with
 | none=>rfl
 | some o=>rw[h p o q z]at n;cases n
theorem fe.ne {b p:Addr} {H:Hp} (h:fe H b) (n:H p=none):p≠b:=fun z=>by obtain ⟨x,y,e⟩:=h;rw[<-z,n]at e;cases e
theorem dE {c:Bool} {A B:Prop} (h:c=false) (hB:B):if c=true then A else B:=by rw[h];exact Eh hB
theorem iZ {c:Bool} {A B:Prop} (h:c=true) (hA:A):if c=true then A else B:=by rw[h];exact Lz hA
theorem cC (l:List Nat):(bD l).length=l.length:=by unfold bD;rw[Xq,WH]
theorem iK (a b:List Nat):bD (a++b)=bD b++bD a:=by unfold bD;rw[XJ,Yw]
theorem kX {l:List Nat} (h: ∀c∈l,Lt c): ∀c∈bD l,Lt c:=fun c hc=>by
 obtain ⟨d,hd,rfl⟩:=XH.mp (XQ.mp hc)
 exact (h d hd).ax
theorem x9 {l:List Nat} (h: ∀c∈l,Lt c):bD (bD l)=l:=by
 unfold bD
 rw[ZL,Zt,Zm]
 have: ∀c∈l,(ax ∘ ax) c=c:=fun c hc=>aD (h c hc)
 calc l.map (ax ∘ ax)=l.map id:=Zv this
  _=l:=Qau l
theorem uE {l:List Nat} (h: ∀c∈l,Lt c): ∀c∈l,c<128:=fun c hc=>(h c hc).lt
theorem ff (a:List Nat):a.take (bw a).length=a:=by rw[aN];exact WJ (Rv _)
theorem EU (n:Nat):(List.replicate n true).all id=true:=by rw[Yg];intro b hb;rw[List.eq_of_mem_replicate hb];rfl
theorem Cj (n:Nat):(List.replicate n true).map V.bl++[V.bl true]=(List.replicate (n+1) true).map V.bl:=by rw[List.replicate_succ',XJ];rfl
theorem b9.same {b:Addr} {H H2 H3:Hp} (n:H b=Option.none) (s:ay H H2) (t:b9 b H2 H3):ay H H3:=fun c o e=>t c o (s c o e) (aA e n)
noncomputable def b0 (ws:List (List Nat)):List V:=ws.map fun l=>V.str (S l)
theorem bO (ws:List (List Nat)):(b0 ws).length=ws.length:=by unfold b0;rw[WH]
theorem fg (ws:List (List Nat)) (l:List Nat):b0 ws++[V.str (S l)]=b0 (ws++[l]):=by unfold b0;rw[XJ];rfl
theorem Ck {s:TS} {D:Ends} {σ:L2.St} {H:Hp} (h: ∀D':Ends,(∀σ' H',D.nx σ' H'->D'.nx σ' H')->s D' σ H):s D σ H:=h D fun _ _ z=>z
theorem MG {s:TS} {D:Ends} {σ:L2.St} {H:Hp} (h: ∀D':Ends,(∀σ' H',D.nx σ' H'->D'.nx σ' H')->(∀v H',D.rt v H'->D'.rt v H')->s D' σ H):s D σ H:=h D (fun _ _ z=>z) fun _ _ z=>z
inductive uF (K:PySem.W.Frag) (vs:List V) (H:Hp) (Q:VK) (gR:XK):Prop
 | mk (a:Addr) (ns:List Int) (_:vs=[.ref a]) (_:a_ K H a (ns.map V.int)) (_:ns.length<=63) (_:(∀x∈iJ, ∀pos q,Tab K x pos q H)) (_: ∀H',Q (.bl true) H'):uF K vs H Q gR
def kI (K:PySem.W.Frag):Sp:=uF K
theorem EV {K:PySem.W.Frag} {vs:List V} {H:Hp} {Q:VK} {E:XK} (h:kI K vs H Q E):vs.length=1:=by obtain ⟨b,m,rfl,_⟩:=h;rfl
noncomputable def bT (st:List Nat) (c:Nat):List Nat:=if st.getLast? =some (ax c) then st.dropLast else st++[c]
noncomputable def red (l:List Nat):List Nat:=l.foldl bT []
def jc:List Nat->Prop
 | []=>True
 | [_]=>True
 | a::b::r=>a≠ax b/\jc (b::r)
theorem jc.tail: ∀{a:Nat} {r:List Nat},jc (a::r)->jc r
 | _,[],_=>trivial
 | _,_::_,h=>h.2
theorem jc.snoc: ∀{l:List Nat} {c:Nat},jc l->l.getLast?≠ some (ax c)->jc (l++[c])
 | [],_,_,_=>trivial
 | [a],c,_,h=>⟨fun z=>h (by rw[z];rfl),trivial⟩
 | a::b::r,c,h,k=>⟨h.1,jc.snoc (l:=b::r) h.2 (by simpa using k)⟩
theorem jc.init: ∀{l:List Nat} {c:Nat},jc (l++[c])->jc l/\l.getLast?≠ some (ax c)
 | [],_,_=>⟨trivial,by simp⟩
 | [a],c,h=>⟨trivial,fun z=>h.1 (by simpa using z)⟩
 | a::b::r,c,h=>by
  have ih:=jc.init (l:=b::r) (c:=c) h.2
  exact ⟨⟨h.1,ih.1⟩,by simpa using ih.2⟩
theorem snoc_cases (l:List Nat):l=[]\/ ∃m a,l=m++[a]:=by
 by_cases h:l=[]
 ·exact .inl h
 ·exact .inr ⟨l.dropLast,l.getLast h,(List.dropLast_concat_getLast h).symm⟩
theorem jc.left: ∀{m l:List Nat},jc (m++l)->jc m
 | [],_,_=>trivial
 | [_],_,_=>trivial
 | a::b::r,l,h=>⟨h.1,jc.left (m:=b::r) (l:=l) h.2⟩
theorem iL {l:List Nat} {c:Nat} (h:l.getLast? =some c): ∃m,l=m++[c]:=by
 rcases snoc_cases l with rfl | ⟨m,a,rfl⟩
 ·simp at h
 ·refine ⟨m,?_⟩
  have:a=c:=by simpa using h
  rw[this]
theorem zT {st:List Nat} {c:Nat} (h:jc st):jc (bT st c):=by
 unfold bT
 by_cases e:st.getLast? =some (ax c)
 ·rw[if_pos e]
  obtain ⟨m,rfl⟩:=iL e
  rw[XU]
  exact h.init.1
 ·rw[if_neg e]
  exact h.snoc e
theorem zU {st:List Nat} {c d:Nat} (h:d∈bT st c):d∈st\/d=c:=by
 unfold bT at h
 by_cases e:st.getLast? =some (ax c)
 ·rw[if_pos e]at h
  exact .inl (List.dropLast_subset _ h)
 ·rw[if_neg e]at h
  rcases T3.mp h with z | z
  ·exact .inl z
  ·exact .inr (Hy.mp z)
theorem wD {st:List Nat} {x y:Nat} (h:jc st) (hy:Lt y) (e:x=ax y):bT (bT st x) y=st:=by
 subst e
 unfold bT
 by_cases z:st.getLast? =some (ax (ax y))
 ·rw[if_pos z]
  obtain ⟨m,rfl⟩:=iL z
  rw[XU,aD hy]
  have:=h.init.2
  rw[aD hy]at this
  rw[if_neg this]
 ·rw[if_neg z,if_pos (by simp),XU]
theorem nN: ∀(l st:List Nat),jc st->jc (l.foldl bT st)
 | [],_,h=>h
 | _::l,_,h=>nN l _ (zT h)
theorem EW (l:List Nat):jc (red l):=nN l [] trivial
theorem fW {a b:List Nat} {x y:Nat} (hy:Lt y) (e:x=ax y):red (a++x::y::b)=red (a++b):=by
 unfold red
 rw[Qan,YN,YN,wD (nN a [] trivial) hy e, <-Qan]
theorem fold_same: ∀(l st:List Nat),jc (st++l)->l.foldl bT st=st++l
 | [],st,_=>by simp
 | c::l,st,h=>by
  have h':jc ((st++[c])++l):=by rw[Lu];exact h
  have h2:=(jc.left h').init.2
  rw[YN]
  have:bT st c=st++[c]:=by unfold bT;rw[if_neg h2]
  rw[this,fold_same l (st++[c]) h',Lu]
  rfl
theorem dY {l:List Nat} (h:jc l):red l=l:=by
 exact fold_same l [] h
theorem fold_lt: ∀(l st:List Nat),(∀c∈l,Lt c)->(∀c∈st,Lt c)-> ∀c∈l.foldl bT st,Lt c
 | [],_,_,h=>h
 | a::l,st,h1,h2=>fold_lt l _ (fun c hc=>h1 c (NA _ hc)) fun c hc=>(zU hc).elim (h2 c) fun z=>z▸h1 a NB
theorem nO {l:List Nat} (h: ∀c∈l,Lt c): ∀c∈red l,Lt c:=fold_lt l [] h fun _ h=>absurd h Xl
theorem zV (st:List Nat) (c:Nat):(bT st c).length<=st.length+1:=by
 unfold bT
 by_cases e:st.getLast? =some (ax c)
 ·rw[if_pos e,List.length_dropLast];lia
 ·rw[if_neg e,Jy];exact Rv _
theorem uG: ∀(l st:List Nat),(l.foldl bT st).length<=st.length+l.length
 | [],_=>Rv _
 | c::l,st=>by
  have:=uG l (bT st c)
  have h2:=zV st c
  rw[YN,Xn]
  lia
theorem fz (l:List Nat):(red l).length<=l.length:=by
 have:=uG l []
 rw[Yp,YD]at this
 exact this
theorem uH {l:List Nat} {i c:Nat} (h:l[i]? =some c):red (l.take (i+1))=bT (red (l.take i)) c:=by
 unfold red
 rw[<-take_snoc h,Qan]
 rfl
theorem wF: ∀{l:List Nat},(∀k a b,l[k]? =some a->l[k+1]? =some b->a≠ax b)->jc l
 | [],_=>trivial
 | [_],_=>trivial
 | a::b::r,h=>⟨h 0 a b rfl rfl,wF (l:=b::r) fun k x y h1 h2=>h (k+1) x y (by simpa using h1) (by simpa using h2)⟩
noncomputable def AH (l:List Nat) (s e:Nat):List Nat:=(l.drop s).take (e - s)
noncomputable def strip:Nat->List Nat->List Nat
 | 0,l=>l
 | n+1,l=>match l with
  | []=>[]
  | [a]=>[a]
  | a::b::r=>if a=ax ((b::r).getLast (by simp)) then strip n (b::r).dropLast else a::b::r
theorem dZ: ∀(n:Nat) {l:List Nat},l.length<2->strip n l=l
 | 0,_,_=>rfl
 | _+1,[],_=>rfl
 | _+1,[_],_=>rfl
 | _+1,_::_::_,h=>by simp at h;lia
theorem jR (l:List Nat) (y:Nat):(l++[y]).getLast (by simp)=y:=by simp
theorem strip_go (n:Nat) {a y:Nat} {m:List Nat} (h:a=ax y):strip (n+1) (a::(m++[y]))=strip n m:=by
 cases m with
 | nil=>
  show (if a=ax (([y]:List Nat).getLast (by simp)) then strip n ([y]:List Nat).dropLast else _)=strip n []
  rw[if_pos (by simpa using h)]
  rfl
 | cons b r=>
  show (if a=ax ((b::(r++[y])).getLast (by simp)) then strip n (b::(r++[y])).dropLast else _)=strip n (b::r)
  have e1:(b::(r++[y])).getLast (by simp)=y:=jR (b::r) y
  have e2:(b::(r++[y])).dropLast=b::r:=by
   have:b::(r++[y])=(b::r)++[y]:=rfl
   rw[this,XU]
  rw[if_pos (by rw[e1];exact h),e2]
theorem strip_stop (n:Nat) {a y:Nat} {m:List Nat} (h:a≠ax y):strip n (a::(m++[y]))=a::(m++[y]):=by
 cases n with
 | zero=>rfl
 | succ n=>
  cases m with
  | nil=>
   show (if a=ax (([y]:List Nat).getLast (by simp)) then _ else _)=_
   rw[if_neg (by simpa using h)]
   rfl
  | cons b r=>
   show (if a=ax ((b::(r++[y])).getLast (by simp)) then _ else _)=_
   have e1:(b::(r++[y])).getLast (by simp)=y:=jR (b::r) y
   rw[if_neg (by rw[e1];exact h)]
   rfl
theorem x_ {l:List Nat} (h:2<=l.length): ∃a m y,l=a::(m++[y]):=by
 cases l with
 | nil=>simp at h
 | cons a r=>
  rcases snoc_cases r with rfl | ⟨m,y,rfl⟩
  ·simp at h
  ·exact ⟨a,m,y,rfl⟩
theorem nQ: ∀(n:Nat) (l:List Nat) (k:Nat),l.length<=n->strip (n+k) l=strip n l
 | 0,l,k,h=>by rw[dZ _ (by lia),dZ _ (by lia)]
 | n+1,l,k,h=>by
  by_cases h2:l.length<2
  ·rw[dZ _ h2,dZ _ h2]
  ·obtain ⟨a,m,y,rfl⟩:=x_ (l:=l) (by lia)
   have hm:m.length<=n:=by simp at h;lia
   by_cases e:a=ax y
   ·have:n+1+k=(n+k)+1:=by lia
    rw[this,strip_go _ e,strip_go _ e,nQ n m k hm]
   ·rw[strip_stop _ e,strip_stop _ e]
noncomputable def core (l:List Nat):List Nat:=strip l.length l
theorem jS {a y:Nat} {m:List Nat} (h:a=ax y):core (a::(m++[y]))=core m:=by
 unfold core
 have:(a::(m++[y])).length=(m.length+1)+1:=by simp
 rw[this,strip_go _ h,nQ _ _ _ (Rv _)]
theorem dF {a y:Nat} {m:List Nat} (h:a≠ax y):core (a::(m++[y]))=a::(m++[y]):=strip_stop _ h
theorem dG {l:List Nat} (h:l.length<2):core l=l:=dZ _ h
theorem jT {P:List Nat->List Nat->Prop} (h1: ∀l,l.length<2->P l l) (h2: ∀a m y,a≠ax y->P (a::(m++[y])) (a::(m++[y]))) (h3: ∀a m y r,a=ax y->P m r->P (a::(m++[y])) r): ∀(n:Nat) (l:List Nat),l.length<=n->P l (core l)
 | 0,l,h=>by rw[dG (by lia)];exact h1 l (by lia)
 | n+1,l,h=>by
  by_cases hl:l.length<2
  ·rw[dG hl];exact h1 l hl
  ·obtain ⟨a,m,y,rfl⟩:=x_ (l:=l) (by lia)
   by_cases e:a=ax y
   ·rw[jS e]
    exact h3 a m y _ e (jT h1 h2 h3 n m (by simp at h;lia))
   ·rw[dF e];exact h2 a m y e
theorem Cm {l:List Nat} {c:Nat}:c∈core l->c∈l:=
 jT (P:=fun l r=>c∈r->c∈l) (fun _ _ h=>h) (fun _ _ _ _ h=>h) (fun a m y r _ k h=>NA _ (Xx _ (k h))) l.length l (Rv _)
theorem nR (l:List Nat):(core l).length<=l.length:=
 jT (P:=fun l r=>r.length<=l.length) (fun _ _=>Rv _) (fun _ _ _ _=>Rv _) (fun a m y r _ k=>by simp;lia) l.length l (Rv _)
theorem Iy {l:List Nat} {s e:Nat} (h1:s+2<=e) (h2:e<=l.length):AH l s e=l[s]::(AH l (s+1) (e - 1)++[l[e - 1]]):=by
 unfold AH
 rw[YM (by lia)]
 have e1:e - s=(e - 1 - (s+1))+1+1:=by lia
 rw[e1,List.take_succ_cons,Zl,XY]
 have e2:s+1+(e - 1 - (s+1))=e - 1:=by lia
 rw[e2,Hz (by lia)]
 rfl
theorem EX {l:List Nat} {s e:Nat} (h2:e<=l.length):(AH l s e).length=e - s:=by unfold AH;rw[Rt,Xi];lia
theorem EY (l:List Nat):AH l 0 l.length=l:=by unfold AH;simp
def jU (_:PySem.W.Frag):Sp:=fun vs H Q _=> ∃l:List Nat,vs=[.str (S l)]/\(∀c∈l,Lt c)/\l.length<=1000/\ ∀H',ay H H'->Q (.str (S (red l))) H'
theorem pQ {K:PySem.W.Frag} {vs:List V} {H:Hp} {Q:VK} {E:XK} (h:jU K vs H Q E):vs.length=1:=by obtain ⟨c,rfl,_⟩:=h;rfl
def lP (_:PySem.W.Frag):Sp:=fun vs H Q _=> ∃l:List Nat,vs=[.str (S l)]/\(∀c∈l,Lt c)/\l.length<=1000/\ ∀H',ay H H'->Q (.str (S (core (red l)))) H'
theorem rX {K:PySem.W.Frag} {vs:List V} {H:Hp} {Q:VK} {E:XK} (h:lP K vs H Q E):vs.length=1:=by obtain ⟨c,rfl,_⟩:=h;rfl
theorem de {α:Type} (l:List α) (k:Nat):cut l none (some (k:Int))=l.take k:=by
 unfold cut
 rw[HT.mW,HT.gn,Yl,YQ]
 by_cases h:k<=l.length
 ·rw[X6 h]
 ·rw[Nat.min_eq_right (by lia),WJ (Rv _),WJ (by lia)]
theorem cO {α:Type} (l:List α) (k:Nat):cut l (some (k:Int)) none=l.drop k:=by
 unfold cut
 rw[HT.mW,HT.gn]
 by_cases h:k<=l.length
 ·rw[X6 h,WJ (by rw[Xi];exact Rv _)]
 ·rw[Nat.min_eq_right (by lia),XZ (Rv _),XZ (by lia)]
  simp
noncomputable def vE (ks:List Nat):List V:=ks.map fun (k:Nat)=>V.int k
noncomputable def ids (ks:List Nat):List PyData:=ks.map fun (k:Nat)=>PyData.int k
theorem kY {K:PySem.W.Frag} {H:Hp}: ∀ks:List Nat,kL K H (vE ks) (ids ks)
 | []=> .nil
 | k::ks=> .cons (.int _) (kY ks)
theorem nS: ∀ks:List Nat,PyData.depthAll (ids ks)=0
 | []=>rfl
 | k::ks=>by show max (PyData.depth (.int _)) (PyData.depthAll (ids ks))=0;rw[nS ks];rfl
noncomputable def ya (ws:List (List Nat)):List PyData:=ws.map fun l=>PyData.str (S l)
theorem fi {K:PySem.W.Frag} {H:Hp}: ∀ws:List (List Nat),kL K H (b0 ws) (ya ws)
 | []=> .nil
 | w::ws=> .cons (.str _) (fi ws)
theorem Iz {l:List Nat} (h: ∀c∈l,c<128):PyData.strOk (S l)=true:=by
 unfold PyData.strOk
 rw[Array.all_eq_true_iff_forall_mem]
 intro c hc
 have:c∈l:=by simpa [S]using hc
 have:=h c this
 simp;lia
theorem yb: ∀{ws:List (List Nat)},(∀l∈ws, ∀c∈l,c<128)->PyData.canLayAll0 (ya ws)=true
 | [],_=>rfl
 | w::ws,h=>by
  show (PyData.strOk (S w)&&PyData.canLayAll0 (ya ws))=true
  rw[Iz (h w NB),yb fun l hl=>h l (NA _ hl)]
  rfl
theorem qB: ∀ws:List (List Nat),PyData.depthAll (ya ws)=0
 | []=>rfl
 | k::ks=>by show max (PyData.depth (.str _)) (PyData.depthAll (ya ks))=0;rw[qB ks];rfl
mutual
theorem eqv_refl: ∀d:PyData,d.hasDict=false->PyData.eqv d d=true
 | .none,_=>rfl
 | .bool b,_=>by simp[PyData.eqv]
 | .int i,_=>by simp[PyData.eqv]
 | .str x,_=>by simp[PyData.eqv]
 | .list xs,h=>by show PyData.eqvAll xs xs=true;exact eqvAll_refl xs (by simpa [PyData.hasDict]using h)
 | .tuple xs,h=>by show PyData.eqvAll xs xs=true;exact eqvAll_refl xs (by simpa [PyData.hasDict]using h)
 | .dict aJ,h=>by simp[PyData.hasDict]at h
theorem eqvAll_refl: ∀ds:List PyData,PyData.hasDictAll ds=false->PyData.eqvAll ds ds=true
 | [],_=>rfl
 | d::ds,h=>by
  simp[PyData.hasDictAll]at h
  show (PyData.eqv d d&&PyData.eqvAll ds ds)=true
  rw[eqv_refl d h.1,eqvAll_refl ds h.2]
  rfl
end
theorem EZ (a y:Nat) (m:List Nat):cut (a::(m++[y])) (some 1) (some (((a::(m++[y])).length:Int) - 1))=m:=by
 have hl:(a::(m++[y])).length=m.length+2:=by simp
 have e:(((a::(m++[y])).length:Int) - 1)=((m.length+1:Nat):Int):=by rw[hl];lia
 rw[e]
 unfold cut
 have e1:HT.iW (a::(m++[y])).length 0 (some 1)=1:=by
  have:=HT.gn (a::(m++[y])).length 0 1
  rw[hl]at this ⊢
  rw[show ((1:Nat):Int)=1 from rfl]at this
  rw[this];lia
 rw[e1,HT.gn,hl]
 have e2:min (m.length+1) (m.length+2) - 1=m.length:=by lia
 rw[e2]
 show (m++[y]).take m.length=m
 simp
noncomputable def bE (c:List Nat) (k:Nat):List Nat:=c.drop k++c.take k
noncomputable def gv (c:List Nat) (n:Nat):List (List Nat):=(List.range n).map fun k=>bE c (k+1)
noncomputable def bX (c:List Nat):List Nat:=aU c (gv c (c.length - 1))
@[irreducible] noncomputable def aE (w:List Nat):List Nat:=bX (core (red w))
theorem ig (w:List Nat):aE w=bX (core (red w)):=by unfold aE;rfl
theorem qC (c:List Nat) (n:Nat):gv c (n+1)=gv c n++[bE c (n+1)]:=by unfold gv;rw[Zf,XJ];rfl
theorem gw: ∀(r:List (List Nat)) (a b:List Nat),aU a (r++[b])=aW (aU a r) b
 | [],_,_=>rfl
 | _::r,_,_=>gw r _ _
theorem jV (c:List Nat) (k:Nat):(bE c k).length=c.length:=by unfold bE;rw[Jy,Xi,Rt];lia
theorem E1 {c:List Nat} {k x:Nat} (h:x∈bE c k):x∈c:=(T3.mp h).elim Ya XF
theorem gz: ∀(r:List (List Nat)) (a:List Nat),aU a r=a\/aU a r∈r
 | [],a=> .inl rfl
 | b::r,a=>by
  rcases gz r (aW a b) with h | h
  ·have hl:aW a b=a\/aW a b=b:=by unfold aW;split<;>simp
   rcases hl with e | e
   ·left;show aU (aW a b) r=a;rw[h,e]
   ·right;show aU (aW a b) r∈b::r;rw[h,e];exact NB
  ·right;exact NA _ h
theorem eV (c:List Nat): ∃k,bX c=bE c k:=by
 rcases gz (gv c (c.length - 1)) c with h | h
 ·exact ⟨0,by show aU _ _=_;rw[h];unfold bE;simp⟩
 ·unfold gv at h
  obtain ⟨k,_,e⟩:=XH.mp h
  exact ⟨k+1,e.symm⟩
theorem yc {w:List Nat} (h: ∀c∈w,Lt c): ∀c∈core (red w),Lt c:=fun c hc=>nO h c (Cm hc)
theorem Cn {w:List Nat} (h: ∀c∈w,Lt c): ∀c∈aE w,Lt c:=fun c hc=>by
 obtain ⟨k,e⟩:=eV (core (red w))
 unfold aE at hc
 rw[e]at hc
 exact yc h c (E1 hc)
theorem qD (w:List Nat):(aE w).length<=w.length:=by
 obtain ⟨k,e⟩:=eV (core (red w))
 unfold aE
 rw[e,jV]
 exact XG (nR _) (fz w)
def ye (_:PySem.W.Frag):Sp:=fun vs H Q _=> ∃l:List Nat,vs=[.str (S l)]/\(∀c∈l,Lt c)/\l.length<=1000/\ ∀H',ay H H'->Q (.str (S (aE l))) H'
theorem Co {K:PySem.W.Frag} {vs:List V} {H:Hp} {Q:VK} {E:XK} (h:ye K vs H Q E):vs.length=1:=by obtain ⟨c,rfl,_⟩:=h;rfl
def yf (_:PySem.W.Frag):Sp:=fun vs H Q _=> ∃l:List Nat,vs=[.str (S l)]/\(∀c∈l,Lt c)/\l.length<=1000/\ ∀H',ay H H'->Q (.str (S (aW (aE l) (aE (bD l))))) H'
theorem Cp {K:PySem.W.Frag} {vs:List V} {H:Hp} {Q:VK} {E:XK} (h:yf K vs H Q E):vs.length=1:=by obtain ⟨c,rfl,_⟩:=h;rfl
def uI (_:PySem.W.Frag):Sp:=fun vs H Q _=> ∃l:List Nat,vs=[.str (S l)]/\(∀c∈l,Lt c)/\l.length<=1000/\ ∀H',ay H H'->Q (.str (S (aE l))) H'
theorem zW {K:PySem.W.Frag} {vs:List V} {H:Hp} {Q:VK} {E:XK} (h:uI K vs H Q E):vs.length=1:=by obtain ⟨c,rfl,_⟩:=h;rfl
def qE (_:PySem.W.Frag):Sp:=fun vs H Q _=> ∃l:List Nat,vs=[.str (S l)]/\(∀c∈l,Lt c)/\l.length<=1000/\ ∀H',ay H H'->Q (.str (S (bD l))) H'
theorem wG {K:PySem.W.Frag} {vs:List V} {H:Hp} {Q:VK} {E:XK} (h:qE K vs H Q E):vs.length=1:=by obtain ⟨c,rfl,_⟩:=h;rfl
theorem Cq (n d:Nat):HT.iW n d (some (-1))=n - 1:=by
 have e:HT.iW n d (some (-1))=(if (-1:Int)<0 then ((-1:Int)+(n:Int)).toNat else min (-1:Int).toNat n):=rfl
 rw[e,if_pos (by decide)]
 lia
theorem Cr {α:Type} (m:List α) (a:α):cut (m++[a]) none (some (-1))=m:=by
 have hl:(m++[a]).length=m.length+1:=by simp
 unfold cut
 rw[HT.mW,Cq,hl]
 simp
theorem Cs (a y:Nat) (m:List Nat):cut (a::(m++[y])) (some 1) (some (-1))=m:=by
 have h:=EZ a y m
 have hl:(a::(m++[y])).length=m.length+2:=by simp
 have e1:(((a::(m++[y])).length:Int) - 1)=((m.length+1:Nat):Int):=by rw[hl];lia
 unfold cut at h ⊢
 rw[e1,HT.gn]at h
 rw[Cq]
 have e2:min (m.length+1) (a::(m++[y])).length=(a::(m++[y])).length - 1:=by rw[hl];lia
 rw[e2]at h
 exact h
theorem Ct {c:List Nat} {n:Nat} (h1:1<=n):(List.range n).map (bE c)=c::gv c (n - 1):=by
 obtain ⟨k,rfl⟩: ∃k,n=k+1:=⟨n - 1,by lia⟩
 rw[List.range_succ_eq_map,XM,Zm]
 have e:bE c 0=c:=by unfold bE;simp
 rw[e]
 rfl
def AllLt (l:List Nat):Prop:= ∀c∈l,Lt c
theorem AllLt.app {a b:List Nat} (h:AllLt a) (g:AllLt b):AllLt (a++b):=fun c hc=>(T3.mp hc).elim (h c) (g c)
theorem AllLt.left {a b:List Nat} (h:AllLt (a++b)):AllLt a:=fun c hc=>h c (Xx _ hc)
theorem AllLt.right {a b:List Nat} (h:AllLt (a++b)):AllLt b:=fun c hc=>h c (T6 _ hc)
theorem nU: ∀(t st x y:List Nat),AllLt t->red (x++(st++t)++y)=red (x++t.foldl bT st++y)
 | [],st,x,y,_=>by rw[XA];rfl
 | c::t,st,x,y,h=>by
  have hc:Lt c:=h c NB
  have ht:AllLt t:=fun d hd=>h d (NA _ hd)
  rw[YN, <-nU t (bT st c) x y ht]
  unfold bT
  by_cases e:st.getLast? =some (ax c)
  ·rw[if_pos e]
   obtain ⟨m,rfl⟩:=iL e
   rw[XU]
   have:=fW (a:=x++m) (b:=t++y) hc rfl
   simpa [Lu]using this
  ·rw[if_neg e]
   simp[Lu]
theorem yg {t:List Nat} (x y:List Nat) (h:AllLt t):red (x++t++y)=red (x++red t++y):=by
 have:red (x++([]++t)++y)=red (x++red t++y):=nU t [] x y h
 simpa using this
theorem Cu {t:List Nat} (y:List Nat) (h:AllLt t):red (t++y)=red (red t++y):=by simpa using yg [] y h
theorem zX {t:List Nat} (x:List Nat) (h:AllLt t):red (x++t)=red (x++red t):=by simpa using yg x [] h
theorem nV (c:Nat) (l:List Nat):bD (c::l)=bD l++[ax c]:=by unfold bD;rw[XM,ZG]
theorem nW: ∀(t st x y:List Nat),AllLt t->red (x++bD (st++t)++y)=red (x++bD (t.foldl bT st)++y)
 | [],st,x,y,_=>by rw[XA];rfl
 | c::t,st,x,y,h=>by
  have hc:Lt c:=h c NB
  have ht:AllLt t:=fun d hd=>h d (NA _ hd)
  rw[YN, <-nW t (bT st c) x y ht]
  unfold bT
  by_cases e:st.getLast? =some (ax c)
  ·rw[if_pos e]
   obtain ⟨m,rfl⟩:=iL e
   rw[XU]
   have:=fW (a:=x++bD t) (b:=bD m++y) hc.ax.ax (x:=ax c) (by rw[aD hc])
   simpa [iK,nV,Lu,bD]using this
  ·rw[if_neg e]
   simp[iK,Lu]
theorem E2 {t:List Nat} (h:AllLt t):red (bD t)=red (bD (red t)):=by
 have:red ([]++bD ([]++t)++[])=red ([]++bD (red t)++[]):=nW t [] [] [] h
 simpa using this
theorem uJ: ∀(v x y:List Nat),AllLt v->red (x++(bD v++v)++y)=red (x++y)
 | [],x,y,_=>by simp[bD]
 | c::v,x,y,h=>by
  have hc:Lt c:=h c NB
  have hv:AllLt v:=fun d hd=>h d (NA _ hd)
  rw[nV]
  have:=fW (a:=x++bD v) (b:=v++y) hc (x:=ax c) rfl
  have e:x++(bD v++[ax c]++c::v)++y=(x++bD v)++ax c::c::(v++y):=by simp[Lu]
  rw[e,this]
  have:=uJ v x y hv
  rw[<-this]
  simp[Lu]
theorem nX (a b:List Nat): ¬a<aW a b:=by
 unfold aW
 split
 ·rename_i h;exact fun g=>Y6 a (List.lt_trans g h)
 ·exact Y6 a
theorem mq (a b:List Nat): ¬b<aW a b:=by
 unfold aW
 split
 ·exact Y6 b
 ·rename_i h;exact h
theorem GG {a b c:List Nat} (h: ¬b<a) (g: ¬c<b): ¬c<a:=List.le_trans (show a<=b from h) (show b<=c from g)
theorem yh {a b:List Nat} (h: ¬b<a) (g: ¬a<b):a=b:=List.le_antisymm (show a<=b from h) (show b<=a from g)
theorem jn: ∀(r:List (List Nat)) (a:List Nat), ∀x∈a::r, ¬x<aU a r
 | [],a,x,hx=>by rw[Hy.mp hx];exact Y6 a
 | b::r,a,x,hx=>by
  show ¬x<aU (aW a b) r
  have h0:=jn r (aW a b) (aW a b) NB
  rcases T4.mp hx with e | hx
  ·rw[e];exact GG h0 (nX a b)
  ·rcases T4.mp hx with e | hx
   ·rw[e];exact GG h0 (mq a b)
   ·exact jn r (aW a b) x (NA _ hx)
theorem nY (c:List Nat):bE c 0=c:=by unfold bE;simp
theorem yi (c:List Nat):bE c c.length=c:=by unfold bE;simp
theorem uK (c:List Nat) (k:Nat) (hk:k<=c.length): ¬bE c k<bX c:=by
 have h:=jn (gv c (c.length - 1)) c
 by_cases z:k=0
 ·rw[z,nY];exact h c NB
 ·by_cases z2:k=c.length
  ·rw[z2,yi];exact h c NB
  ·refine h _ (NA _ ?_)
   unfold gv
   exact XH.mpr ⟨k - 1,Yu.mpr (by lia),by rw[show k - 1+1=k by lia]⟩
theorem gA (c:List Nat): ∃k,k<=c.length/\bX c=bE c k:=by
 rcases gz (gv c (c.length - 1)) c with h | h
 ·exact ⟨0,XI _,by show aU _ _=_;rw[h,nY]⟩
 ·unfold gv at h
  obtain ⟨k,hk,e⟩:=XH.mp h
  have:=Yu.mp hk
  exact ⟨k+1,by lia,e.symm⟩
theorem Cv {c m:List Nat} (h1: ∃k,k<=c.length/\m=bE c k) (h2: ∀k,k<=c.length-> ¬bE c k<m):bX c=m:=by
 obtain ⟨k,hk,e⟩:=h1
 obtain ⟨j,hj,e2⟩:=gA c
 refine yh ?_ ?_
 ·rw[e];exact uK c k hk
 ·rw[e2];exact h2 j hj
theorem yk (a b:List Nat):bE (a++b) a.length=b++a:=by unfold bE;rw[ZA,List.take_left]
theorem yl {c:List Nat} {k j:Nat} (hk:k<=c.length) (hj:j<=c.length): ∃i,i<=c.length/\bE (bE c k) j=bE c i:=by
 by_cases z:j<=c.length - k
 ·refine ⟨k+j,by lia,?_⟩
  unfold bE
  rw[YY (by rw[Xi];lia),X9 (by rw[Xi];lia),kb,Lu, <-List.take_add]
 ·refine ⟨j - (c.length - k),by lia,?_⟩
  unfold bE
  have e1:(c.drop k).length=c.length - k:=Xi
  rw[ZN,Qar,e1,XZ (by rw[e1];lia),WJ (l:=c.drop k) (by rw[e1];lia),YH,List.drop_take,List.take_take]
  have e2:min (j - (c.length - k)) k=j - (c.length - k):=by lia
  rw[e2]
  have e3:c.drop (j - (c.length - k))=(c.drop (j - (c.length - k))).take (k - (j - (c.length - k)))++c.drop k:=by
   have:=T5 (k - (j - (c.length - k))) (c.drop (j - (c.length - k)))
   rw[kb]at this
   have e:j - (c.length - k)+(k - (j - (c.length - k)))=k:=by lia
   rw[e]at this
   exact this.symm
  rw[e3,Lu]
  congr 2
  exact e3.symm
theorem wH {c:List Nat} {k:Nat} (hk:k<=c.length):bX (bE c k)=bX c:=by
 refine (Cv (c:=c) ?_ fun j hj=>?_).symm
 ·obtain ⟨j,hj,e⟩:=gA (bE c k)
  rw[jV]at hj
  rw[e]
  exact yl hk hj
 ·have hb:c=bE (bE c k) (c.length - k):=by
   have e:bE c k=c.drop k++c.take k:=rfl
   have:=yk (c.drop k) (c.take k)
   rw[Xi, <-e]at this
   rw[this,T5]
  obtain ⟨i,hi,e⟩:=yl (c:=bE c k) (k:=c.length - k) (j:=j) (by rw[jV];lia) (by rw[jV];exact hj)
  rw[<-hb]at e
  rw[e]
  exact uK _ i hi
theorem nZ (a b:List Nat):bX (a++b)=bX (b++a):=by
 rw[<-yk a b]
 exact (wH (by rw[Jy];lia)).symm
theorem wI {a b:Nat} (ha:Lt a) (hb:Lt b) (h:a≠ax b):b≠ax a:=fun z=>h (by rw[z,aD ha])
theorem kZ {l:List Nat} (h: ∀a m y,l=a::(m++[y])->a≠ax y):core l=l:=by
 by_cases z:l.length<2
 ·exact dG z
 ·obtain ⟨a,m,y,rfl⟩:=x_ (l:=l) (by lia)
  exact dF (h a m y rfl)
theorem Cw {c d:Nat} {r:List Nat} (h:jc (d::r)) (hc:c≠ax d):jc (c::d::r):=⟨hc,h⟩
theorem IA {c:Nat} {t:List Nat} (hc:Lt c) (ht:AllLt t):bX (core (red (c::t)))=bX (core (red (t++[c]))):=by
 have e1:red (c::t)=red (c::red t):=zX [c] ht
 have e2:red (t++[c])=red (red t++[c]):=Cu [c] ht
 rw[e1,e2]
 have hr:jc (red t):=EW t
 have Cy:AllLt (red t):=nO ht
 generalize red t=r at hr Cy
 cases r with
 | nil=>rfl
 | cons d s=>
  have hd:Lt d:=Cy d NB
  have Sj:AllLt s:=fun x hx=>Cy x (NA _ hx)
  obtain ⟨m,e,DU⟩: ∃m e,d::s=m++[e]:=by
   rcases snoc_cases (d::s) with z | ⟨m,e,z⟩
   ·cases z
   ·exact ⟨m,e,z⟩
  have AI:Lt e:=Cy e (by rw[DU];simp)
  have last:(d::s).getLast? =some e:=by rw[DU];simp
  by_cases qZ:c=ax d
  ·have f1:red (c::d::s)=s:=by
    have:=fW (a:=[]) (b:=s) hd qZ
    rw[YH,YH]at this
    rw[this,dY hr.tail]
   rw[f1]
   by_cases GH:e=ax c
   ·have f2:red (d::s++[c])=m:=by
     rw[DU,Lu]
     have:=fW (a:=m) (b:=[]) hc GH
     rw[XA]at this
     show red (m++e::c::[])=m
     rw[this,dY]
     rw[DU]at hr
     exact hr.init.1
    rw[f2]
    have Vi:e=d:=by rw[GH,qZ,aD hd]
    subst Vi
    cases m with
    | nil=>
     have:s=[]:=by cases DU;rfl
     rw[this]
    | cons x m'=>
     have hx:x=e/\s=m'++[e]:=by
      have:=DU
      rw[YX]at this
      injection this with h1 h2
      exact ⟨h1.symm,h2⟩
     obtain ⟨rfl,rfl⟩:=hx
     have k1:core (m'++[x])=m'++[x]:=kZ fun a mm y z=>by
      cases m' with
      | nil=>simp at z
      | cons a' W3=>
       rw[YX]at z
       injection z with z1 z2
       have z3:y=x:=by
        have:=congrArg List.getLast? z2
        simpa using this.symm
       rw[<-z1,z3]
       exact wI hd (Sj a' (by simp)) hr.1
     have k2:core (x::m')=x::m':=kZ fun a mm y z=>by
      injection z with z1 z2
      rw[<-z1]
      subst z2
      have:=hr.tail
      rw[Lu]at this
      have h4:jc ((mm++[y])++[x]):=by rw[Lu];exact this
      have h5:=h4.init.2
      intro z
      exact h5 (by rw[z,List.getLast?_concat,aD (Sj y (by simp))])
     rw[k1,k2]
     exact nZ m' [x]
   ·have f2:red (d::s++[c])=d::s++[c]:=dY (hr.snoc (by rw[last];intro z;exact GH (by injection z)))
    rw[f2]
    have:core (d::(s++[c]))=core s:=jS (by rw[qZ,aD hd])
    rw[YX,this]
  ·have f1:red (c::d::s)=c::d::s:=dY (Cw hr qZ)
   rw[f1]
   by_cases GH:e=ax c
   ·have f2:red (d::s++[c])=m:=by
     rw[DU,Lu]
     have:=fW (a:=m) (b:=[]) hc GH
     rw[XA]at this
     show red (m++e::c::[])=m
     rw[this,dY]
     rw[DU]at hr
     exact hr.init.1
    rw[f2,DU,jS (by rw[GH,aD hc])]
   ·have f2:red (d::s++[c])=d::s++[c]:=dY (hr.snoc (by rw[last];intro z;exact GH (by injection z)))
    rw[f2]
    have k1:core (c::d::s)=c::d::s:=by
     rw[DU]
     exact dF (wI AI hc GH)
    have k2:core (d::s++[c])=d::s++[c]:=by
     rw[YX]
     exact dF (wI hc hd qZ)
    rw[k1,k2]
    exact nZ [c] (d::s)
theorem eW: ∀{u v:List Nat},AllLt u->AllLt v->aE (u++v)=aE (v++u)
 | [],v,_,_=>by rw[XA];rfl
 | c::u,v,hu,hv=>by
  have hc:Lt c:=hu c NB
  have Sk:AllLt u:=fun x hx=>hu x (NA _ hx)
  have e1:aE (c::u++v)=aE (u++v++[c]):=by
   rw[ig,ig]
   exact IA hc (Sk.app hv)
  have e2:=eW (u:=u) (v:=v++[c]) Sk (hv.app fun x hx=>by rw[Hy.mp hx];exact hc)
  rw[e1,Lu,e2,Lu]
  rfl
theorem wJ {r:List Nat}:AllLt r-> ∃p,AllLt p/\r=p++core r++bD p:=
 jT (P:=fun l c=>AllLt l-> ∃p,AllLt p/\l=p++c++bD p) (fun l _ _=>⟨[],fun _ h=>absurd h Xl,by simp[bD]⟩) (fun a m y _ _=>⟨[],fun _ h=>absurd h Xl,by simp[bD]⟩)
  (fun a m y c e ih h=>by
   have ha:Lt a:=h a NB
   have hy:Lt y:=h y (by simp)
   obtain ⟨p,hp,e2⟩:=ih fun x hx=>h x (by simp[hx])
   refine ⟨a::p,fun x hx=>?_,?_⟩
   ·rcases T4.mp hx with z | z
    ·rw[z];exact ha
    ·exact hp x z
   ·have e3:ax a=y:=by rw[e,aD hy]
    rw[nV,e3]
    have:m++[y]=p++c++bD p++[y]:=by rw[<-e2]
    rw[this]
    simp[Lu]) r.length r (Rv _)
theorem zY {u v:List Nat} (hu:AllLt u) (hv:AllLt v):aE (v++u++bD v)=aE u:=by
 rw[Lu,eW hv (hu.app (kX hv))]
 have:=uJ v u [] hv
 unfold aE
 rw[XA,XA, <-Lu]at this
 rw[this]
theorem Cz {w:List Nat} {k:Nat} (h:AllLt w):aE (bE w k)=aE w:=by
 unfold bE
 have h1:AllLt (w.take k++w.drop k):=by rw[T5];exact h
 rw[eW h1.right h1.left,T5]
theorem E3 (c:List Nat) (k:Nat):bD (bE c k)=bD (c.take k)++bD (c.drop k):=by unfold bE;rw[iK]
theorem uL {w:List Nat} (h:AllLt w):aE (bD (aE w))=aE (bD w):=by
 obtain ⟨k,_,e⟩:=gA (core (red w))
 have e0:aE w=bE (core (red w)) k:=(ig w).trans e
 have hc:AllLt (core (red w)):=yc h
 have e1:aE (bD (aE w))=aE (bD (core (red w))):=by
  have h1:AllLt ((core (red w)).take k++(core (red w)).drop k):=by rw[T5];exact hc
  rw[e0,E3,eW (kX h1.left) (kX h1.right), <-iK,T5]
 have e2:aE (bD w)=aE (bD (red w)):=by unfold aE;rw[E2 h]
 obtain ⟨p,hp,es⟩:=wJ (r:=red w) (nO h)
 rw[e1,e2]
 have e3:bD (red w)=p++bD (core (red w))++bD p:=by
  have:=congrArg bD es
  rw[iK,iK,x9 hp, <-Lu]at this
  exact this
 rw[e3,zY (kX hc) hp]
theorem uM (a b:List Nat):aW a b=aW b a:=by
 unfold aW
 by_cases h:b<a
 ·rw[if_pos h,if_neg fun g=>Y6 a (List.lt_trans g h)]
 ·rw[if_neg h]
  by_cases g:a<b
  ·rw[if_pos g]
  ·rw[if_neg g];exact yh h g
noncomputable def aY (w:List Nat):List Nat:=aW (aE w) (aE (bD w))
theorem CA {w:List Nat} (h:AllLt w):aY (bD w)=aY w:=by unfold aY;rw[x9 h,uM]
theorem uN (u:List Nat): ∀(m i:Nat),i<m*u.length->(pI m u)[i]? =u[i%u.length]?
 | 0,i,h=>by simp at h
 | m+1,i,h=>by
  rw[iG,List.getElem?_append]
  by_cases z:i<u.length
  ·rw[if_pos z,Yi z]
  ·rw[if_neg z,uN u m (i - u.length) (by rw[ZQ]at h;lia), <-Nat.mod_eq_sub_mod (by lia)]
def lQ (w:List Nat) (s:Nat):Prop:=pI (w.length / s) (w.take s)=w
def fj (w:List Nat) (k:Nat):Prop:=bE w k=w
noncomputable instance (w:List Nat) (s:Nat):Decidable (lQ w s):=by unfold lQ;infer_instance
noncomputable instance (w:List Nat) (s:Nat):Decidable (fj w s):=by unfold fj;infer_instance
def dH (w:List Nat) (s:Nat):Prop:=(w=[]/\s=0)\/(1<=s/\s<=w.length/\lQ w s/\ ∀j,1<=j->j<s-> ¬lQ w j)
def n5 (w:List Nat) (s:Nat):Prop:=(w=[]/\s=0)\/(1<=s/\s<=w.length/\fj w s/\ ∀j,1<=j->j<s-> ¬fj w j)
theorem rY {w:List Nat} {s:Nat} (h1:1<=s) (h2:s<=w.length) (h:lQ w s):fj w s:=by
 unfold lQ at h
 have hm:1<=w.length / s:=Nat.div_pos h2 h1
 obtain ⟨m,e⟩: ∃m,w.length / s=m+1:=⟨w.length / s - 1,by lia⟩
 rw[e]at h
 have hu:(w.take s).length=s:=by rw[Rt];lia
 generalize w.take s=u at h hu
 unfold fj bE
 rw[<-h,iG,List.drop_left' hu,List.take_left' hu, <-v_,iG]
noncomputable def Fw (w:List Nat) (i:Nat):Option Nat:=w[i%w.length]?
theorem ym {w:List Nat} {k i:Nat} (hk:k<=w.length) (hi:i<w.length):(bE w k)[i]? =Fw w (i+k):=by
 unfold bE Fw
 rw[List.getElem?_append,Xi]
 by_cases z:i<w.length - k
 ·rw[if_pos z,XY,Yi (by lia),Nat.add_comm]
 ·rw[if_neg z,Qah,if_pos (by lia),Nat.mod_eq_sub_mod (by lia),Yi (by lia)]
  congr 1
  lia
def AJ (w:List Nat) (k:Nat):Prop:= ∀i,Fw w (i+k)=Fw w i
theorem IC (w:List Nat) (i k:Nat):Fw w (i%w.length+k)=Fw w (i+k):=by unfold Fw;rw[Nat.mod_add_mod]
theorem mI {w:List Nat} {k:Nat} (hn:w≠[]) (hk:k<=w.length):fj w k↔AJ w k:=by
 have hl:0<w.length:=Xs.mpr hn
 constructor
 ·intro h i
  have hi:=Zx i hl
  rw[<-IC, <-ym hk hi,h]
  rfl
 ·intro h
  refine Zo fun i=>?_
  by_cases hi:i<w.length
  ·rw[ym hk hi,h i]
   unfold Fw
   rw[Yi hi]
  ·have hr:(bE w k).length=w.length:=jV w k
   rw[YL (by lia),YL (by lia)]
theorem AJ.mul {w:List Nat} {k:Nat} (h:AJ w k): ∀j i,Fw w (i+k*j)=Fw w i
 | 0,i=>rfl
 | j+1,i=>by rw[Nat.mul_succ, <-Zr,h,AJ.mul h j]
theorem AJ.whole (w:List Nat):AJ w w.length:=fun i=>by unfold Fw;rw[Nat.add_mod_right]
theorem AJ.rest {w:List Nat} {k:Nat} (h:AJ w k):AJ w (w.length%k):=fun i=>by
 rw[<-h.mul (w.length / k) (i+w.length%k),Zr,Qax]
 exact AJ.whole w i
theorem qF {w:List Nat} {k:Nat} (hn:w≠[]) (h1:1<=k) (h2:k<=w.length) (h:fj w k) (hl: ∀j,1<=j->j<k-> ¬fj w j):lQ w k:=by
 have hp:=(mI hn h2).mp h
 have hr:w.length%k=0:=by
  by_cases z:w.length%k=0
  ·exact z
  ·have cj:=Zx w.length (show k>0 by lia)
   exact absurd ((mI hn (by lia)).mpr hp.rest) (hl _ (by lia) cj)
 have hm:w.length / k*k=w.length:=by
  have:=Qax w.length k
  rw[hr,YD,Y7]at this
  exact this
 have hu:(w.take k).length=k:=by rw[Rt];lia
 unfold lQ
 refine Zo fun i=>?_
 by_cases hi:i<w.length
 ·rw[uN _ _ _ (by rw[hu,hm];exact hi),hu,Qah]
  have Vj:=Zx i (show k>0 by lia)
  rw[if_pos Vj]
  have e:=hp.mul (i / k) (i%k)
  rw[Qax]at e
  unfold Fw at e
  rw[Yi hi,Yi (by lia)]at e
  exact e.symm
 ·rw[YL (by rw[By,hu,hm];lia),YL (by lia)]
theorem qG {w:List Nat} {s k:Nat} (h:dH w s) (g:n5 w k):s=k:=by
 rcases h with ⟨e,e2⟩ | ⟨h1,h2,h3,h4⟩
 ·rcases g with ⟨_,g2⟩ | ⟨g1,g2,_,_⟩
  ·rw[e2,g2]
  ·rw[e]at g2;simp at g2;lia
 ·rcases g with ⟨e,_⟩ | ⟨g1,g2,g3,g4⟩
  ·rw[e]at h2;simp at h2;lia
  ·have hn:w≠[]:=fun z=>by rw[z]at h2;simp at h2;lia
   by_cases z:s<k
   ·exact absurd (rY h1 h2 h3) (g4 s h1 z)
   ·by_cases z2:k<s
    ·exact absurd (qF hn g1 g2 g3 g4) (h4 k g1 z2)
    ·lia
theorem zZ (w:List Nat):fj w w.length:=by
 unfold fj bE
 rw[XZ (Rv _),WJ (Rv _)]
 rfl
noncomputable def E4 (c:List Nat) (n:Nat):List Nat:=((List.range n).map (· +1)).filter fun k=>decide (fj c k)
theorem rZ {c:List Nat} {n k:Nat}:k∈E4 c n↔(1<=k/\k<=n)/\fj c k:=by
 unfold E4
 rw[Xp,XH]
 constructor
 ·rintro ⟨⟨j,hj,rfl⟩,h⟩
  have:=Yu.mp hj
  exact ⟨by lia,of_decide_eq_true h⟩
 ·rintro ⟨h1,h2⟩
  exact ⟨⟨k - 1,Yu.mpr (by lia),by lia⟩,decide_eq_true h2⟩
theorem wK (c:List Nat) (n:Nat):(E4 c n).Pairwise (· < ·):=by
 unfold E4
 refine List.Pairwise.filter _ ?_
 rw[YU]
 exact (List.pairwise_lt_range (n:=n)).imp fun h=>Nat.succ_lt_succ h
theorem uO {c:List Nat} (h:c≠[]): ∃k r,E4 c c.length=k::r/\n5 c k:=by
 have hl:0<c.length:=Xs.mpr h
 have hm:c.length∈E4 c c.length:=rZ.mpr ⟨by lia,zZ c⟩
 rcases e:E4 c c.length with _ | ⟨k,r⟩
 ·rw[e]at hm;exact absurd hm Xl
 ·refine ⟨k,r,rfl, .inr ?_⟩
  have hk:k∈E4 c c.length:=by rw[e];exact NB
  obtain ⟨⟨h1,h2⟩,h3⟩:=rZ.mp hk
  refine ⟨h1,h2,h3,fun j j1 j2 z=>?_⟩
  have hj:j∈E4 c c.length:=rZ.mpr ⟨by lia,z⟩
  have hs:=wK c c.length
  rw[e]at hj hs
  rcases T4.mp hj with w | w
  ·lia
  ·have:=ZE hs w
   lia
theorem n_ {l:List Nat} (h:l.Nodup) {i j:Nat} (hi:i<l.length) (hj:j<l.length) (e:l[i]=l[j]):i=j:=by
 have hp:=Y_.mp h
 rcases Nat.lt_trichotomy i j with z | z | z
 ·exact absurd e (hp i j hi hj z)
 ·exact z
 ·exact absurd e.symm (hp j i hj hi z)
theorem bf: ∀c∈aO,bW c=true/\PyProof.Rows.lo1 c=c/\ax c∈kU:=by decide+kernel
theorem cS: ∀c∈kU,bW c=false/\PyProof.Rows.lo1 c=ax c/\c∉aO/\ax c∈aO:=by decide+kernel
theorem z7: ∀c∈kU,c∉aO:=by decide+kernel
theorem iM {c:Nat} (h:Lt c):bW c=decide (c∈aO):=by
 rcases h with h | h
 ·rw[(bf c h).1,decide_eq_true h]
 ·rw[(cS c h).1,decide_eq_false (cS c h).2.2.1]
noncomputable def kept (sm:List Nat) (c:Nat):Bool:=decide (PyProof.Rows.lo1 c∈sm)
theorem fA {sm:List Nat} {c:Nat} (hs: ∀d∈sm,d∈aO) (h:Lt c):kept sm c=(decide (c∈sm)||decide (ax c∈sm)):=by
 unfold kept
 rcases h with h | h
 ·obtain ⟨_,e,e2⟩:=bf c h
  have:ax c∉sm:=fun z=>z7 _ e2 (hs _ z)
  rw[e,decide_eq_false this,ZJ]
 ·obtain ⟨_,e,e2,_⟩:=cS c h
  have:c∉sm:=fun z=>e2 (hs _ z)
  rw[e,decide_eq_false this,Bool.false_or]
theorem CB {sm:List Nat} {c:Nat} (hs: ∀d∈sm,d∈aO) (h:Lt c):kept sm (ax c)=kept sm c:=by
 rw[fA hs h,fA hs h.ax,aD h,Bool.or_comm]
theorem Yd.within {y sm:List Nat} (h:Yd y) (hs: ∀d∈sm,d∈aO):Yd (y.filter (kept sm)):=
 ⟨h.nd.filter _,fun c hc=>h.lt c (Xp.mp hc).1,fun c hc=>by
  obtain ⟨h1,h2⟩:=Xp.mp hc
  exact Xp.mpr ⟨h.cl c h1,by rw[CB hs (h.lt c h1)];exact h2⟩⟩
noncomputable def gr (y:List Nat) (a b c:Nat):Bool:=decide ((((y.idxOf b:Nat):Int) - ((y.idxOf a:Nat):Int))%(y.length:Int)<(((y.idxOf c:Nat):Int) - ((y.idxOf a:Nat):Int))%(y.length:Int))
def vF (i j k:Nat):Prop:=(i<j/\j<k)\/(j<k/\k<i)\/(k<i/\i<j)
noncomputable instance (i j k:Nat):Decidable (vF i j k):=by unfold vF;infer_instance
theorem ij {i j n:Nat} (hi:i<n) (hj:j<n):((j:Int) - (i:Int))%(n:Int)=if i<=j then (j:Int) - i else (j:Int) - i+n:=by
 split
 ·exact X2 (by lia) (by lia)
 ·rw[<-Qaj]
  exact X2 (by lia) (by lia)
theorem fk {y:List Nat} {a b c:Nat} (hn:y.Nodup) (ha:a∈y) (hb:b∈y) (hc:c∈y) (wL:a≠b) (CC:a≠c) (CD:b≠c):gr y a b c=decide (vF (y.idxOf a) (y.idxOf b) (y.idxOf c)):=by
 have ia:=T2 ha
 have ib:=T2 hb
 have ic:=T2 hc
 have inj: ∀{u v:Nat},u∈y->v∈y->u≠v->y.idxOf u≠y.idxOf v:=fun {u v} hu hv h z=>h (by
  have e1:=XT (T2 hu)
  have e2:=XT (T2 hv)
  rw[<-e1, <-e2]
  congr 1)
 have n1:=inj ha hb wL
 have n2:=inj ha hc CC
 have n3:=inj hb hc CD
 unfold gr
 rw[ij ia ib,ij ia ic]
 generalize y.idxOf a=i at*
 generalize y.idxOf b=j at*
 generalize y.idxOf c=k at*
 refine decide_eq_decide.mpr ?_
 unfold vF
 split<;>split<;>lia
theorem CF {i j k:Nat}:vF j k i↔vF i j k:=by unfold vF;lia
theorem E5 {i j k:Nat} (h1:i≠j) (h2:i≠k) (h3:j≠k):vF i k j↔ ¬vF i j k:=by unfold vF;lia
theorem yn {y:List Nat} {a b c:Nat} (hn:y.Nodup) (ha:a∈y) (hb:b∈y) (hc:c∈y) (wL:a≠b) (CC:a≠c) (CD:b≠c):gr y b c a=gr y a b c:=by
 rw[fk hn ha hb hc wL CC CD,fk hn hb hc ha CD (Ne.symm wL) (Ne.symm CC)]
 exact decide_eq_decide.mpr CF
theorem df {y:List Nat} {u v:Nat} (hu:u∈y) (hv:v∈y) (h:u≠v):y.idxOf u≠y.idxOf v:=fun z=>h (by
 have e1:=XT (T2 hu)
 have e2:=XT (T2 hv)
 rw[<-e1, <-e2]
 congr 1)
theorem ID {y:List Nat} {a b c:Nat} (hn:y.Nodup) (ha:a∈y) (hb:b∈y) (hc:c∈y) (wL:a≠b) (CC:a≠c) (CD:b≠c):gr y a c b=!gr y a b c:=by
 rw[fk hn ha hb hc wL CC CD,fk hn ha hc hb CC wL (Ne.symm CD)]
 rw[<-decide_not]
 exact decide_eq_decide.mpr (E5 (df ha hb wL) (df ha hc CC) (df hb hc CD))
theorem k_ (d:Nat) (t:List Nat) (a:Nat):(d::t).idxOf a=if d=a then 0 else t.idxOf a+1:=by
 by_cases h:d=a
 ·subst h;rw[if_pos rfl,List.idxOf_cons_self]
 ·rw[if_neg h,List.idxOf_cons,show (d==a)=false by simp[h]];rfl
theorem fm (p:Nat->Bool): ∀{y:List Nat} {a b:Nat},a∈y->b∈y->p a=true->p b=true->((y.filter p).idxOf a<(y.filter p).idxOf b↔y.idxOf a<y.idxOf b)
 | [],_,_,ha,_,_,_=>absurd ha Xl
 | d::t,a,b,ha,hb,pa,pb=>by
  by_cases hd:p d=true
  ·rw[Zh hd,k_,k_,k_,k_]
   by_cases e1:d=a
   ·rw[if_pos e1,if_pos e1]
    by_cases e2:d=b
    ·rw[if_pos e2,if_pos e2]
    ·rw[if_neg e2,if_neg e2];lia
   ·rw[if_neg e1,if_neg e1]
    by_cases e2:d=b
    ·rw[if_pos e2,if_pos e2];lia
    ·have Qj:a∈t:=(T4.mp ha).resolve_left (Ne.symm e1)
     have GA:b∈t:=(T4.mp hb).resolve_left (Ne.symm e2)
     have ih:=fm p Qj GA pa pb
     rw[if_neg e2,if_neg e2];lia
  ·have e1:d≠a:=fun z=>hd (z▸pa)
   have e2:d≠b:=fun z=>hd (z▸pb)
   have Qj:a∈t:=(T4.mp ha).resolve_left (Ne.symm e1)
   have GA:b∈t:=(T4.mp hb).resolve_left (Ne.symm e2)
   have ih:=fm p Qj GA pa pb
   rw[YG hd,k_,k_,if_neg e1,if_neg e2]
   lia
theorem z8 {y:List Nat} {p:Nat->Bool} {a b c:Nat} (hn:y.Nodup) (ha:a∈y.filter p) (hb:b∈y.filter p) (hc:c∈y.filter p) (wL:a≠b) (CC:a≠c) (CD:b≠c):gr (y.filter p) a b c=gr y a b c:=by
 obtain ⟨HV,NK⟩:=Xp.mp ha
 obtain ⟨MH,BC⟩:=Xp.mp hb
 obtain ⟨GI,AG⟩:=Xp.mp hc
 rw[fk (hn.filter _) ha hb hc wL CC CD,fk hn HV MH GI wL CC CD]
 refine decide_eq_decide.mpr ?_
 unfold vF
 rw[fm p HV MH NK BC,fm p MH GI BC AG,fm p GI HV AG NK]
theorem r0 {y sm:List Nat} (h:Yd y) (hs: ∀d∈sm,d∈aO) (hn:sm.Nodup) (hy: ∀d∈sm,d∈y):((y.filter (kept sm)).filter bW).Perm sm:=by
 refine (Y5 ((h.nd.filter _).filter _) hn).mpr fun c=>?_
 rw[Xp,Xp]
 constructor
 ·rintro ⟨⟨h1,h2⟩,h3⟩
  rw[iM (h.lt c h1)]at h3
  have hc:c∈aO:=of_decide_eq_true h3
  unfold kept at h2
  rw[(bf c hc).2.1]at h2
  exact of_decide_eq_true h2
 ·intro hc
  have h1:=hs c hc
  refine ⟨⟨hy c hc,?_⟩,(bf c h1).1⟩
  unfold kept
  rw[(bf c h1).2.1]
  exact decide_eq_true hc
def uP (_:PySem.W.Frag):Sp:=fun vs H Q _=> ∃l:List Nat,vs=[.str (S l)]/\(∀c∈l,c<128)/\l.length<64/\ ∀l' H',l'.Perm (l.filter bW)->l'.Pairwise (· <= ·)->ay H H'->Q (.str (S l')) H'
theorem z9 {K:PySem.W.Frag} {vs:List V} {H:Hp} {Q:VK} {E:XK} (h:uP K vs H Q E):vs.length=1:=by obtain ⟨c,rfl,_⟩:=h;rfl
inductive lR (p_:PySem.W.Frag) (vs:List V) (H:Hp) (Q:VK) (gR:XK):Prop
 | mk (y sm:List Nat) (_:vs=[.str (S y), .str (S sm)]) (_:(∀c∈y,c<128)) (_:y.length<=1000) (_: ∀H',ay H H'->Q (.str (S (y.filter (kept sm)))) H'):lR p_ vs H Q gR
def qH (p_:PySem.W.Frag):Sp:=lR p_
theorem wM {K:PySem.W.Frag} {vs:List V} {H:Hp} {Q:VK} {E:XK} (h:qH K vs H Q E):vs.length=2:=by obtain ⟨c,_,rfl,_⟩:=h;rfl
def qI (_:PySem.W.Frag):Sp:=fun vs H Q _=> ∃y:List Nat,vs=[.str (S y)]/\y.length<64/\ ∀q l' H',H q=none->H' q=some (.lst (bw l'))->l'.Perm (y.filter fun c=>decide (c∈aO))->l'.Pairwise (· <= ·)->ay H H'->Q (.ref q) H'
theorem wN {K:PySem.W.Frag} {vs:List V} {H:Hp} {Q:VK} {E:XK} (h:qI K vs H Q E):vs.length=1:=by obtain ⟨c,rfl,_⟩:=h;rfl
theorem fB {p:Nat->Bool} {l:List Nat} {i c:Nat} (h:l[i]? =some c):(l.take (i+1)).filter p=(l.take i).filter p++if p c=true then [c] else []:=by
 rw[<-take_snoc h,Zg]
 congr 1
 by_cases z:p c=true
 ·rw[if_pos z,Zh z];rfl
 ·rw[if_neg z,YG z];rfl
theorem uQ: ∀ws:List (List Nat),PyData.hasDictAll (ya ws)=false
 | []=>rfl
 | w::ws=>by show (PyData.hasDict (.str (S w))||PyData.hasDictAll (ya ws))=false;rw[uQ ws];rfl
theorem fo {y:List Nat} (h:Yd y):2*(y.filter bW).length=y.length:=by
 have key: ∀p q:Nat->Bool,(∀c∈y,p c=true->q (ax c)=true)->(y.filter p).length<=(y.filter q).length:=fun p q IE=>by
  have hn:((y.filter p).map ax).Nodup:=by
   show ((y.filter p).map ax).Pairwise (· ≠ ·)
   rw[YU]
   refine (h.nd.filter p).imp_of_mem fun {a b} ha hb z e=>z ?_
   exact cB (h.lt a (Xp.mp ha).1) (h.lt b (Xp.mp hb).1) e
  have:=hn.length_le_of_subset (l₂:=y.filter q) fun c hc=>by
   obtain ⟨d,hd,rfl⟩:=XH.mp hc
   obtain ⟨d1,d2⟩:=Xp.mp hd
   exact Xp.mpr ⟨h.cl d d1,IE d d1 d2⟩
  rwa [WH]at this
 have k1:=key bW (fun c=>!bW c) fun c hc z=>by
  rw[iM (h.lt c hc)]at z
  have hs:=of_decide_eq_true z
  rw[(cS _ (bf c hs).2.2).1];rfl
 have k2:=key (fun c=>!bW c) bW fun c hc z=>by
  rcases h.lt c hc with q | q
  ·rw[(bf c q).1]at z;cases z
  ·exact (bf _ (cS c q).2.2.2).1
 have k3:(y.filter bW).length+(y.filter fun c=>!bW c).length=y.length:=by
  clear k1 k2 key h
  induction y with
  | nil=>rfl
  | cons a r ih=>
   cases hq:bW a
   ·rw[YG (by simp[hq]),Zh (by simp[hq]),Xn,Xn];lia
   ·rw[Zh hq,YG (by simp[hq]),Xn,Xn];lia
 lia
noncomputable def rd (w:List Nat) (k:Int):Nat:=w.getD (k%(w.length:Int)).toNat 0
theorem MI {w:List Nat} (h:w≠[]) (k:Int):(k%(w.length:Int)).toNat<w.length:=by
 have:0<w.length:=Xs.mpr h
 have h1:=Yh k (b:=(w.length:Int)) (by lia)
 have h2:=Yc k (b:=(w.length:Int)) (by lia)
 lia
theorem gB {w:List Nat} (h:w≠[]) (k:Int):w[(k%(w.length:Int)).toNat]? =some (rd w k):=by
 unfold rd
 rw[Yf,Hz (MI h k)]
 rfl
theorem og {w:List Nat} (h:w≠[]) (k:Int):rd w k∈w:=Xo (gB h k)
theorem ik (w:List Nat) (k:Int):rd w (k+w.length)=rd w k:=by unfold rd;rw[Qaj]
theorem gC (w:List Nat) (k:Int):rd w (k%w.length)=rd w k:=by unfold rd;rw[Int.emod_emod_of_dvd _ (Int.dvd_refl _)]
theorem lg {w:List Nat} {k:Nat} (h:k<w.length):w[k]? =some (rd w k):=by
 have cR:w≠[]:=fun z=>by rw[z]at h;exact absurd h (Nat.not_lt_zero _)
 have:=gB cR (k:Int)
 rwa [X2 (by lia) (by lia),XN]at this
theorem yo {w:List Nat} {k:Int} {n:Nat} {c:Nat} (hn:n<w.length) (e:k%(w.length:Int)=n) (h:w[n]? =some c):rd w k=c:=by
 have:=lg hn
 rw[h]at this
 rw[<-gC,e]
 exact (WK this).symm
theorem MJ {w:List Nat} {k:Int} (h1: -(w.length:Int)<=k) (h2:k<w.length):mC w k=some (rd w k):=by
 have cR:w≠[]:=fun z=>by rw[z]at h1 h2;simp at h1 h2;lia
 unfold mC DP
 by_cases h0:0<=k
 ·rw[if_pos h0,if_pos h2]
  have:=gB cR k
  rw[X2 h0 h2]at this
  exact this
 ·rw[if_neg h0,if_pos h1]
  have:=gB cR (k+w.length)
  rw[ik,X2 (by lia) (by lia)]at this
  exact this
theorem jW {f:Int->Nat} {p:Nat} (P: ∀k,f (k+p)=f k) (k:Int): ∀t:Nat,f (k+t*p)=f k
 | 0=>by simp
 | t+1=>by
  have:k+((t+1:Nat):Int)*p=k+t*p+p:=by rw[Y1,Int.add_mul];simp;lia
  rw[this,P,jW P k t]
theorem fw {f g:Int->Nat} {p q:Nat} (hp:0<p) (hq:0<q) (Pf: ∀k,f (k+p)=f k) (Pg: ∀k,g (k+q)=g k) (h: ∀n:Nat,n<p+q->f n=g n) (k:Int):f k=g k:=by
 have up: ∀N n:Nat,n<N->f n=g n:=by
  intro N
  induction N with
  | zero=>intro n hn;lia
  | succ N ih=>
   intro n hn
   by_cases z:n<p+q
   ·exact h n z
   ·have e1:f n=f ((n - p:Nat):Int):=by have:=Pf ((n - p:Nat):Int);rwa [show ((n - p:Nat):Int)+p=n by lia]at this
    have e2:g ((n - p:Nat):Int)=g ((n - p - q:Nat):Int):=by have:=Pg ((n - p - q:Nat):Int);rwa [show ((n - p - q:Nat):Int)+q=((n - p:Nat):Int) by lia]at this
    have e3:f ((n - q:Nat):Int)=f ((n - p - q:Nat):Int):=by have:=Pf ((n - p - q:Nat):Int);rwa [show ((n - p - q:Nat):Int)+p=((n - q:Nat):Int) by lia]at this
    have e4:g n=g ((n - q:Nat):Int):=by have:=Pg ((n - q:Nat):Int);rwa [show ((n - q:Nat):Int)+q=n by lia]at this
    rw[e1,ih (n - p) (by lia),e2, <-ih (n - p - q) (by lia), <-e3,ih (n - q) (by lia), <-e4]
 have uk: ∃m:Nat,k+((k.natAbs*q:Nat):Int)*p=m/\k+((k.natAbs*p:Nat):Int)*q=m:=by
  have e1:((k.natAbs*q:Nat):Int)*p=((k.natAbs*(q*p):Nat):Int):=by rw[Nat.mul_assoc k.natAbs q p |>.symm];simp
  have e2:((k.natAbs*p:Nat):Int)*q=((k.natAbs*(q*p):Nat):Int):=by rw[Y7 q p,Nat.mul_assoc k.natAbs p q |>.symm];simp
  have hle:k.natAbs<=k.natAbs*(q*p):=Nat.le_mul_of_pos_right _ (Nat.mul_pos hq hp)
  generalize k.natAbs*(q*p)=M at e1 e2 hle
  exact ⟨(k+M).toNat,by lia,by lia⟩
 obtain ⟨m,h1,h2⟩:=uk
 rw[<-jW Pf k (k.natAbs*q),h1, <-jW Pg k (k.natAbs*p),h2]
 exact up (m+1) m (Yy m)
noncomputable def fD (f g:Int->Nat):Nat->Nat->Nat
 | 0,i=>i
 | n+1,i=>if f i=g i then fD f g n (i+1) else i
theorem jX (f g:Int->Nat): ∀n i:Nat,i<=fD f g n i/\fD f g n i<=i+n/\(∀j:Nat,i<=j->j<fD f g n i->f j=g j)/\(fD f g n i<i+n->f (fD f g n i)≠g (fD f g n i))
 | 0,i=>⟨Rv _,Rv _,fun j h1 h2=>absurd (Zy h1 h2) (X_ _),fun h=>absurd h (X_ _)⟩
 | n+1,i=>by
  unfold fD
  by_cases z:f i=g i
  ·rw[if_pos z]
   obtain ⟨h1,h2,h3,h4⟩:=jX f g n (i+1)
   refine ⟨by lia,by lia,fun j g1 g2=>?_,fun g1=>h4 (by lia)⟩
   by_cases e:j=i
   ·rw[e];exact z
   ·exact h3 j (by lia) g2
  ·rw[if_neg z]
   exact ⟨Rv _,by lia,fun j g1 g2=>absurd (Zy g1 g2) (X_ _),fun _=>z⟩
noncomputable def al (y:List Nat) (f g:Int->Nat) (n:Nat):Nat:=
 if f 0≠g 0\/f (-1)=g (-1) then 0 else
 if gr y (ax (f (-1))) (ax (g (-1))) (f 0)=gr y (f (fD f g n 0)) (g (fD f g n 0)) (ax (f ((fD f g n 0:Nat) - 1))) then fD f g n 0 else 0
noncomputable def ac (y:List Nat) (a b p q:Nat):Bool:=if p=a\/p=b\/q=a\/q=b then false else (gr y a p b != gr y a q b)
noncomputable def sq (w:List Nat) (i:Int):Int->Nat:=fun n=>rd w (i+n)
noncomputable def bq (v:List Nat) (j:Int):Int->Nat:=fun n=>ax (rd v (j - n))
theorem lh (w:List Nat) (i k:Int):sq w i (k+w.length)=sq w i k:=by unfold sq;rw[<-Qaf,ik]
theorem IF (w:List Nat) (k:Int):rd w (k - w.length)=rd w k:=by rw[<-ik w (k - w.length)];congr 1;lia
theorem CG (w:List Nat) (i k:Int):bq w i (k+w.length)=bq w i k:=by unfold bq;rw[show i - (k+(w.length:Int))=i - k - w.length by lia,IF]
theorem lp {v:List Nat} (h:v≠[]) (k:Int):rd (bD v) k=ax (rd v (-1 - k)):=by
 have uk:0<v.length:=Xs.mpr h
 have h1:=Yh k (b:=(v.length:Int)) (by lia)
 have h2:=Yc k (b:=(v.length:Int)) (by lia)
 have e:(-1 - k)%(v.length:Int)=v.length - 1 - k%v.length:=by
  have e1:=ZZ k v.length
  have: -1 - k=(v.length - 1 - k%v.length)+v.length*(-(k / v.length) - 1):=by rw[Int.mul_sub,Int.mul_neg];lia
  rw[this,ZD,X2 (by lia) (by lia)]
 generalize hr:k%(v.length:Int)=r at h1 h2 e
 obtain ⟨n,rfl⟩: ∃n:Nat,r=n:=⟨r.toNat,by lia⟩
 have hn:n<v.length:=by lia
 have e2:rd v (-1 - k)=v[v.length - 1 - n]'(by lia):=yo (n:=v.length - 1 - n) (by lia) (by rw[e];lia) (Hz (by lia))
 rw[e2]
 refine yo (n:=n) (by rw[cC];exact hn) (by rw[cC];exact hr) ?_
 unfold bD
 rw[ZY (by rw[WH];exact hn),WH,XC,Hz (by lia)]
 rfl
structure SW (y w:List Nat):Prop where
 ne:w≠[]
 bh: ∀c∈w,c∈y
 red: ∀k:Int,rd w k≠ax (rd w (k - 1))
theorem SW.rd {y w:List Nat} (h:SW y w) (k:Int):rd w k∈y:=h.bh _ (og h.ne k)
theorem iN {w v:List Nat} {f g:Int->Nat} (hw:w≠[]) (hv:v≠[]) (pf: ∀k,f (k+w.length)=f k) (pg: ∀k,g (k+v.length)=g k) (h:f (-1)≠g (-1)):fD f g (w.length+v.length) 0<w.length+v.length/\f (fD f g (w.length+v.length) 0)≠g (fD f g (w.length+v.length) 0):=by
 obtain ⟨_,b,c,d⟩:=jX f g (w.length+v.length) 0
 by_cases z:fD f g (w.length+v.length) 0<w.length+v.length
 ·exact ⟨z,d (by lia)⟩
 ·exact absurd (fw (Xs.mpr hw) (Xs.mpr hv) pf pg (fun n hn=>c n (XI _) (by lia)) (-1)) h
def Vk (w:List Nat):Prop:= ∀(k a b:Nat),w[k]? =some a->w[k+1]? =some b->b≠ax a
theorem SW.Vl {y w:List Nat} (h:SW y w):Vk w:=fun k a b h1 h2=>by
 have hk:=(Ru.mp h2).1
 have e1:=lg (w:=w) (k:=k) (by lia)
 have e2:=lg (w:=w) (k:=k+1) hk
 rw[h1]at e1
 rw[h2]at e2
 rw[WK e1,WK e2]
 have:=h.red ((k+1:Nat):Int)
 rwa [show (((k+1:Nat):Int) - 1)=(k:Int) by lia]at this
theorem oh {w:List Nat} {n:Nat} (h:w≠[]) (hn:n<=w.length) (k:Int):rd (w.drop n++w.take n) k=rd w (k+n):=by
 have uk:0<w.length:=Xs.mpr h
 have hl:(w.drop n++w.take n).length=w.length:=by rw[Jy,Xi,Rt];lia
 have h1:=Yh k (b:=(w.length:Int)) (by lia)
 have h2:=Yc k (b:=(w.length:Int)) (by lia)
 have e:(k+n)%(w.length:Int)=(k%w.length+n)%w.length:=by rw[YW]
 generalize hr:k%(w.length:Int)=r at h1 h2 e
 obtain ⟨m,rfl⟩: ∃m:Nat,r=m:=⟨r.toNat,by lia⟩
 have hm:m<w.length:=by lia
 by_cases z:m+n<w.length
 ·have hg:w[m+n]? =some (rd w (k+n)):=by
   have:=gB h (k+n)
   rwa [e,X2 (by lia) (by lia),show ((m:Int)+n).toNat=m+n by lia]at this
  refine yo (n:=m) (by rw[hl];exact hm) (by rw[hl];exact hr) ?_
  rw[X4 (by rw[Xi];lia),XY,Nat.add_comm]
  exact hg
 ·have hg:w[m+n - w.length]? =some (rd w (k+n)):=by
   have:=gB h (k+n)
   have e2:((m:Int)+n)%w.length=((m+n - w.length:Nat):Int):=by
    have:(m:Int)+n=((m+n - w.length:Nat):Int)+w.length:=by lia
    rw[this,Qaj,X2 (by lia) (by lia)]
   rwa [e,e2,XN]at this
  refine yo (n:=m) (by rw[hl];exact hm) (by rw[hl];exact hr) ?_
  rw[Xw (by rw[Xi];lia),Xi,Qah,if_pos (by lia),show m - (w.length - n)=m+n - w.length by lia]
  exact hg
theorem SW.bE {y w:List Nat} {n:Nat} (h:SW y w) (hn:n<=w.length):SW y (w.drop n++w.take n):=by
 refine ⟨fun z=>h.ne ?_,fun c hc=>?_,fun k=>?_⟩
 ·have l0:(w.drop n++w.take n).length=0:=by rw[z];rfl
  rw[Jy,Xi,Rt]at l0
  exact YF.mp (by lia)
 ·exact h.bh c ((T3.mp hc).elim Ya XF)
 ·rw[oh h.ne hn,oh h.ne hn,show k - 1+n=k+n - 1 by lia]
  exact h.red _
theorem SW.bD {y w:List Nat} (hy:Yd y) (h:SW y w):SW y (bD w):=by
 refine ⟨fun z=>h.ne ?_,fun c hc=>?_,fun k=>?_⟩
 ·have:=cC w
  rw[z]at this
  exact YF.mp this.symm
 ·obtain ⟨d,hd,rfl⟩:=XH.mp (XQ.mp hc)
  exact hy.cl d (h.bh d hd)
 ·rw[lp h.ne,lp h.ne,show -1 - (k - 1)= -1 - k+1 by lia]
  intro q
  have l1:=hy.lt _ (h.rd (-1 - k))
  have l2:=hy.lt _ (h.rd (-1 - k+1))
  rw[aD l2]at q
  have:=h.red (-1 - k+1)
  rw[show -1 - k+1 - 1= -1 - k by lia]at this
  exact this q.symm
theorem E6 {w:List Nat} (h:w≠[]):w.getLast? =some (rd w (-1)):=by
 have uk:0<w.length:=Xs.mpr h
 have:=gB h (-1)
 have e:(-1:Int)%(w.length:Int)=w.length - 1:=by
  have e2:(-1:Int)=((w.length:Int) - 1)+w.length*(-1):=by lia
  rw[e2,ZD,X2 (by lia) (by lia)]
 rw[e]at this
 rw[List.getLast?_eq_getElem?, show w.length - 1=((w.length:Int) - 1).toNat by lia]
 exact this
theorem E7 {w:List Nat} (h:w≠[]):w.head? =some (rd w 0):=by
 have:=gB h 0
 rw[List.head?_eq_getElem?]
 simpa using this
theorem z_ (w:List Nat): ∃k,n5 w k:=by
 by_cases h:w=[]
 ·exact ⟨0, .inl ⟨h,rfl⟩⟩
 ·obtain ⟨k,_,_,t⟩:=uO h
  exact ⟨k,t⟩
theorem dH.turn {w:List Nat} {s:Nat} (h:dH w s):n5 w s:=by
 obtain ⟨k,t⟩:=z_ w
 rw[qG h t];exact t
theorem dH.least {w:List Nat} {s j:Nat} (h:dH w s) (j1:1<=j) (j2:j<s) (hp:AJ w j):False:=by
 rcases h.turn with ⟨_,e⟩ | ⟨h1,h2,h3,h4⟩
 ·lia
 ·have hn:w≠[]:=fun z=>by rw[z]at h2;simp at h2;lia
  exact h4 j j1 j2 ((mI hn (by lia)).mpr hp)
theorem SW.Vm {y w:List Nat} (hy:Yd y) (h:SW y w):jc w:=wF fun k a b ha hb e=>by
 have GA:b∈y:=h.bh b (Xo hb)
 have:=h.Vl k a b ha hb
 rw[e,aD (hy.lt b GA)]at this
 exact this rfl
theorem SW.core {y w:List Nat} (hy:Yd y) (h:SW y w):My.core (My.red w)=w:=by
 rw[dY (h.Vm hy)]
 by_cases z:w.length<2
 ·exact dG z
 ·obtain ⟨a,m,e,hw⟩:=x_ (l:=w) (by lia)
  have h0:=E7 h.ne
  have h1:=E6 h.ne
  have hr:=h.red 0
  rw[show (0:Int) - 1= -1 by lia]at hr
  rw[hw]at h0 h1 hr ⊢
  have e0:a=My.rd (a::(m++[e])) 0:=WK h0
  have e1:e=My.rd (a::(m++[e])) (-1):=by
   have:(a::(m++[e])).getLast? =some e:=by rw[<-YX,List.getLast?_append];rfl
   exact WK (this.symm.trans h1)
  exact dF (by rw[<-e0, <-e1]at hr;exact hr)
theorem E8 {w:List Nat} (hn:w≠[]): ∃s,dH w s:=by
 obtain ⟨k,r,_,g⟩:=uO hn
 rcases g with ⟨z,_⟩ | ⟨h1,h2,h3,h4⟩
 ·exact absurd z hn
 ·exact ⟨k, .inr ⟨h1,h2,qF hn h1 h2 h3 h4,fun j j1 j2 j3=>h4 j j1 j2 (rY j1 (by lia) j3)⟩⟩
theorem E9 {a b:List Nat} {e:Nat} (hn:(a++b).Nodup) (he:e∈a++b):(b++a).idxOf e=if (a++b).idxOf e<a.length then (a++b).idxOf e+b.length else (a++b).idxOf e - a.length:=by
 rw[XS]at hn
 obtain ⟨na,nb,pR⟩:=hn
 by_cases z:e∈a
 ·have zb:e∉b:=fun q=>pR e z e q rfl
  rw[ZH,ZH,if_pos z,if_neg zb,if_pos (T2 z)]
 ·have zb:e∈b:=(T3.mp he).resolve_left z
  rw[ZH,ZH,if_pos zb,if_neg z,if_neg (by lia)]
  lia
theorem qJ {y:List Nat} {k e:Nat} (hn:y.Nodup) (hk:k<=y.length) (he:e∈y):(((y.drop k++y.take k).idxOf e:Nat):Int)=((y.idxOf e:Int) - k)%y.length:=by
 have h1:=E9 (a:=y.take k) (b:=y.drop k) (e:=e) (by rw[T5];exact hn) (by rw[T5];exact he)
 rw[T5,Rt,Xi,X6 hk]at h1
 have hi:=T2 he
 rw[h1]
 by_cases z:y.idxOf e<k
 ·rw[if_pos z]
  have:(y.idxOf e:Int) - k=((y.idxOf e+(y.length - k):Nat):Int)+y.length*(-1):=by lia
  rw[this,ZD,X2 (by lia) (by lia)]
 ·rw[if_neg z,X2 (by lia) (by lia)]
  lia
theorem CH {y:List Nat} {a b c:Nat} (hn:y.Nodup) (ha:a∈y) (hb:b∈y) (hc:c∈y):decide ((((y.drop (y.idxOf a)++y.take (y.idxOf a)).idxOf b:Nat):Int)<(((y.drop (y.idxOf a)++y.take (y.idxOf a)).idxOf c:Nat):Int))=gr y a b c:=by
 have hk:=YI (T2 ha)
 rw[qJ hn hk hb,qJ hn hk hc]
 rfl
inductive lS (p_:PySem.W.Frag) (vs:List V) (H:Hp) (Q:VK) (gR:XK):Prop
 | mk (y:List Nat) (a b c:Nat) (_:vs=[.str (S y), .str (S [a]), .str (S [b]), .str (S [c])]) (_:y.Nodup) (_:a∈y) (_:b∈y) (_:c∈y) (_:y.length<=1000) (_:Q (.bl (gr y a b c)) H):lS p_ vs H Q gR
def qK (p_:PySem.W.Frag):Sp:=lS p_
theorem wO {K:PySem.W.Frag} {vs:List V} {H:Hp} {Q:VK} {E:XK} (h:qK K vs H Q E):vs.length=4:=by obtain ⟨c,_,_,_,rfl,_⟩:=h;rfl
noncomputable def o_ (y:List Nat) (a b:Nat):Int:=((y.idxOf b:Int) - (y.idxOf a:Int))%(y.length:Int)
noncomputable def gT (y:List Nat) (f:Int->Nat) (k:Int):Int:=o_ y (ax (f (k - 1))) (f k)
structure kA (y:List Nat) (f:Int->Nat):Prop where
 bh: ∀k,f k∈y
 red: ∀k,f k≠ax (f (k - 1))
structure Run (f g:Int->Nat) (a b:Nat):Prop where
 uR: ∀k:Int, -(b:Int)<=k->k<=a->f k=g k
 hi:f (a+1)≠g (a+1)
 lo:f (-(b:Int) - 1)≠g (-(b:Int) - 1)
noncomputable def pS (f:Int->Nat):Int->Nat:=fun k=>ax (f (-k))
noncomputable def lT (f:Int->Nat):Int->Nat:=fun k=>f (k - 1)
noncomputable def jo (y:List Nat) (f g:Int->Nat) (a:Nat):Bool:=decide (gT y f (a+1)<gT y g (a+1))
noncomputable def jD (y:List Nat) (f g:Int->Nat) (b:Nat):Bool:=decide (gT y f (-(b:Int))<gT y g (-(b:Int)))
theorem Run.one {f g:Int->Nat} {a b a' b':Nat} (h:Run f g a b) (h':Run f g a' b'):a=a'/\b=b':=by
 constructor
 ·by_cases z:a<a'
  ·exact absurd (h'.uR (a+1) (by lia) (by lia)) h.hi
  ·by_cases z2:a'<a
   ·exact absurd (h.uR (a'+1) (by lia) (by lia)) h'.hi
   ·lia
 ·by_cases z:b<b'
  ·exact absurd (h'.uR (-(b:Int) - 1) (by lia) (by lia)) h.lo
  ·by_cases z2:b'<b
   ·exact absurd (h.uR (-(b':Int) - 1) (by lia) (by lia)) h'.lo
   ·lia
theorem Run.bk {f g:Int->Nat} {a b:Nat} (h:Run f g a (b+1)):Run (lT f) (lT g) (a+1) b:=
 ⟨fun k h1 h2=>h.uR (k - 1) (by lia) (by lia),fun z=>h.hi (by
  unfold lT at z
  rwa [show ((a+1:Nat):Int)+1 - 1=a+1 by lia]at z),fun z=>h.lo (by
  unfold lT at z
  rwa [show -(b:Int) - 1 - 1= -((b+1:Nat):Int) - 1 by lia]at z)⟩
theorem Run.fd {f g:Int->Nat} {a b:Nat} (h:Run (lT f) (lT g) (a+1) b):Run f g a (b+1):=
 ⟨fun k h1 h2=>by
  have:=h.uR (k+1) (by lia) (by lia)
  unfold lT at this
  rwa [show k+1 - 1=k by lia]at this,fun z=>h.hi (by
  unfold lT
  rwa [show ((a+1:Nat):Int)+1 - 1=a+1 by lia]),fun z=>h.lo (by
  unfold lT
  rwa [show -(b:Int) - 1 - 1= -((b+1:Nat):Int) - 1 by lia])⟩
theorem mJ (y:List Nat) (f:Int->Nat) (k:Int):gT y (lT f) k=gT y f (k - 1):=rfl
theorem yp (y:List Nat) (f g:Int->Nat) (a:Nat):jo y (lT f) (lT g) (a+1)=jo y f g a:=by
 unfold jo
 rw[mJ,mJ,show ((a+1:Nat):Int)+1 - 1=a+1 by lia]
theorem yq (y:List Nat) (f g:Int->Nat) (b:Nat):jD y (lT f) (lT g) b=jD y f g (b+1):=by
 unfold jD
 rw[mJ,mJ,show -(b:Int) - 1= -((b+1:Nat):Int) by lia]
theorem eX {y:List Nat} {a b:Nat} (ha:a∈y) (hb:b∈y) (h:a≠b):0<o_ y a b/\o_ y a b<y.length/\o_ y b a=y.length - o_ y a b:=by
 have ia:=T2 ha
 have ib:=T2 hb
 have n:=df ha hb h
 unfold o_
 rw[ij ia ib,ij ib ia]
 generalize y.idxOf a=i at*
 generalize y.idxOf b=j at*
 split<;>split<;>lia
theorem r6 {y:List Nat} {a b c:Nat} (ha:a∈y) (hb:b∈y) (hc:c∈y) (h:o_ y a b=o_ y a c):b=c:=by
 have ia:=T2 ha
 have ib:=T2 hb
 have ic:=T2 hc
 refine Classical.byContradiction fun z=>df hb hc z ?_
 unfold o_ at h
 rw[ij ia ib,ij ia ic]at h
 split at h<;>split at h<;>lia
theorem CI (y:List Nat) (a b c:Nat):decide (o_ y a b<o_ y a c)=gr y a b c:=rfl
theorem kA.rv {y:List Nat} {f:Int->Nat} (hy:Yd y) (h:kA y f):kA y (pS f):=⟨fun k=>hy.cl _ (h.bh _),fun k z=>by
 unfold pS at z
 have e:=aD (hy.lt _ (h.bh (-(k - 1))))
 rw[e]at z
 have:=h.red (-(k - 1))
 rw[show -(k - 1) - 1= -k by lia]at this
 exact this z.symm⟩
theorem CJ {y:List Nat} {f:Int->Nat} (hy:Yd y) (h:kA y f):pS (pS f)=f:=by
 funext k
 unfold pS
 rw[aD (hy.lt _ (h.bh _)),Int.neg_neg]
theorem r9 {y:List Nat} {f:Int->Nat} (hy:Yd y) (h:kA y f) (k:Int):gT y (pS f) (k+1)=y.length - gT y f (-k):=by
 unfold gT pS
 rw[show k+1 - 1=k by lia,aD (hy.lt _ (h.bh _)),show -(k+1)= -k - 1 by lia]
 exact (eX (hy.cl _ (h.bh _)) (h.bh _) (Ne.symm (h.red _))).2.2
theorem Run.rv {y:List Nat} {f g:Int->Nat} {a b:Nat} (hy:Yd y) (hf:kA y f) (hg:kA y g) (h:Run f g a b):Run (pS f) (pS g) b a:=
 ⟨fun k h1 h2=>by unfold pS;rw[h.uR _ (by lia) (by lia)],fun z=>h.lo (by
  unfold pS at z
  have:=cB (hy.lt _ (hf.bh _)) (hy.lt _ (hg.bh _)) z
  rwa [show -((b:Int)+1)= -(b:Int) - 1 by lia]at this),fun z=>h.hi (by
  unfold pS at z
  have:=cB (hy.lt _ (hf.bh _)) (hy.lt _ (hg.bh _)) z
  rwa [show -(-(a:Int) - 1)=a+1 by lia]at this)⟩
def dk (y:List Nat) (f g:Int->Nat):Prop:= ∃a,Run f g a 0/\jo y f g a≠jD y f g 0
open Classical in
noncomputable def one (p:Prop):Int:=if p then 1 else 0
theorem oi {p:Prop} (h:p):one p=1:=by unfold one;rw[if_pos h]
theorem dh {p:Prop} (h: ¬p):one p=0:=by unfold one;rw[if_neg h]
theorem cD {p q:Prop} (h:p↔q):one p=one q:=by rw[propext h]
theorem Run.zero {f g:Int->Nat} {a b:Nat} (h:Run f g a b):f 0=g 0:=h.uR 0 (by lia) (by lia)
theorem CK {y:List Nat} {p p' x:Nat} (hy:Yd y) (hp:p∈y) (EI:p'∈y) (hx:x∈y) (h1:p≠p') (h2:p≠x) (h3:p'≠x):decide (o_ y p x<o_ y p' x)=!gr y p p' x:=by
 have ip:=T2 hp
 have Vn:=T2 EI
 have ix:=T2 hx
 have n1:=df hp EI h1
 have n2:=df hp hx h2
 have n3:=df EI hx h3
 rw[fk hy.nd hp EI hx h1 h2 h3]
 unfold o_
 rw[ij ip ix,ij Vn ix, <-decide_not]
 refine decide_eq_decide.mpr ?_
 unfold vF
 split<;>split<;>lia
theorem wQ {y:List Nat} {f g:Int->Nat} (hy:Yd y) (hf:kA y f) (hg:kA y g) (h0:f 0=g 0) (h1:f (-1)≠g (-1)):jD y f g 0=!gr y (ax (f (-1))) (ax (g (-1))) (f 0):=by
 have e:jD y f g 0=decide (o_ y (ax (f (-1))) (f 0)<o_ y (ax (g (-1))) (g 0)):=rfl
 rw[e, <-h0]
 have r1:=hf.red 0
 have r2:=hg.red 0
 rw[show (0:Int) - 1= -1 by lia]at r1 r2
 exact CK hy (hy.cl _ (hf.bh _)) (hy.cl _ (hg.bh _)) (hf.bh 0) (fun z=>h1 (cB (hy.lt _ (hf.bh _)) (hy.lt _ (hg.bh _)) z)) (Ne.symm r1) (by rw[h0];exact Ne.symm r2)
theorem wR {y:List Nat} {f g:Int->Nat} {a:Nat} (h:f a=g a):jo y f g a=gr y (ax (f a)) (f (a+1)) (g (a+1)):=by
 unfold jo gT
 rw[show (a:Int)+1 - 1=a by lia, <-h]
 rfl
theorem GJ {y:List Nat} {f g:Int->Nat} {n:Nat} (hy:Yd y) (hf:kA y f) (hg:kA y g) (hd:f (-1)≠g (-1)->fD f g n 0<n/\f (fD f g n 0)≠g (fD f g n 0)):dk y f g↔0<al y f g n:=by
 unfold al
 by_cases z:f 0≠g 0\/f (-1)=g (-1)
 ·rw[if_pos z]
  refine ⟨fun ⟨a,r,_⟩=>?_,fun h=>absurd h (X_ _)⟩
  rcases z with z | z
  ·exact absurd r.zero z
  ·exact absurd z r.lo
 ·rw[if_neg z]
  have z0:f 0=g 0:=Classical.byContradiction fun q=>z (.inl q)
  have z1:f (-1)≠g (-1):=fun q=>z (.inr q)
  obtain ⟨d1,d2⟩:=hd z1
  obtain ⟨_,_,d3,_⟩:=jX f g n 0
  generalize fD f g n 0=D at*
  cases D with
  | zero=>exact absurd z0 d2
  | succ a=>
   have r:Run f g a 0:=⟨fun k h1 h2=>by
    obtain ⟨j,rfl⟩: ∃j:Nat,k=j:=⟨k.toNat,by lia⟩
    exact d3 j (XI _) (by lia),d2,z1⟩
   have e1:((a+1:Nat):Int)=(a:Int)+1:=by lia
   rw[e1,show (a:Int)+1 - 1=a by lia]
   have NV:=d3 a (XI _) (Yy a)
   have rf:=hf.red (a+1)
   have rg:=hg.red (a+1)
   rw[show (a:Int)+1 - 1=a by lia]at rf rg
   have Vo:f (a+1)≠g (a+1):=d2
   have eg:=yn hy.nd (hy.cl _ (hf.bh a)) (hf.bh (a+1)) (hg.bh (a+1)) (Ne.symm rf) (by rw[NV];exact Ne.symm rg) Vo
   rw[eg, <-wR NV]
   have eb:=wQ hy hf hg z0 z1
   have key:dk y f g↔jo y f g a≠jD y f g 0:=⟨fun ⟨a',r',x⟩=>by obtain ⟨rfl,_⟩:=r.one r';exact x,fun x=>⟨a,r,x⟩⟩
   rw[key,eb]
   generalize gr y (ax (f (-1))) (ax (g (-1))) (f 0)=G
   generalize jo y f g a=A
   cases G<;>cases A<;>simp
noncomputable def NW (a b a' b':Nat):Bool:=decide (vF a a' b) != decide (vF a b' b)
theorem jY {a b:Nat} (h:a≠b):decide (b<a)=!decide (a<b):=by
 rcases Nat.lt_or_gt_of_ne h with q | q
 ·rw[decide_eq_true q,decide_eq_false (Qal q)];rfl
 ·rw[decide_eq_true q,decide_eq_false (Qal q)];rfl
theorem GK {a b c:Nat} (h1:a≠b) (h2:b≠c) (h3:a≠c):decide (vF a b c)=!(decide (a<b) ^^ (decide (b<c) ^^ decide (c<a))):=by
 have e:decide (vF a b c)=((decide (a<b)&&decide (b<c))||((decide (b<c)&&decide (c<a))||(decide (c<a)&&decide (a<b)))):=by
  rw[<-Qaz, <-Qaz, <-Qaz, <-Bool.decide_or, <-Bool.decide_or]
  exact decide_eq_decide.mpr Iff.rfl
 rw[e]
 have k1:decide (a<b)=true->decide (b<c)=true->decide (c<a)=true->False:=fun p q r=>Qal (Qak (of_decide_eq_true p) (of_decide_eq_true q)) (of_decide_eq_true r)
 have k2:decide (b<a)=true->decide (c<b)=true->decide (a<c)=true->False:=fun p q r=>Qal (Qak (of_decide_eq_true q) (of_decide_eq_true p)) (of_decide_eq_true r)
 rw[jY h1,jY h2,jY (Ne.symm h3)]at k2
 revert k1 k2
 generalize decide (a<b)=p
 generalize decide (b<c)=q
 generalize decide (c<a)=r
 revert p q r
 decide
theorem GL {a b a' b':Nat} (h1:a≠b) (h3:a≠a') (h4:a≠b') (h5:b≠a') (h6:b≠b'):NW a b a' b'=((decide (a<a') ^^ decide (a'<b)) ^^ (decide (a<b') ^^ decide (b'<b))):=by
 unfold NW
 rw[GK h3 (Ne.symm h5) h1,GK h4 (Ne.symm h6) h1]
 generalize decide (a<a')=p
 generalize decide (a'<b)=q
 generalize decide (a<b')=r
 generalize decide (b'<b)=s
 generalize decide (b<a)=t
 revert p q r s t
 decide
theorem E_ {a b a' b':Nat} (h1:a≠b) (h2:a'≠b') (h3:a≠a') (h4:a≠b') (h5:b≠a') (h6:b≠b'):NW a b a' b'=NW a' b' a b:=by
 rw[GL h1 h3 h4 h5 h6,GL h2 (Ne.symm h3) (Ne.symm h5) (Ne.symm h4) (Ne.symm h6),jY h3,jY (Ne.symm h6)]
 generalize decide (a<a')=p
 generalize decide (a'<b)=q
 generalize decide (a<b')=r
 generalize decide (b'<b)=s
 revert p q r s
 decide
noncomputable def sm:Nat->(Int->Int)->Int
 | 0,_=>0
 | n+1,h=>sm n h+h n
theorem aP {h g:Int->Int}: ∀{n:Nat},(∀i:Nat,i<n->h i=g i)->sm n h=sm n g
 | 0,_=>rfl
 | n+1,e=>by
  show sm n h+h n=sm n g+g n
  rw[aP fun i hi=>e i (by lia),e n (by lia)]
theorem wU (h g:Int->Int): ∀n:Nat,sm n (fun i=>h i+g i)=sm n h+sm n g
 | 0=>rfl
 | n+1=>by
  show sm n _+(h n+g n)=(sm n h+h n)+(sm n g+g n)
  rw[wU h g n];lia
theorem mK: ∀n:Nat,sm n (fun _=>0)=0
 | 0=>rfl
 | n+1=>by show sm n _+0=0;rw[mK n];rfl
theorem yr (h:Int->Int): ∀n:Nat,sm n (fun i=>h (i - 1))+h ((n:Int) - 1)=sm n h+h (-1)
 | 0=>rfl
 | n+1=>by
  have:=yr h n
  show sm n _+h ((n:Int) - 1)+h (((n+1:Nat):Int) - 1)=(sm n h+h n)+h (-1)
  rw[show ((n+1:Nat):Int) - 1=n by lia]
  lia
theorem jZ {h:Int->Int} {n:Nat} (P: ∀k,h (k+n)=h k):sm n (fun i=>h (i - 1))=sm n h:=by
 have h1:=yr h n
 have h2:=P (-1)
 rw[show (-1:Int)+n=(n:Int) - 1 by lia]at h2
 lia
theorem yt (h:Int->Int): ∀n:Nat,sm n (fun i=>h ((n:Int) - 1 - i))=sm n h
 | 0=>rfl
 | n+1=>by
  have e: ∀(m:Nat) (g:Int->Int),sm (m+1) g=g 0+sm m (fun i=>g (i+1)):=fun m=>by
   induction m with
   | zero=>intro g;show (0:Int)+g 0=g 0+0;lia
   | succ m ih=>intro g;show sm (m+1) g+g ((m+1:Nat):Int)=g 0+(sm m (fun i=>g (i+1))+g ((m:Int)+1));rw[ih];rw[show ((m+1:Nat):Int)=(m:Int)+1 by lia];lia
  rw[e]
  have:=yt h n
  show h (((n+1:Nat):Int) - 1 - 0)+sm n (fun i=>h (((n+1:Nat):Int) - 1 - (i+1)))=sm n h+h n
  rw[show ((n+1:Nat):Int) - 1 - 0=n by lia, <-this,Int.add_comm]
  congr 1
  exact aP fun i _=>by congr 1;lia
theorem r_ {h:Int->Int} {n:Nat} (P: ∀k,h (k+n)=h k):sm n (fun i=>h (i+1))=sm n h:=by
 have:=jZ (h:=fun i=>h (i+1)) (n:=n) (fun k=>by show h (k+n+1)=h (k+1);rw[<-P (k+1)];congr 1;lia)
 rw[<-this]
 exact aP fun i _=>by show h ((i:Int) - 1+1)=h i;congr 1;lia
theorem wV {h:Int->Int} {n:Nat} (P: ∀k,h (k+n)=h k):sm n (fun i=>h (-i))=sm n h:=by
 rw[<-yt (fun i=>h (-i)) n, <-r_ P]
 exact aP fun i _=>by
  show h (-((n:Int) - 1 - i))=h (i+1)
  rw[<-P (-((n:Int) - 1 - i))];congr 1;lia
noncomputable def cX (n m:Nat) (h:Int->Int->Int):Int:=sm n fun i=>sm m fun j=>h i j
theorem bQ {n m:Nat} {h g:Int->Int->Int} (e: ∀i j:Nat,i<n->j<m->h i j=g i j):cX n m h=cX n m g:=aP fun i hi=>aP fun j hj=>e i j hi hj
theorem dR (n m:Nat) (h g:Int->Int->Int):cX n m (fun i j=>h i j+g i j)=cX n m h+cX n m g:=by
 unfold cX
 rw[<-wU]
 exact aP fun i _=>wU _ _ _
theorem Aa {n m:Nat} {h:Int->Int->Int} (P: ∀i j,h (i+n) j=h i j) (Q: ∀i j,h i (j+m)=h i j):cX n m (fun i j=>h (i - 1) (j - 1))=cX n m h:=by
 unfold cX
 have e: ∀i:Int,sm m (fun j=>h i (j - 1))=sm m (h i):=fun i=>jZ (Q i)
 rw[<-jZ (h:=fun i=>sm m fun j=>h i j) (n:=n) (fun k=>aP fun j _=>P k j)]
 exact aP fun i _=>e _
theorem bB {y w:List Nat} (h:SW y w) (i:Int):kA y (sq w i):=⟨fun k=>h.rd _,fun k=>by
 unfold sq
 have:=h.red (i+k)
 rwa [show i+k - 1=i+(k - 1) by lia]at this⟩
theorem j0 (w:List Nat) (i:Int):pS (sq w i)=bq w i:=by
 funext k
 unfold pS sq bq
 rw[show i+ -k=i - k by lia]
theorem fq {y w:List Nat} (hy:Yd y) (h:SW y w) (i:Int):kA y (bq w i):=by rw[<-j0];exact (bB h i).rv hy
theorem oj (w:List Nat) (i:Int):sq w (i+w.length)=sq w i:=by
 funext k
 unfold sq
 rw[show i+(w.length:Int)+k=i+k+w.length by lia,ik]
theorem lq (w:List Nat) (i:Int):bq w (i+w.length)=bq w i:=by rw[<-j0, <-j0,oj]
theorem IG (w:List Nat) (i:Int):bq w (i - w.length)=bq w i:=by rw[<-lq w (i - w.length)];congr 1;lia
section
variable {y w v:List Nat} {po pi qo qi:Int->Nat}
def om (w v:List Nat) (i j:Int):Prop:= ∀k,sq w i k=sq v j k
end
theorem Run.sy {f g:Int->Nat} {a b:Nat} (h:Run f g a b):Run g f a b:=⟨fun k h1 h2=>(h.uR k h1 h2).symm,Ne.symm h.hi,Ne.symm h.lo⟩
noncomputable def MK (n:Nat) (k:Int):Nat:=(k%(n:Int)).toNat
theorem yu {n:Nat} (h:0<n) (k:Int):((MK n k:Nat):Int)=k%n:=by
 unfold MK
 have h1:=Yh k (b:=(n:Int)) (by lia)
 lia
theorem IH {w:List Nat} (h:w≠[]) (k:Int):rd w (MK w.length k:Nat)=rd w k:=by rw[yu (Xs.mpr h),gC]
noncomputable def JD:Nat->(Int->Int->Int)->Int
 | 0,_=>0
 | n+1,h=>JD n h+sm n (fun j=>h j n)
theorem so (n m:Nat) (h:Int->Int->Int):cX (n+1) m h=cX n m h+sm m (fun j=>h n j):=rfl
theorem sr (m:Nat) (h:Int->Int->Int): ∀n:Nat,cX n (m+1) h=cX n m h+sm n (fun i=>h i m)
 | 0=>rfl
 | n+1=>by
  rw[so,so,sr m h n]
  show cX n m h+sm n (fun i=>h i m)+(sm m (fun j=>h n j)+h n m)=cX n m h+sm m (fun j=>h n j)+(sm n (fun i=>h i m)+h n m)
  lia
theorem su {h:Int->Int->Int}: ∀{n:Nat},(∀i j:Nat,i<n->j<n->h i j=h j i)->(∀i:Nat,i<n->h i i=0)->cX n n h=2*JD n h
 | 0,_,_=>rfl
 | n+1,sy,dg=>by
  rw[sr,so,su (n:=n) (fun i j hi hj=>sy i j (by lia) (by lia)) (fun i hi=>dg i (by lia))]
  show 2*JD n h+sm n (fun j=>h n j)+(sm n (fun i=>h i n)+h n n)=2*(JD n h+sm n (fun j=>h j n))
  rw[dg n (by lia),aP (h:=fun j=>h n j) (g:=fun j=>h j n) (fun j hj=>sy n j (by lia) (by lia))]
  lia
theorem II {y:List Nat} {f g:Int->Nat} {a:Nat} (hy:Yd y) (hf:kA y f) (hg:kA y g) (h:f a=g a) (hn:f (a+1)≠g (a+1)):jo y g f a=!jo y f g a:=by
 have:gT y f (a+1)≠gT y g (a+1):=fun q=>hn (by
  unfold gT at q
  rw[show (a:Int)+1 - 1=a by lia, <-h]at q
  exact r6 (hy.cl _ (hf.bh _)) (hf.bh _) (hg.bh _) q)
 unfold jo
 rw[<-decide_not]
 exact decide_eq_decide.mpr (by lia)
theorem IJ {y:List Nat} {f g:Int->Nat} {b:Nat} (hy:Yd y) (hf:kA y f) (hg:kA y g) (h:f (-(b:Int))=g (-(b:Int))) (hn:f (-(b:Int) - 1)≠g (-(b:Int) - 1)):jD y g f b=!jD y f g b:=by
 have:gT y f (-(b:Int))≠gT y g (-(b:Int)):=fun q=>hn (by
  unfold gT at q
  rw[<-h]at q
  have r1:=hf.red (-(b:Int))
  have r2:=hg.red (-(b:Int))
  have c1:=(eX (hy.cl _ (hf.bh (-(b:Int) - 1))) (hf.bh (-(b:Int))) (Ne.symm r1)).2.2
  have c2:=(eX (hy.cl _ (hg.bh (-(b:Int) - 1))) (hf.bh (-(b:Int))) (by rw[h];exact Ne.symm r2)).2.2
  have:=r6 (hf.bh (-(b:Int))) (hy.cl _ (hf.bh (-(b:Int) - 1))) (hy.cl _ (hg.bh (-(b:Int) - 1))) (by rw[c1,c2,q])
  exact cB (hy.lt _ (hf.bh _)) (hy.lt _ (hg.bh _)) this)
 unfold jD
 rw[<-decide_not]
 exact decide_eq_decide.mpr (by lia)
theorem GN {y:List Nat} {f g:Int->Nat} (hy:Yd y) (hf:kA y f) (hg:kA y g):dk y f g->dk y g f:=fun ⟨a,r,x⟩=>⟨a,r.sy,by
 rw[II hy hf hg (r.uR a (by lia) (by lia)) r.hi,IJ hy hf hg (r.uR _ (by lia) (by lia)) r.lo]
 exact fun q=>x (by simpa using q)⟩
theorem sA {y:List Nat} {a b p q:Nat} (hy:Yd y) (ha:a∈y) (hb:b∈y) (hp:p∈y) (hq:q∈y) (wL:a≠b) (IE:p≠q):ac y a b p q=ac y p q a b:=by
 unfold ac
 by_cases z:p=a\/p=b\/q=a\/q=b
 ·rw[if_pos z,if_pos (z.elim (fun z=> .inl z.symm) fun z=>z.elim (fun z=> .inr (.inr (.inl z.symm))) fun z=>z.elim (fun z=> .inr (.inl z.symm)) fun z=> .inr (.inr (.inr z.symm)))]
 ·have n1:a≠p:=fun q=>z (.inl q.symm)
  have n2:b≠p:=fun q=>z (.inr (.inl q.symm))
  have n3:a≠q:=fun q=>z (.inr (.inr (.inl q.symm)))
  have n4:b≠q:=fun q=>z (.inr (.inr (.inr q.symm)))
  rw[if_neg z,if_neg (fun z=>z.elim n1 fun z=>z.elim n3 fun z=>z.elim n2 n4)]
  rw[fk hy.nd ha hp hb n1 wL (Ne.symm n2),fk hy.nd ha hq hb n3 wL (Ne.symm n4),fk hy.nd hp ha hq (Ne.symm n1) IE n3,fk hy.nd hp hb hq (Ne.symm n2) IE n4]
  exact E_ (df ha hb wL) (df hp hq IE) (df ha hp n1) (df ha hq n3) (df hb hp n2) (df hb hq n4)
theorem yv (n:Nat) (h:Int->Int->Int): ∀m:Nat,sm n (fun i=>sm m fun j=>h i j)=sm m fun j=>sm n fun i=>h i j
 | 0=>mK n
 | m+1=>by
  show cX n (m+1) h=sm m (fun j=>sm n fun i=>h i j)+sm n (fun i=>h i m)
  rw[sr, <-yv n h m]
  rfl
theorem CL {w:List Nat} (hw:w≠[]): ∃i:Nat,i<w.length/\bX w=bE w i:=by
 have hp:=Xs.mpr hw
 rcases gz (gv w (w.length - 1)) w with h | h
 ·exact ⟨0,hp,by unfold bX;rw[h,nY]⟩
 ·unfold gv at h
  obtain ⟨k,hk,e⟩:=XH.mp h
  have:=Yu.mp hk
  exact ⟨k+1,by lia,by unfold bX;exact e.symm⟩
theorem yx {v:List Nat} (h:v≠[]) (k:Int):sq (bD v) k=bq v (-1 - k):=by
 funext x
 unfold sq bq
 rw[lp h]
 congr 2;lia
theorem IK {v:List Nat} (h:v≠[]):bD v≠[]:=fun z=>h (YF.mp (by rw[<-cC v,z];rfl))
theorem CM {w:List Nat} (hw:w≠[]) {d:Nat}:AJ w d↔ ∀k:Int,rd w (k+d)=rd w k:=by
 have hp:=Xs.mpr hw
 have fr: ∀i:Nat,Fw w i=some (rd w i):=fun i=>by
  unfold Fw
  rw[<-gB hw (i:Int)]
  congr 1
 constructor
 ·intro h k
  have:=h (MK w.length k)
  rw[fr,fr]at this
  have:=WK this
  rw[IH hw]at this
  rw[<-this, <-gC w (k+d), <-gC w (((MK w.length k+d:Nat)):Int),Y1,yu hp,YW]
 ·intro h i
  rw[fr,fr,Y1,h]
theorem oq {w:List Nat} (hw:w≠[]) {s:Nat} (h:dH w s):0<s/\ ∀i j:Int,om w w i j↔(i - j)%(s:Int)=0:=by
 rcases h with ⟨z,_⟩ | h'
 ·exact absurd z hw
 have h:dH w s:= .inr h'
 obtain ⟨h1,h2,h3,_⟩:=h'
 have ps: ∀k:Int,rd w (k+s)=rd w k:=(CM hw).mp ((mI hw h2).mp (rY h1 h2 h3))
 have pm: ∀(k t:Int),rd w (k+t*s)=rd w k:=fun k t=>by
  rcases Int.le_total 0 t with q | q
  ·obtain ⟨n,rfl⟩: ∃n:Nat,t=n:=⟨t.toNat,by lia⟩
   exact jW ps k n
  ·obtain ⟨n,rfl⟩: ∃n:Nat,t= -(n:Int):=⟨(-t).toNat,by lia⟩
   have:=jW ps (k+ -(n:Int)*s) n
   rw[<-this]
   congr 1
   rw[Int.neg_mul];lia
 refine ⟨h1,fun i j=>⟨fun p=>?_,fun p k=>?_⟩⟩
 ·have pd: ∀k:Int,rd w (k+(i - j))=rd w k:=fun k=>by
   have:=p (k - j)
   unfold sq at this
   rw[show i+(k - j)=k+(i - j) by lia,show j+(k - j)=k by lia]at this
   exact this
  have e:=ZZ (i - j) s
  have hn:=Yh (i - j) (b:=(s:Int)) (by lia)
  have cj:=Yc (i - j) (b:=(s:Int)) (by lia)
  refine Classical.byContradiction fun z=>?_
  obtain ⟨d,hd⟩: ∃d:Nat,(i - j)%(s:Int)=d:=⟨((i - j)%(s:Int)).toNat,by lia⟩
  refine dH.least h (j:=d) (by lia) (by lia) ((CM hw).mpr fun k=>?_)
  have q:=pd k
  rw[<-e,hd,Int.mul_comm, <-Qaf,pm]at q
  exact q
 ·unfold sq
  have e:=ZZ (i - j) s
  rw[p,YV,Int.mul_comm]at e
  rw[show i+k=j+k+(i - j) by lia, <-e,pm]
noncomputable def bs (y w v:List Nat) (i j:Int):Int:=one (ac y (ax (rd w (i - 1))) (rd w i) (ax (rd v (j - 1))) (rd v j)=true)+one (dk y (sq w i) (sq v j))+one (dk y (sq w i) (bq v j))
noncomputable def SS (y w v:List Nat):Int:=cX w.length v.length (bs y w v)
theorem GO (w:List Nat) (i:Int):rd w (i+w.length - 1)=rd w (i - 1):=by rw[show i+(w.length:Int) - 1=i - 1+w.length by lia,ik]
theorem ML (y w v:List Nat) (i j:Int):bs y w v (i+w.length) j=bs y w v i j:=by unfold bs;rw[oj,ik,GO]
def IL (y:List Nat) (f g:Int->Nat):Prop:= ∃b,Run f g 0 b/\jo y f g 0≠jD y f g b
theorem CN {y:List Nat} {n m:Nat} {F G:Int->Int->Nat} (bF: ∀k,lT (F k)=F (k - 1)) (bG: ∀k,lT (G k)=G (k - 1)) (pF: ∀k,F (k+n)=F k) (pG: ∀k,G (k+m)=G k):cX n m (fun s t=>one (dk y (F s) (G t)))=cX n m fun s t=>one (IL y (F s) (G t)):=by
 have key: ∀s t:Int,one (dk y (F s) (G t))+one (∃a b,Run (F (s - 1)) (G (t - 1)) (a+1) b/\jo y (F (s - 1)) (G (t - 1)) (a+1)≠jD y (F (s - 1)) (G (t - 1)) b)=one (IL y (F s) (G t))+one (∃a b,Run (F s) (G t) (a+1) b/\jo y (F s) (G t) (a+1)≠jD y (F s) (G t) b):=fun s t=>by
  rw[<-bF, <-bG]
  generalize F s=f
  generalize G t=g
  by_cases X: ∃a b,Run f g a b/\jo y f g a≠jD y f g b
  ·obtain ⟨a,b,r,x⟩:=X
   have u: ∀{a' b'},Run f g a' b'->a'=a/\b'=b:=fun r'=>r'.one r
   have e1:one (dk y f g)+one (∃a b,Run (lT f) (lT g) (a+1) b/\jo y (lT f) (lT g) (a+1)≠jD y (lT f) (lT g) b)=1:=by
    cases b with
    | zero=>
     rw[oi ⟨a,r,x⟩,dh (fun ⟨a',b',r',_⟩=>absurd (u r'.fd).2 (ZK _))]
     rfl
    | succ b=>
     rw[dh (fun ⟨a',r',_⟩=>absurd (u r').2.symm (ZK _)),oi ⟨a,b,r.bk,by rw[yp,yq];exact x⟩]
     rfl
   have e2:one (IL y f g)+one (∃a b,Run f g (a+1) b/\jo y f g (a+1)≠jD y f g b)=1:=by
    cases a with
    | zero=>
     rw[oi ⟨b,r,x⟩,dh (fun ⟨a',b',r',_⟩=>absurd (u r').1 (ZK _))]
     rfl
    | succ a=>
     rw[dh (fun ⟨b',r',_⟩=>absurd (u r').1.symm (ZK _)),oi ⟨a,b,r,x⟩]
     rfl
   rw[e1,e2]
  ·rw[dh (fun ⟨a,r,x⟩=>X ⟨a,0,r,x⟩),dh (fun ⟨a,b,r,x⟩=>X ⟨a,b+1,r.fd,by rw[yp,yq]at x;exact x⟩),dh (fun ⟨b,r,x⟩=>X ⟨0,b,r,x⟩),dh (fun ⟨a,b,r,x⟩=>X ⟨a+1,b,r,x⟩)]
 have sh:=Aa (n:=n) (m:=m) (h:=fun s t=>one (∃a b,Run (F s) (G t) (a+1) b/\jo y (F s) (G t) (a+1)≠jD y (F s) (G t) b)) (fun i j=>by rw[pF]) (fun i j=>by rw[pG])
 refine (Int.add_left_inj (cX n m (fun s t=>one (∃a b,Run (F s) (G t) (a+1) b/\jo y (F s) (G t) (a+1)≠jD y (F s) (G t) b)))).mp ?_
 rw[<-dR n m (fun s t=>one (IL y (F s) (G t))), <-sh, <-dR]
 exact bQ fun i j _ _=>key i j
theorem CO {y:List Nat} {f g:Int->Nat} (hy:Yd y) (hf:kA y f) (hg:kA y g):IL y f g↔dk y (pS g) (pS f):=by
 have a1: ∀b:Nat,jo y (pS g) (pS f) b=jD y f g b:=fun b=>by
  unfold jo jD
  rw[r9 hy hf,r9 hy hg]
  exact decide_eq_decide.mpr ⟨fun q=>by lia,fun q=>by lia⟩
 have a2:jD y (pS g) (pS f) 0=jo y f g 0:=by
  unfold jo jD
  have e1:=r9 hy hf (-1)
  have e2:=r9 hy hg (-1)
  rw[show (-1:Int)+1= -((0:Nat):Int) from rfl]at e1 e2
  rw[e1,e2]
  exact decide_eq_decide.mpr ⟨fun q=>by have:(y.length:Int) - gT y g 1<y.length - gT y f 1:=q;show gT y f 1<gT y g 1;lia,fun q=>by have:gT y f 1<gT y g 1:=q;show (y.length:Int) - gT y g 1<y.length - gT y f 1;lia⟩
 constructor
 ·rintro ⟨b,r,x⟩
  exact ⟨b,(r.rv hy hf hg).sy,by rw[a1,a2];exact Ne.symm x⟩
 ·rintro ⟨b,r,x⟩
  have r2:=r.rv hy (hg.rv hy) (hf.rv hy)
  rw[CJ hy hf,CJ hy hg]at r2
  rw[a1,a2]at x
  exact ⟨b,r2.sy,Ne.symm x⟩
theorem oz {y:List Nat} {f g:Int->Nat} (hy:Yd y) (hf:kA y f) (hg:kA y g):dk y f g↔dk y g f:=⟨GN hy hf hg,GN hy hg hf⟩
theorem CP (w:List Nat) (k:Int):lT (sq w k)=sq w (k - 1):=by
 funext x
 unfold lT sq
 congr 1
 lia
theorem CQ {y w:List Nat} (hy:Yd y) (h:SW y w) (i:Int):pS (bq w i)=sq w i:=by rw[<-j0,CJ hy (bB h i)]
theorem Fb {y w v:List Nat} (hy:Yd y) (hw:SW y w) (hv:SW y v):cX w.length v.length (fun i j=>one (dk y (bq w i) (bq v j)))=cX w.length v.length fun i j=>one (dk y (sq w i) (sq v j)):=by
 rw[CN (F:=sq w) (G:=sq v) (CP w) (CP v) (oj w) (oj v)]
 exact bQ fun i j _ _=>cD (by rw[CO hy (bB hw i) (bB hv j),j0,j0];exact oz hy (fq hy hw i) (fq hy hv j))
theorem CS {y w v:List Nat} (hy:Yd y) (hw:SW y w) (hv:SW y v):cX w.length v.length (fun i j=>one (dk y (bq w i) (sq v j)))=cX w.length v.length fun i j=>one (dk y (sq w i) (bq v j)):=by
 have fb: ∀k,lT (bq v (-k))=bq v (-(k - 1)):=fun k=>by
  funext x
  unfold lT bq
  congr 2
  lia
 have fp: ∀k:Int,bq v (-(k+v.length))=bq v (-k):=fun k=>by rw[show -(k+(v.length:Int))= -k - v.length by lia,IG]
 have e:=CN (y:=y) (n:=w.length) (m:=v.length) (F:=sq w) (G:=fun k=>bq v (-k)) (CP w) fb (oj w) fp
 have n1: ∀H:Int->Int->Int,(∀i j,H i (j+v.length)=H i j)->cX w.length v.length (fun i j=>H i (-j))=cX w.length v.length H:=fun H P=>aP fun i _=>wV (h:=H i) fun k=>P i k
 rw[n1 (fun i j=>one (dk y (sq w i) (bq v j))) (fun i j=>by rw[lq]),n1 (fun i j=>one (IL y (sq w i) (bq v j))) (fun i j=>by rw[lq])]at e
 rw[e]
 exact bQ fun i j _ _=>cD (by rw[CO hy (bB hw i) (fq hy hv j),j0,CQ hy hv];exact oz hy (fq hy hw i) (bB hv j))
theorem pT {y w:List Nat} (hy:Yd y) (h:SW y w) (i:Int):ax (rd w (i - 1))∈y/\rd w i∈y/\ax (rd w (i - 1))≠rd w i:=⟨hy.cl _ (h.rd _),h.rd _,Ne.symm (h.red i)⟩
theorem oB {y w v:List Nat} (hy:Yd y) (hw:SW y w) (hv:SW y v):SS y w v=SS y v w:=by
 have sw: ∀H:Int->Int->Int,cX v.length w.length (fun j i=>H i j)=cX w.length v.length H:=fun H=>yv _ _ _
 have e: ∀u z:List Nat,SS y u z=cX u.length z.length (fun i j=>one (ac y (ax (rd u (i - 1))) (rd u i) (ax (rd z (j - 1))) (rd z j)=true))+cX u.length z.length (fun i j=>one (dk y (sq u i) (sq z j)))+cX u.length z.length (fun i j=>one (dk y (sq u i) (bq z j))):=fun u z=>by
  unfold SS bs
  rw[dR,dR]
 rw[e w v,e v w, <-CS hy hw hv, <-sw, <-sw, <-sw]
 congr 1
 ·congr 1
  ·exact bQ fun j i _ _=>by
    obtain ⟨a1,a2,a3⟩:=pT hy hw i
    obtain ⟨b1,b2,b3⟩:=pT hy hv j
    rw[sA hy a1 a2 b1 b2 a3 b3]
  ·exact bQ fun j i _ _=>cD (oz hy (bB hw i) (bB hv j))
 ·exact bQ fun j i _ _=>cD (oz hy (fq hy hw i) (bB hv j))
theorem GP {h:Int->Int} {n:Nat} (P: ∀k,h (k+n)=h k): ∀k:Nat,sm n (fun i=>h (i+k))=sm n h
 | 0=>aP fun i _=>by rw[show (i:Int)+((0:Nat):Int)=i by lia]
 | k+1=>by
  rw[<-GP P k, <-r_ (h:=fun i=>h (i+k)) (n:=n) (fun j=>by rw[show j+(n:Int)+k=j+k+n by lia,P])]
  exact aP fun i _=>by rw[show (i:Int)+((k+1:Nat):Int)=i+1+k by lia]
theorem wW {y w v:List Nat} (hw:w≠[]) {k:Nat} (hk:k<=w.length):SS y (bE w k) v=SS y w v:=by
 have r: ∀i,rd (bE w k) i=rd w (i+k):=oh hw hk
 have ls:(bE w k).length=w.length:=by unfold bE;rw[Jy,Xi,Rt];lia
 have q: ∀i,sq (bE w k) i=sq w (i+k):=fun i=>by
  funext x
  unfold sq
  rw[r,show i+x+(k:Int)=i+k+x by lia]
 unfold SS
 rw[ls]
 show sm _ (fun i=>sm _ fun j=>bs y (bE w k) v i j)=sm _ fun i=>sm _ fun j=>bs y w v i j
 rw[<-GP (h:=fun i=>sm v.length fun j=>bs y w v i j) (n:=w.length) (fun i=>aP fun j _=>ML y w v i j) k]
 exact aP fun i _=>aP fun j _=>by
  unfold bs
  rw[q,r,r,show (i:Int) - 1+k=i+k - 1 by lia]
theorem Fc (y:List Nat) (a b p q:Nat):ac y a b q p=ac y a b p q:=by
 unfold ac
 have e:(q=a\/q=b\/p=a\/p=b)↔(p=a\/p=b\/q=a\/q=b):=⟨fun h=>by rcases h with h | h | h | h<;>simp[h],fun h=>by rcases h with h | h | h | h<;>simp[h]⟩
 by_cases z:p=a\/p=b\/q=a\/q=b
 ·rw[if_pos z,if_pos (e.mpr z)]
 ·rw[if_neg z,if_neg fun g=>z (e.mp g)]
  cases gr y a p b<;>cases gr y a q b<;>rfl
theorem CT {y w v:List Nat} (hy:Yd y) (hw:SW y w) (hv:SW y v):SS y (bD w) v=SS y w v:=by
 have e: ∀u z:List Nat,SS y u z=cX u.length z.length (fun i j=>one (ac y (ax (rd u (i - 1))) (rd u i) (ax (rd z (j - 1))) (rd z j)=true))+cX u.length z.length (fun i j=>one (dk y (sq u i) (sq z j)))+cX u.length z.length (fun i j=>one (dk y (sq u i) (bq z j))):=fun u z=>by
  unfold SS bs
  rw[dR,dR]
 have n1: ∀H:Int->Int->Int,(∀i j,H (i+w.length) j=H i j)->cX w.length v.length (fun i j=>H (-1 - i) j)=cX w.length v.length H:=fun H P=>by
  show sm _ (fun i=>sm _ fun j=>H (-1 - i) j)=sm _ fun i=>sm _ fun j=>H i j
  rw[<-wV (h:=fun i=>sm v.length fun j=>H i j) (n:=w.length) (fun i=>aP fun j _=>P i j), <-r_ (h:=fun i=>sm v.length fun j=>H (-i) j) (n:=w.length) (fun i=>aP fun j _=>by rw[<-P (-(i+w.length)),show -(i+(w.length:Int))+w.length= -i by lia])]
  exact aP fun i _=>aP fun j _=>by rw[show -1 - (i:Int)= -((i:Int)+1) by lia]
 rw[e (bD w) v,e w v,cC, <-Fb hy hw hv, <-CS hy hw hv, <-n1 (fun i j=>one (dk y (bq w i) (bq v j))) (fun i j=>by rw[lq]), <-n1 (fun i j=>one (dk y (bq w i) (sq v j))) (fun i j=>by rw[lq])]
 rw[show cX w.length v.length (fun i j=>one (dk y (sq (bD w) i) (sq v j)))=cX w.length v.length (fun i j=>one (dk y (bq w (-1 - i)) (sq v j))) from bQ fun i j _ _=>by rw[yx hw.ne],show cX w.length v.length (fun i j=>one (dk y (sq (bD w) i) (bq v j)))=cX w.length v.length (fun i j=>one (dk y (bq w (-1 - i)) (bq v j))) from bQ fun i j _ _=>by rw[yx hw.ne]]
 have ea:cX w.length v.length (fun i j=>one (ac y (ax (rd (bD w) (i - 1))) (rd (bD w) i) (ax (rd v (j - 1))) (rd v j)=true))=cX w.length v.length (fun i j=>one (ac y (ax (rd w (i - 1))) (rd w i) (ax (rd v (j - 1))) (rd v j)=true)):=by
  show sm _ (fun i=>sm _ fun j=>one (ac y (ax (rd (bD w) (i - 1))) (rd (bD w) i) (ax (rd v (j - 1))) (rd v j)=true))=sm _ fun i=>sm _ fun j=>one (ac y (ax (rd w (i - 1))) (rd w i) (ax (rd v (j - 1))) (rd v j)=true)
  rw[<-wV (h:=fun i=>sm v.length fun j=>one (ac y (ax (rd w (i - 1))) (rd w i) (ax (rd v (j - 1))) (rd v j)=true)) (n:=w.length) (fun i=>aP fun j _=>by rw[GO,ik])]
  refine aP fun i _=>aP fun j _=>?_
  rw[lp hw.ne,lp hw.ne,aD (hy.lt _ (hw.rd _)),show -1 - ((i:Int) - 1)= -(i:Int) by lia,show -1 - (i:Int)= -(i:Int) - 1 by lia]
  obtain ⟨a1,a2,a3⟩:=pT hy hw (-(i:Int))
  obtain ⟨b1,b2,b3⟩:=pT hy hv j
  rw[sA hy a2 a1 b1 b2 (Ne.symm a3) b3,Fc, <-sA hy a1 a2 b1 b2 a3 b3]
 rw[ea,Qaf,Qaf]
 congr 1
 exact Int.add_comm _ _
theorem lA {w:List Nat} (σ:Nat->Nat) (h:w≠[]) (k:Int):rd (w.map σ) k=σ (rd w k):=by
 have hl:=Xs.mpr h
 have h1:=Yh k (b:=(w.length:Int)) (by lia)
 have h2:=Yc k (b:=(w.length:Int)) (by lia)
 have hi:(k%(w.length:Int)).toNat<w.length:=by lia
 unfold rd
 rw[WH,Yf,Yf,XC,Hz hi]
 rfl
structure Fd (y z:List Nat) (σ:Nat->Nat) (neg:Bool):Prop where
 yd:Yd y
 zd:Yd z
 Vp: ∀a∈y,σ a∈z
 inj: ∀a∈y, ∀b∈y,σ a=σ b->a=b
 MM: ∀a∈y,σ (ax a)=ax (σ a)
 gr: ∀a∈y, ∀b∈y, ∀c∈y,a≠b->a≠c->b≠c->gr z (σ a) (σ b) (σ c)=(neg ^^ gr y a b c)
section
variable {y z w v:List Nat} {σ:Nat->Nat} {neg:Bool}
theorem Fd.sw (T:Fd y z σ neg) (h:SW y w):SW z (w.map σ):=⟨fun q=>h.ne (List.map_eq_nil_iff.mp q),fun c hc=>by
 obtain ⟨a,ha,rfl⟩:=XH.mp hc
 exact T.Vp a (h.bh a ha),fun k=>by
 rw[lA σ h.ne,lA σ h.ne, <-T.MM _ (h.rd _)]
 exact fun q=>h.red k (T.inj _ (h.rd _) _ (T.yd.cl _ (h.rd _)) q)⟩
theorem Fd.bg (T:Fd y z σ neg) {f g:Int->Nat} (hf:kA y f) (hg:kA y g) (Ic:kA z fun k=>σ (f k)) (Ep:kA z fun k=>σ (g k)):dk z (fun k=>σ (f k)) (fun k=>σ (g k))↔dk y f g:=by
 have ne: ∀k,f k≠g k->σ (f k)≠σ (g k):=fun k h q=>h (T.inj _ (hf.bh k) _ (hg.bh k) q)
 have run: ∀{a b},Run (fun k=>σ (f k)) (fun k=>σ (g k)) a b↔Run f g a b:=fun {a b}=>⟨fun r=>⟨fun k h1 h2=>T.inj _ (hf.bh k) _ (hg.bh k) (r.uR k h1 h2),fun q=>r.hi (by show σ _=σ _;rw[q]),fun q=>r.lo (by show σ _=σ _;rw[q])⟩,fun r=>⟨fun k h1 h2=>by show σ _=σ _;rw[r.uR k h1 h2],ne _ r.hi,ne _ r.lo⟩⟩
 have key: ∀a,Run f g a 0->jo z (fun k=>σ (f k)) (fun k=>σ (g k)) a=(neg ^^ jo y f g a)/\jD z (fun k=>σ (f k)) (fun k=>σ (g k)) 0=(neg ^^ jD y f g 0):=fun a r=>by
  have h0:=r.zero
  have ha:=r.uR a (by lia) (by lia)
  have r1:=hf.red (a+1)
  have r2:=hg.red (a+1)
  rw[show (a:Int)+1 - 1=a by lia]at r1 r2
  have lo:f (-1)≠g (-1):=r.lo
  have r3:=hf.red 0
  have r4:=hg.red 0
  rw[Int.zero_sub]at r3 r4
  constructor
  ·rw[wR (by show σ _=σ _;rw[ha]),wR ha]
   show My.gr z (ax (σ (f a))) _ _=_
   rw[<-T.MM _ (hf.bh a)]
   exact T.gr _ (T.yd.cl _ (hf.bh a)) _ (hf.bh _) _ (hg.bh _) (Ne.symm r1) (by rw[ha];exact Ne.symm r2) r.hi
  ·rw[wQ T.zd Ic Ep (by show σ _=σ _;rw[h0]) (ne _ lo),wQ T.yd hf hg h0 lo]
   show (!My.gr z (ax (σ (f (-1)))) (ax (σ (g (-1)))) (σ (f 0)))=_
   rw[<-T.MM _ (hf.bh _), <-T.MM _ (hg.bh _),T.gr _ (T.yd.cl _ (hf.bh _)) _ (T.yd.cl _ (hg.bh _)) _ (hf.bh 0) (fun q=>lo (cB (T.yd.lt _ (hf.bh _)) (T.yd.lt _ (hg.bh _)) q)) (Ne.symm r3) (by rw[h0];exact Ne.symm r4)]
   cases neg<;>cases My.gr y (ax (f (-1))) (ax (g (-1))) (f 0)<;>rfl
 constructor
 ·rintro ⟨a,r,x⟩
  have r':=run.mp r
  obtain ⟨k1,k2⟩:=key a r'
  rw[k1,k2]at x
  exact ⟨a,r',fun q=>x (by rw[q])⟩
 ·rintro ⟨a,r,x⟩
  obtain ⟨k1,k2⟩:=key a r
  refine ⟨a,run.mpr r,?_⟩
  rw[k1,k2]
  exact fun q=>x (by cases neg<;>cases h1:jo y f g a<;>cases h2:jD y f g 0<;>simp[h1,h2]at q ⊢)
theorem Fd.ac (T:Fd y z σ neg) {a b p q:Nat} (ha:a∈y) (hb:b∈y) (hp:p∈y) (hq:q∈y) (ab:a≠b):ac z (σ a) (σ b) (σ p) (σ q)=ac y a b p q:=by
 have e: ∀{a b},a∈y->b∈y->(σ a=σ b↔a=b):=fun {a b} ha hb=>⟨T.inj a ha b hb,fun q=>by rw[q]⟩
 unfold My.ac
 have e4:(σ p=σ a\/σ p=σ b\/σ q=σ a\/σ q=σ b)↔(p=a\/p=b\/q=a\/q=b):=by rw[e hp ha,e hp hb,e hq ha,e hq hb]
 by_cases c:p=a\/p=b\/q=a\/q=b
 ·rw[if_pos c,if_pos (e4.mpr c)]
 ·rw[if_neg c,if_neg fun z=>c (e4.mp z)]
  have n1:a≠p:=fun q=>c (.inl q.symm)
  have n2:p≠b:=fun q=>c (.inr (.inl q))
  have n3:a≠q:=fun q=>c (.inr (.inr (.inl q.symm)))
  have n4:q≠b:=fun q=>c (.inr (.inr (.inr q)))
  rw[T.gr a ha p hp b hb n1 ab n2,T.gr a ha q hq b hb n3 ab n4]
  cases neg<;>cases My.gr y a p b<;>cases My.gr y a q b<;>rfl
theorem Fd.same (T:Fd y z σ neg) (hw:SW y w) (hv:SW y v):SS z (w.map σ) (v.map σ)=SS y w v:=by
 have IM:=T.sw hw
 have Sl:=T.sw hv
 have cm: ∀{u:List Nat} (hu:SW y u) (k:Int),ax (rd (u.map σ) k)=σ (ax (rd u k)):=fun {u} hu k=>by rw[lA σ hu.ne,T.MM _ (hu.rd k)]
 have es: ∀{u:List Nat} (hu:SW y u) (i:Int),sq (u.map σ) i=fun k=>σ (sq u i k):=fun {u} hu i=>by
  funext k
  unfold sq
  exact lA σ hu.ne _
 have eb: ∀{u:List Nat} (hu:SW y u) (i:Int),bq (u.map σ) i=fun k=>σ (bq u i k):=fun {u} hu i=>by
  funext k
  unfold bq
  exact cm hu _
 unfold SS
 rw[WH,WH]
 refine bQ fun i j _ _=>?_
 have b1:=T.bg (bB hw i) (bB hv j) (by rw[<-es hw];exact bB IM i) (by rw[<-es hv];exact bB Sl j)
 have b2:=T.bg (bB hw i) (fq T.yd hv j) (by rw[<-es hw];exact bB IM i) (by rw[<-eb hv];exact fq T.zd Sl j)
 obtain ⟨a1,a2,a3⟩:=pT T.yd hw i
 obtain ⟨c1,c2,c3⟩:=pT T.yd hv j
 unfold bs
 rw[cm hw,cm hv,lA σ hw.ne,lA σ hv.ne,T.ac a1 a2 c1 c2 a3,es hw,es hv,eb hv,cD b1,cD b2]
end
theorem Ab {w v:List Nat} {s t:Nat} (hw:w≠[]) (hv:v≠[]) (h:dH w s) (g:dH v t) (e: ∀d:Int,om w w d 0↔om v v d 0):s=t:=by
 obtain ⟨p1,a⟩:=oq hw h
 obtain ⟨p2,b⟩:=oq hv g
 have key: ∀d:Nat,d%s=0↔d%t=0:=fun d=>by
  have k:=e d
  rw[a,b,ZT]at k
  have c1:((d%s:Nat):Int)=(d:Int)%(s:Int):=rfl
  have c2:((d%t:Nat):Int)=(d:Int)%(t:Int):=rfl
  rw[<-c1, <-c2]at k
  exact ⟨fun q=>ZI (k.mp (by rw[q];rfl)),fun q=>ZI (k.mpr (by rw[q];rfl))⟩
 exact Ze (Nat.le_of_dvd p2 (Nat.dvd_of_mod_eq_zero ((key t).mpr (ZR t)))) (Nat.le_of_dvd p1 (Nat.dvd_of_mod_eq_zero ((key s).mp (ZR s))))
theorem j4 (w:List Nat) (d:Int):om w w d 0↔ ∀k,rd w (d+k)=rd w k:=by
 unfold om sq
 exact ⟨fun h k=>by have:=h k;rwa [YV]at this,fun h k=>by rw[YV];exact h k⟩
theorem Fe {w:List Nat} (hw:w≠[]) {n:Nat} (hn:n<=w.length) (d:Int):om (bE w n) (bE w n) d 0↔om w w d 0:=by
 rw[j4,j4]
 have r: ∀i,rd (bE w n) i=rd w (i+n):=oh hw hn
 constructor
 ·intro h k
  have:=h (k - n)
  rw[r,r,show d+(k - (n:Int))+n=d+k by lia,show k - (n:Int)+n=k by lia]at this
  exact this
 ·intro h k
  rw[r,r,show d+k+(n:Int)=d+(k+n) by lia]
  exact h _
theorem Ff {y w:List Nat} (hy:Yd y) (hw:SW y w) (d:Int):om (bD w) (bD w) d 0↔om w w d 0:=by
 rw[j4,j4]
 simp only[lp hw.ne]
 constructor
 ·intro h k
  have:=h (-1 - d - k)
  rw[show -1 - (d+(-1 - d - k))=k by lia,show -1 - (-1 - d - k)=d+k by lia]at this
  exact (cB (hy.lt _ (hw.rd _)) (hy.lt _ (hw.rd _)) this).symm
 ·intro h k
  have:=h (-1 - (d+k))
  rw[<-this,show d+(-1 - (d+k))= -1 - k by lia]
theorem IQ {y:List Nat} {p:Nat->Bool} (hy:Yd y) (hz:Yd (y.filter p)):Fd (y.filter p) y id false:=
 ⟨hz,hy,fun a ha=>(Xp.mp ha).1,fun a _ b _ e=>e,fun a _=>rfl,fun a ha b hb c hc ab ac bc=>by
  rw[z8 hy.nd ha hb hc ab ac bc]
  show My.gr y a b c=_
  cases My.gr y a b c<;>rfl⟩
theorem j5 {i n:Nat} (h:i<n):(i+1)%n=if i+1=n then 0 else i+1:=by
 by_cases z:i+1=n
 ·rw[if_pos z,z,ZR]
 ·rw[if_neg z];exact Yi (by omega)
noncomputable def dt (y:List Nat) (e:Nat):Nat:=y.getD ((y.idxOf e+1)%y.length) 0
theorem fL {y:List Nat} {e:Nat} (h:e∈y): ∃hk:(y.idxOf e+1)%y.length<y.length,dt y e=y[(y.idxOf e+1)%y.length]:=by
 have hp:=Zn h
 have hk:(y.idxOf e+1)%y.length<y.length:=Zx _ hp
 exact ⟨hk,by unfold dt;rw[Yf,Hz hk];rfl⟩
theorem fE {y:List Nat} {e:Nat} (h:e∈y):dt y e∈y:=by
 obtain ⟨hk,e2⟩:=fL h
 rw[e2];exact YA hk
theorem yy {y:List Nat} {a b:Nat} (hn:y.Nodup) (ha:a∈y) (hb:b∈y) (e:dt y a=dt y b):a=b:=by
 obtain ⟨k1,e1⟩:=fL ha
 obtain ⟨k2,e2⟩:=fL hb
 rw[e1,e2]at e
 have ix:=n_ hn k1 k2 e
 have ia:=T2 ha
 have ib:=T2 hb
 rw[j5 ia,j5 ib]at ix
 have:y.idxOf a=y.idxOf b:=by split at ix<;>split at ix<;>omega
 have g1:=XT ia
 have g2:=XT ib
 rw[<-g1, <-g2]
 congr 1
theorem iq {y:List Nat} {a:Nat} (hn:y.Nodup) (ha:a∈y) (h2:2<=y.length):dt y a≠a:=by
 obtain ⟨k1,e1⟩:=fL ha
 have ia:=T2 ha
 intro z
 rw[e1]at z
 have g1:=XT ia
 have ix:=n_ hn k1 ia (z.trans g1.symm)
 rw[j5 ia]at ix
 split at ix<;>omega
noncomputable def bH (y:List Nat) (e:Nat):Nat:=dt y (ax e)
theorem j6 {y:List Nat} (h:Yd y) {e:Nat} (he:e∈y):bH y e∈y:=fE (h.cl e he)
theorem sC {y:List Nat} (h:Yd y) {a b:Nat} (ha:a∈y) (hb:b∈y) (e:bH y a=bH y b):a=b:=
 cB (h.lt a ha) (h.lt b hb) (yy h.nd (h.cl a ha) (h.cl b hb) e)
def Path (f:Nat->Nat):List Nat->Nat->Prop
 | [],_=>True
 | a::r,z=>f a=r.headD z/\Path f r z
theorem j7 (a b:List Nat) (z:Nat):(a++b).headD z=a.headD (b.headD z):=by cases a<;>rfl
theorem bZ {f:Nat->Nat}: ∀{a b:List Nat} {z:Nat},Path f (a++b) z↔Path f a (b.headD z)/\Path f b z
 | [],b,z=>⟨fun h=>⟨trivial,h⟩,fun h=>h.2⟩
 | c::a,b,z=>by
  show (f c=(a++b).headD z/\Path f (a++b) z)↔(f c=a.headD (b.headD z)/\Path f a (b.headD z))/\Path f b z
  rw[j7,bZ (a:=a),and_assoc]
theorem mL {f:Nat->Nat}: ∀{w:List Nat} {z k a b:Nat},Path f w z->w[k]? =some a->w[k+1]? =some b->b=f a
 | [],z,k,a,b,_,h,_=>by cases h
 | c::r,z,0,a,b,h,h1,h2=>by
  have e1:c=a:=by simpa using h1
  have e2:r[0]? =some b:=by simpa using h2
  cases r with
  | nil=>cases e2
  | cons d r=>
   have e3:d=b:=by simpa using e2
   have:=h.1
   rw[<-e3, <-e1]
   exact this.symm
 | c::r,z,k+1,a,b,h,h1,h2=>mL h.2 (by simpa using h1) (by simpa using h2)
theorem uS {f:Nat->Nat}: ∀{w:List Nat} {z c:Nat},Path f w z->c∈w->f c∈w\/f c=z
 | [],z,c,_,h=>absurd h Xl
 | a::r,z,c,h,hc=>by
  rcases T4.mp hc with e | e
  ·subst e
   rw[h.1]
   cases r with
   | nil=>exact .inr rfl
   | cons d r=>exact .inl (NA _ NB)
  ·rcases uS h.2 e with z | z
   ·exact .inl (NA _ z)
   ·exact .inr z
structure di (f:Nat->Nat) (w:List Nat):Prop where
 ne:w≠[]
 nd:w.Nodup
 pa:Path f w (w.headD 0)
theorem di.closed {f:Nat->Nat} {w:List Nat} (h:di f w) {c:Nat} (hc:c∈w):f c∈w:=by
 rcases uS h.pa hc with z | z
 ·exact z
 ·rw[z]
  cases w with
  | nil=>exact absurd hc Xl
  | cons a r=>exact NB
theorem qL {f:Nat->Nat} {c:Nat}: ∀{r s:List Nat},Path f r c->Path f s c->c∉r->c∉s->r.headD c=s.headD c->r=s
 | [],[],_,_,_,_,_=>rfl
 | [],b::s,_,_,_,hs,e=>absurd (show c=b from e) fun z=>hs (z▸NB)
 | a::r,[],_,_,hr,_,e=>absurd (show a=c from e) fun z=>hr (z▸NB)
 | a::r,b::s,h1,h2,hr,hs,e=>by
  have e':a=b:=e
  subst e'
  rw[qL h1.2 h2.2 (fun z=>hr (NA _ z)) (fun z=>hs (NA _ z)) (h1.1.symm.trans h2.1)]
theorem di.begun {f:Nat->Nat} {a b:List Nat} {c:Nat} (h:di f (a++c::b)):di f (c::b++a):=by
 refine ⟨by simp,(XE.nodup_iff).mp h.nd,?_⟩
 have hp:=h.pa
 rw[j7]at hp
 rw[bZ]at hp
 show Path f (c::b++a) c
 rw[bZ]
 exact ⟨hp.2,hp.1⟩
theorem di.one {f:Nat->Nat} {c:Nat} {r s:List Nat} (h:di f (c::r)) (g:di f (c::s)):r=s:=
 qL h.pa.2 g.pa.2 (XD.mp h.nd).1 (XD.mp g.nd).1 (h.pa.1.symm.trans g.pa.1)
theorem di.ring {f:Nat->Nat} {u v:List Nat} {c:Nat} (h:di f u) (g:di f v) (hu:c∈u) (hv:c∈v) (lu:AllLt u) (lv:AllLt v):aE u=aE v/\ ∀d,d∈u↔d∈v:=by
 obtain ⟨a,b,rfl⟩:=Ym hu
 obtain ⟨a2,b2,rfl⟩:=Ym hv
 have e:b++a=b2++a2:=h.begun.one g.begun
 constructor
 ·rw[eW lu.left lu.right,eW lv.left lv.right]
  show aE (c::(b++a))=aE (c::(b2++a2))
  rw[e]
 ·intro d
  have m1:d∈a++c::b↔d=c\/d∈b++a:=by simp only[T3,T4];constructor<;>(intro z;rcases z with z | z | z<;>simp[z])
  have m2:d∈a2++c::b2↔d=c\/d∈b2++a2:=by simp only[T3,T4];constructor<;>(intro z;rcases z with z | z | z<;>simp[z])
  rw[m1,m2,e]
theorem di.shortest {y w:List Nat} (h:Yd y) (h2:2<=y.length) (o:di (bH y) w) (hw: ∀c∈w,c∈y):core (red w)=w:=by
 have key: ∀{a b:Nat},a∈w->b=bH y a->a≠ax b:=fun {a b} ha e z=>by
  have hy:=hw a ha
  have e2:ax a=b:=by rw[z,aD (by rw[e];exact h.lt _ (j6 h hy))]
  exact iq h.nd (h.cl a hy) h2 (show bH y a=ax a by rw[e2,e])
 have hr:red w=w:=dY (wF fun k a b e1 e2=>key (Xo e1) (mL o.pa e1 e2))
 rw[hr]
 refine kZ fun a m z e=>?_
 have hp:=o.pa
 rw[e]at hp
 have B1:Path (bH y) ((a::m)++[z]) a:=hp
 rw[bZ]at B1
 have e3:bH y z=a:=B1.2.1
 have hz:z∈w:=by rw[e];simp
 intro q
 have Vq:=hw z hz
 exact iq h.nd (h.cl z Vq) h2 (by show bH y z=ax z;rw[e3,q])
theorem di.bX {y w:List Nat} (h:Yd y) (h2:2<=y.length) (o:di (bH y) w) (hw: ∀c∈w,c∈y):aE w=bX w:=by rw[ig,o.shortest h h2 hw]
theorem lB (w:List Nat) (c:Nat):c∈bX w↔c∈w:=by
 obtain ⟨k,e⟩:=eV w
 rw[e]
 unfold bE
 constructor
 ·intro z;exact (T3.mp z).elim Ya XF
 ·intro z
  rw[<-T5 k w]at z
  exact (T3.mp z).elim (T6 _) (Xx _)
structure Parts (y:List Nat) (ws:List (List Nat)):Prop where
 eG: ∀w∈ws,di (bH y) w/\ ∀c∈w,c∈y
 pR:ws.Pairwise fun u v=> ∀c,c∈u->c∉v
 all: ∀c∈y, ∃w∈ws,c∈w
theorem Parts.CU {y:List Nat} {ws:List (List Nat)} (h:Yd y) (h2:2<=y.length) (eG: ∀w∈ws,di (bH y) w/\ ∀c∈w,c∈y) (pR:ws.Pairwise fun u v=> ∀c,c∈u->c∉v):(ws.map aE).Nodup:=by
 show (ws.map aE).Pairwise (· ≠ ·)
 rw[YU]
 refine pR.imp_of_mem fun {u v} hu hv d e=>?_
 obtain ⟨ou,uy⟩:=eG u hu
 obtain ⟨ov,vy⟩:=eG v hv
 cases hq:u with
 | nil=>exact ou.ne hq
 | cons c r=>
  have hc:c∈u:=by rw[hq];exact NB
  rw[ou.bX h h2 uy,ov.bX h h2 vy]at e
  have:=(lB u c).mpr hc
  rw[e,lB]at this
  exact d c hc this
theorem Parts.perm {y:List Nat} {ws us:List (List Nat)} (h:Yd y) (h2:2<=y.length) (a:Parts y ws) (b:Parts y us):(ws.map aE).Perm (us.map aE):=by
 have lt: ∀{w:List Nat},(∀c∈w,c∈y)->AllLt w:=fun {w} hw c hc=>h.lt c (hw c hc)
 have one: ∀{ws us:List (List Nat)},Parts y ws->Parts y us-> ∀x∈ws.map aE,x∈us.map aE:=fun {ws us} a b x hx=>by
  obtain ⟨w,hw,rfl⟩:=XH.mp hx
  obtain ⟨ow,wy⟩:=a.eG w hw
  cases hq:w with
  | nil=>exact absurd hq ow.ne
  | cons c r=>
   have hc:c∈w:=by rw[hq];exact NB
   obtain ⟨u,hu,cu⟩:=b.all c (wy c hc)
   obtain ⟨ou,uy⟩:=b.eG u hu
   rw[<-hq,(ow.ring ou hc cu (lt wy) (lt uy)).1]
   exact XH.mpr ⟨u,hu,rfl⟩
 exact (Y5 (Parts.CU h h2 a.eG a.pR) (Parts.CU h h2 b.eG b.pR)).mpr fun x=>⟨one a b x,one b a x⟩
structure Way (y w:List Nat):Prop where
 nd:w.Nodup
 bh: ∀c∈w,c∈y
 pa: ∀z,w≠[]->bH y (w.getLastD 0)=z->Path (bH y) w z
theorem bC (w:List Nat) (c d:Nat):(w++[c]).getLastD d=c:=by simp[List.getLastD_eq_getLast?]
theorem Way.more {y w:List Nat} (h:Yd y) (o:Way y w) (cR:w≠[]) (hb:bH y (w.getLastD 0)≠w.headD 0):Way y (w++[bH y (w.getLastD 0)]):=by
 obtain ⟨m,l,e⟩: ∃m l,w=m++[l]:=by
  rcases snoc_cases w with z | z
  ·exact absurd z cR
  ·exact z
 have hl:w.getLastD 0=l:=by rw[e,bC]
 rw[hl]at hb ⊢
 have Ql:l∈w:=by rw[e];simp
 have JE:=o.bh l Ql
 have hP:=o.pa (bH y l) cR (by rw[hl])
 have Qm:bH y l∉w:=fun z=>by
  -- OF comes there a second time comes from Hc same one
  obtain ⟨i,hi,ei⟩:=List.mem_iff_getElem.mp z
  cases i with
  | zero=>
   apply hb
   cases w with
   | nil=>exact absurd rfl cR
   | cons a r=>exact ei.symm
  | succ i=>
   have e1:w[i]? =some w[i]:=Hz (by omega)
   have e2:w[i+1]? =some w[i+1]:=Hz hi
   have e3:=mL hP e1 e2
   rw[ei]at e3
   have e4:=sC h JE (o.bh _ (YA _)) e3
   have hlen:w.length=m.length+1:=by rw[e];simp
   have e5:w[m.length]'(by omega)=l:=by simp[e]
   have:=n_ o.nd (by omega) (by omega) (e5.trans e4)
   omega
 refine ⟨?_,fun c hc=>?_,fun z _ hz=>?_⟩
 ·rw[XS]
  refine ⟨o.nd,XD.mpr ⟨Xl,Yk⟩,fun a ha b BC q=>?_⟩
  rw[Hy.mp BC]at q
  exact Qm (q▸ha)
 ·rcases T3.mp hc with q | q
  ·exact o.bh c q
  ·rw[Hy.mp q];exact j6 h JE
 ·rw[bZ]
  rw[bC]at hz
  exact ⟨hP,hz,trivial⟩
theorem Way.one {y:List Nat} {c:Nat} (hc:c∈y):Way y [c]:=⟨XD.mpr ⟨Xl,Yk⟩,fun d hd=>by rw[Hy.mp hd];exact hc,fun z _ hz=>⟨hz,trivial⟩⟩
theorem Way.back {y w:List Nat} (o:Way y w) (cR:w≠[]) (hb:bH y (w.getLastD 0)=w.headD 0):di (bH y) w:=⟨cR,o.nd,o.pa _ cR hb⟩
theorem Way.len {y w:List Nat} (o:Way y w):w.length<=y.length:=o.nd.length_le_of_subset fun c hc=>o.bh c hc
theorem yz {f:Nat->Nat}: ∀{w:List Nat} {z:Nat},(∀i a,w[i]? =some a->f a=(w[i+1]?).getD z)->Path f w z
 | [],_,_=>trivial
 | a::r,z,h=>by
  refine ⟨?_,yz fun i b hb=>h (i+1) b (by simpa using hb)⟩
  have:=h 0 a rfl
  rw[this]
  cases r with
  | nil=>rfl
  | cons b r=>rfl
theorem j8 {f g:Nat->Nat}: ∀{w:List Nat} {z:Nat},Path f w z->Path g w z-> ∀c∈w,f c=g c
 | [],_,_,_,_,h=>absurd h Xl
 | a::r,z,h1,h2,c,hc=>by
  rcases T4.mp hc with e | e
  ·rw[e,h1.1,h2.1]
  ·exact j8 h1.2 h2.2 c e
theorem jq {f g:Nat->Nat}: ∀{w:List Nat} {z:Nat},Path f w z->(∀c∈w,g c=f c)->Path g w z
 | [],_,_,_=>trivial
 | a::r,z,h,e=>⟨by rw[e a NB];exact h.1,jq h.2 fun c hc=>e c (NA _ hc)⟩
theorem iO {y:List Nat} (hn:y.Nodup) (hy:y≠[]):di (dt y) y:=by
 refine ⟨hy,hn,yz fun i a h=>?_⟩
 obtain ⟨hi,e⟩:=Ru.mp h
 have ha:a∈y:=Xo h
 obtain ⟨hk,e2⟩:=fL ha
 have hx:y.idxOf a=i:=n_ hn (T2 ha) hi ((XT _).trans e.symm)
 have e3:dt y a=y[(i+1)%y.length]'(Zx _ (by omega)):=by rw[e2];congr 2;rw[hx]
 rw[e3]
 by_cases z:i+1<y.length
 ·rw[Hz z]
  show _=y[i+1]
  congr 1
  exact Yi z
 ·rw[YL (by omega)]
  have e4:(i+1)%y.length=0:=by rw[show i+1=y.length by omega,ZR]
  cases y with
  | nil=>exact absurd rfl hy
  | cons b r=>
   show (b::r)[(i+1)%(b::r).length]'_=b
   simp only[e4]
   rfl
theorem Be {a b:List Nat} (h:S a=S b):a=b:=by rw[<-bV a,h,bV]
noncomputable def tk (e:Nat):Key:=Sum.inr (S [e])
theorem IS {a b:Nat} (h:tk a=tk b):a=b:=by
 have:=Be (Sum.inr.inj h)
 simpa using this
inductive jd (p_:PySem.W.Frag) (vs:List V) (H:Hp) (Q:VK) (gR:XK):Prop
 | mk (y:List Nat) (e:Nat) (_:vs=[.str (S y), .str (S [e])]) (_:e∈y) (_:y.length<=1000) (_:Q (.str (S [dt y e])) H):jd p_ vs H Q gR
def lU (p_:PySem.W.Frag):Sp:=jd p_
theorem sD {K:PySem.W.Frag} {vs:List V} {H:Hp} {Q:VK} {E:XK} (h:lU K vs H Q E):vs.length=2:=by obtain ⟨c,_,rfl,_⟩:=h;rfl
inductive gK (p_:PySem.W.Frag) (vs:List V) (H:Hp) (Q:VK) (gR:XK):Prop
 | mk (y:List Nat) (e:Nat) (_:vs=[.str (S y), .str (S [e])]) (_:Yd y) (_:e∈y) (_:y.length<=100) (_: ∀w,di (bH y) w->(∀c∈w,c∈y)->ax e∈w->Q (.str (S w)) H):gK p_ vs H Q gR
def je (p_:PySem.W.Frag):Sp:=gK p_
theorem oD {K:PySem.W.Frag} {vs:List V} {H:Hp} {Q:VK} {E:XK} (h:je K vs H Q E):vs.length=2:=by obtain ⟨c,_,rfl,_⟩:=h;rfl
def eQ (y:List Nat) (L:List (List Nat)):Prop:= ∃ws,Parts y ws/\L.Perm (ws.map aE)/\L.Pairwise fun a b=> ¬b<a
theorem eQ.lt {y:List Nat} {L:List (List Nat)} (h:Yd y) (a:eQ y L): ∀l∈L, ∀c∈l,c<128:=fun l hl c hc=>by
 obtain ⟨ws,p,q,r⟩:=a
 obtain ⟨w,hw,rfl⟩:=XH.mp (q.mem_iff.mp hl)
 exact (Cn (fun d hd=>h.lt d ((p.eG w hw).2 d hd)) c hc).lt
theorem eQ.h_ {y:List Nat} {L:List (List Nat)} (a:eQ y L):L.length<=y.length/\ ∀l∈L,l.length<=y.length:=by
 obtain ⟨ws,p,q,r⟩:=a
 constructor
 ·rw[q.length_eq,WH]
  have key: ∀(ws:List (List Nat)),(∀w∈ws,w≠[]/\w.Nodup/\ ∀c∈w,c∈y)->(ws.Pairwise fun u v=> ∀c,c∈u->c∉v)->ws.flatten.Nodup/\(∀c∈ws.flatten,c∈y)/\ws.length<=ws.flatten.length:=by
   intro ws
   induction ws with
   | nil=>intro _ _;exact ⟨Yk,fun _ h=>absurd h Xl,Rv _⟩
   | cons w ws ih=>
    intro h d
    obtain ⟨h1,h2⟩:=Yq.mp d
    obtain ⟨i1,i2,i3⟩:=ih (fun u hu=>h u (NA _ hu)) h2
    obtain ⟨g1,g2,g3⟩:=h w NB
    refine ⟨?_,fun c hc=>?_,?_⟩
    ·rw[X7,XS]
     refine ⟨g2,i1,fun a ha b hb z=>?_⟩
     subst z
     obtain ⟨u,hu,MN⟩:=Qat.mp hb
     exact h1 u hu a ha MN
    ·rw[X7]at hc
     exact (T3.mp hc).elim (g3 c) (i2 c)
    ·rw[X7,Jy,Xn]
     have:=Xs.mpr g1
     omega
  obtain ⟨k1,k2,k3⟩:=key ws (fun w hw=>⟨(p.eG w hw).1.ne,(p.eG w hw).1.nd,(p.eG w hw).2⟩) p.pR
  exact XG k3 (k1.length_le_of_subset fun c hc=>k2 c hc)
 ·intro l hl
  obtain ⟨w,hw,rfl⟩:=XH.mp (q.mem_iff.mp hl)
  exact XG (qD w) ((p.eG w hw).1.nd.length_le_of_subset fun c hc=>(p.eG w hw).2 c hc)
def yA (_:PySem.W.Frag):Sp:=fun vs H Q _=> ∃y:List Nat,vs=[.str (S y)]/\Yd y/\2<=y.length/\y.length<=8/\ ∀(q:Addr) (L:List (List Nat)) (H':Hp),eQ y L->H q=none->H' q=some (.lst (b0 L))->ay H H'->Q (.ref q) H'
theorem CV {K:PySem.W.Frag} {vs:List V} {H:Hp} {Q:VK} {E:XK} (h:yA K vs H Q E):vs.length=1:=by obtain ⟨c,rfl,_⟩:=h;rfl
def oE (_:PySem.W.Frag):Sp:=fun vs H Q _=> ∃y:List Nat,vs=[.str (S y)]/\Yd y/\2<=y.length/\y.length<=8/\ ∀(L:List (List Nat)) (H':Hp),eQ y L->ay H H'->Q (.int ((((y.length:Int) / 2)+1 - (L.length:Int)) / 2)) H'
theorem uT {K:PySem.W.Frag} {vs:List V} {H:Hp} {Q:VK} {E:XK} (h:oE K vs H Q E):vs.length=1:=by obtain ⟨c,rfl,_⟩:=h;rfl
structure mv (y:List Nat) (e:Nat) (w:List Nat) (pl:Nat):Prop where
 way:Way y w
 JF:pl∈y
 no:w=[]->pl=e
 hd:w≠[]->w.headD 0=dt y e/\pl=ax (w.getLastD 0)
theorem Way.nil (y:List Nat):Way y []:=⟨Yk,fun _ h=>absurd h Xl,fun _ h _=>absurd rfl h⟩
theorem mv.start {y:List Nat} {e:Nat} (he:e∈y):mv y e [] e:=⟨Way.nil y,he,fun _=>rfl,fun h=>absurd rfl h⟩
theorem Ac {w:List Nat} {c d:Nat} (h:w≠[]):(w++[c]).headD d=w.headD d:=by cases w with
 | nil=>exact absurd rfl h
 | cons a r=>rfl
theorem mv.turn {y w:List Nat} {e pl:Nat} (h:Yd y) (he:e∈y) (r:mv y e w pl) (go:w=[]\/pl≠e):mv y e (w++[dt y pl]) (ax (dt y pl)):=by
 have hm:=fE r.JF
 by_cases z:w=[]
 ·have e1:=r.no z
  subst z
  exact ⟨Way.one hm,h.cl _ hm,fun q=>absurd q (by simp),fun _=>⟨by rw[<-e1];rfl,rfl⟩⟩
 ·obtain ⟨h1,h2⟩:=r.hd z
  have cR:=go.resolve_left z
  have e1:dt y pl=bH y (w.getLastD 0):=by rw[h2];rfl
  have hb:bH y (w.getLastD 0)≠w.headD 0:=fun q=>cR (yy h.nd r.JF he (by rw[e1,q,h1]))
  rw[e1]
  refine ⟨r.way.more h z hb,h.cl _ (by rw[<-e1];exact hm),fun q=>absurd q (by simp),fun _=>⟨by rw[Ac z,h1],by rw[bC]⟩⟩
theorem mv.stop {y w:List Nat} {e:Nat} (h:Yd y) (r:mv y e w e) (cR:w≠[]):di (bH y) w/\ax e∈w:=by
 obtain ⟨h1,h2⟩:=r.hd cR
 have hl:w.getLastD 0∈w:=by
  rcases snoc_cases w with z | ⟨m,a,z⟩
  ·exact absurd z cR
  ·rw[z,bC];simp
 refine ⟨r.way.back cR ?_,?_⟩
 ·rw[h1];unfold bH;rw[<-h2]
 ·rw[h2,aD (h.lt _ (r.way.bh _ hl))];exact hl
structure gL (y:List Nat) (i:Nat) (ws:List (List Nat)):Prop where
 eG: ∀w∈ws,di (bH y) w/\ ∀c∈w,c∈y
 pR:ws.Pairwise fun u v=> ∀c,c∈u->c∉v
 Qn: ∀e∈y.take i, ∃w∈ws,ax e∈w
 h_:ws.length<=i
theorem gL.start (y:List Nat):gL y 0 []:=⟨fun _ h=>absurd h Xl,List.Pairwise.nil,fun _ h=>absurd h (by simp),Rv _⟩
theorem gL.skip {y:List Nat} {i e:Nat} {ws:List (List Nat)} (r:gL y i ws) (he:y[i]? =some e) (z: ∃w∈ws,ax e∈w):gL y (i+1) ws:=
 ⟨r.eG,r.pR,fun d hd=>by
  rw[<-take_snoc he]at hd
  rcases T3.mp hd with q | q
  ·exact r.Qn d q
  ·rw[Hy.mp q];exact z,YR r.h_⟩
theorem uU {y c:List Nat} {ws:List (List Nat)} {e:Nat} (h:Yd y) (eG: ∀w∈ws,di (bH y) w/\ ∀c∈w,c∈y) (pR:ws.Pairwise fun u v=> ∀c,c∈u->c∉v) (o:di (bH y) c) (hc: ∀d∈c,d∈y) (he:e∈c) (no: ∀w∈ws,e∉w):(ws++[c]).Pairwise fun u v=> ∀c,c∈u->c∉v:=by
 rw[XO]
 refine ⟨pR,X1 _ _,fun u hu v hv d du dv=>?_⟩
 rw[Hy.mp hv]at dv
 obtain ⟨ou,uy⟩:=eG u hu
 exact no u hu (((ou.ring o du dv (fun d hd=>h.lt d (uy d hd)) (fun d hd=>h.lt d (hc d hd))).2 e).mpr he)
theorem gL.turn {y w:List Nat} {i e:Nat} {ws:List (List Nat)} (h:Yd y) (r:gL y i ws) (he:y[i]? =some e) (no: ¬ ∃w∈ws,ax e∈w) (o:di (bH y) w) (hw: ∀c∈w,c∈y) (hc:ax e∈w):gL y (i+1) (ws++[w]):=by
 refine ⟨fun u hu=>?_,uU h r.eG r.pR o hw hc fun u hu z=>no ⟨u,hu,z⟩,fun d hd=>?_,by rw[Jy];exact Qap r.h_⟩
 ·rcases T3.mp hu with q | q
  ·exact r.eG u q
  ·rw[Hy.mp q];exact ⟨o,hw⟩
 ·rw[<-take_snoc he]at hd
  rcases T3.mp hd with q | q
  ·obtain ⟨u,hu,z⟩:=r.Qn d q
   exact ⟨u,Xx _ hu,z⟩
  ·rw[Hy.mp q];exact ⟨w,by simp,hc⟩
theorem gL.done {y:List Nat} {ws:List (List Nat)} (h:Yd y) (r:gL y y.length ws):Parts y ws:=⟨r.eG,r.pR,fun c hc=>by
 obtain ⟨w,hw,z⟩:=r.Qn (ax c) (by rw[Yz];exact h.cl c hc)
 rw[aD (h.lt c hc)]at z
 exact ⟨w,hw,z⟩⟩
theorem qM {w:List Nat} (h:w≠[]):w.getLastD 0∈w:=by
 rcases snoc_cases w with z | ⟨m,a,z⟩
 ·exact absurd z h
 ·rw[z,bC];simp
theorem di.congr {f g:Nat->Nat} {w:List Nat} (h:di f w) (e: ∀c∈w,g c=f c):di g w:=⟨h.ne,h.nd,jq h.pa e⟩
theorem Fg {a b:List Nat} (hn:(a++b).Nodup) (c:Nat) (hc:c∈a++b):dt (b++a) c=dt (a++b) c:=by
 cases b with
 | nil=>rw[XA,YH]
 | cons d b=>
  have o1:=(iO hn (by simp)).begun
  have o2:di (dt (d::b++a)) (d::b++a):=iO (XE.nodup_iff.mp hn) (by simp)
  exact j8 o2.pa o1.pa c (XE.mem_iff.mp hc)
theorem Yd.bE {a b:List Nat} (h:Yd (a++b)):Yd (b++a):=h.perm XE
theorem Ad {a b:List Nat} {ws:List (List Nat)} (h:Yd (a++b)) (p:Parts (a++b) ws):Parts (b++a) ws:=
 ⟨fun w hw=>⟨(p.eG w hw).1.congr fun c hc=>Fg h.nd _ (h.cl c ((p.eG w hw).2 c hc)),fun c hc=>XE.mem_iff.mp ((p.eG w hw).2 c hc)⟩,p.pR,fun c hc=>p.all c (XE.mem_iff.mp hc)⟩
theorem j9 {y w:List Nat} (h:Yd y) (h2:2<=y.length) (o:di (bH y) w) (hw: ∀c∈w,c∈y):di (bH y) (aE w)/\ ∀c,c∈aE w↔c∈w:=by
 rw[o.bX h h2 hw]
 refine ⟨?_,lB w⟩
 obtain ⟨k,e⟩:=eV w
 rw[e]
 unfold bE
 have o2:=o
 rw[<-T5 k w]at o2
 cases q:w.drop k with
 | nil=>
  rw[q,XA]at o2
  rw[YH]
  exact o2
 | cons d b=>
  rw[q]at o2
  exact o2.begun
theorem Fh {y:List Nat} {e:Nat} (hn:y.Nodup) (he:e∈y):y.reverse.idxOf e=y.length - 1 - y.idxOf e:=by
 have hi:=T2 he
 have hr:=XQ.mpr he
 have hj:=T2 hr
 have Ii:y.reverse.Nodup:=(Y4 y).nodup_iff.mpr hn
 refine n_ Ii hj (by rw[Xq];omega) ?_
 rw[XT,List.getElem_reverse]
 have:y.length - 1 - (y.length - 1 - y.idxOf e)=y.idxOf e:=by omega
 simp only[this]
 exact (XT _).symm
theorem yB {y:List Nat} {e:Nat} (hn:y.Nodup) (he:e∈y):dt y.reverse (dt y e)=e:=by
 have hm:=fE he
 obtain ⟨hk,e1⟩:=fL he
 obtain ⟨vC,e2⟩:=fL (XQ.mpr hm)
 have hi:=T2 he
 have hx:y.idxOf (dt y e)=(y.idxOf e+1)%y.length:=n_ hn (T2 hm) hk ((XT _).trans e1)
 have hr:=Fh hn hm
 rw[hx]at hr
 rw[e2,List.getElem_reverse]
 have key:y.length - 1 - (y.reverse.idxOf (dt y e)+1)%y.reverse.length=y.idxOf e:=by
  rw[Xq,hr]
  rw[j5 hi]
  split
  ·rename_i q
   rw[show y.length - 1 - 0+1=y.length by omega,ZR]
   omega
  ·rename_i q
   rw[show y.length - 1 - (y.idxOf e+1)+1=y.length - (y.idxOf e+1) by omega,Yi (by omega)]
   omega
 simp only[key]
 exact XT _
theorem Yd.over {y:List Nat} (h:Yd y):Yd y.reverse:=h.perm (Y4 y).symm
theorem uV {f F h:Nat->Nat}: ∀{w:List Nat} {z t:Nat},w≠[]->Path f w z->(∀c∈w,F (h (f c))=h c)->F (h (w.headD 0))=t->Path F (w.map h).reverse t
 | [],_,_,n,_,_,_=>absurd rfl n
 | [a],z,t,_,_,_,e=>⟨e,trivial⟩
 | a::b::r,z,t,_,p,e,q=>by
  have ih:=uV (z:=z) (t:=h a) (w:=b::r) (by simp) p.2 (fun c hc=>e c (NA _ hc)) (by
   have:=e a NB
   rw[p.1]at this
   exact this)
  rw[XM,ZG,bZ]
  exact ⟨ih,q,trivial⟩
theorem qN {f:Nat->Nat} {w:List Nat} {a z:Nat} (p:Path f (w++[a]) z):f a=z:=(bZ.mp p).2.1
noncomputable def over (f:Nat->Nat) (a c:Nat):Nat:=if f c=a then f a else f c
theorem lC {f:Nat->Nat} {a:Nat}: ∀{w:List Nat} {z:Nat},Path f w z->a∉w->Path (over f a) w (if z=a then f a else z)
 | [],_,_,_=>trivial
 | c::r,z,h,n=>by
  refine ⟨?_,lC h.2 fun g=>n (NA _ g)⟩
  unfold over
  rw[h.1]
  cases r with
  | nil=>rfl
  | cons d r=>
   show (if d=a then f a else d)=d
   rw[if_neg fun g=>n (by rw[g];exact NA _ NB)]
theorem CW {f:Nat->Nat} {l1 l2:List Nat} {a:Nat} (h:di f (l1++a::l2)) (cR:l1++l2≠[]):di (over f a) (l1++l2):=by
 have MO:=h.nd
 rw[XS]at MO
 obtain ⟨g1,g2,g3⟩:=MO
 obtain ⟨g4,g5⟩:=XD.mp g2
 have n1:a∉l1:=fun z=>g3 a z a NB rfl
 have hp:=h.pa
 rw[j7]at hp
 have hz: ∀d,l1.headD ((a::l2).headD d)=l1.headD a:=fun d=>rfl
 rw[hz,bZ]at hp
 obtain ⟨p1,p2,p3⟩:=hp
 have q1:=lC p1 n1
 have q2:=lC p3 g4
 have e1:((a::l2).headD (l1.headD a))=a:=rfl
 rw[e1,if_pos rfl]at q1
 refine ⟨cR,by rw[XS];exact ⟨g1,g5,fun x hx y hy=>g3 x hx y (NA _ hy)⟩,?_⟩
 have e2:(l1++l2).headD 0=if l1.headD a=a then f a else l1.headD a:=by
  cases l1 with
  | nil=>
   show l2.headD 0=if a=a then f a else a
   rw[if_pos rfl,p2]
   cases l2 with
   | nil=>exact absurd rfl cR
   | cons b r=>rfl
  | cons c r=>
   show c=if c=a then f a else c
   rw[if_neg fun g=>n1 (by rw[g];exact NB)]
 rw[e2,bZ]
 refine ⟨?_,q2⟩
 have e3:l2.headD (if l1.headD a=a then f a else l1.headD a)=f a:=by
  rw[p2]
  cases l2 with
  | nil=>
   show (if l1.headD a=a then l1.headD a else l1.headD a)=l1.headD a
   split<;>rfl
  | cons b r=>rfl
 rw[e3]
 exact q1
theorem uW {y:List Nat} {a c:Nat} (hn:y.Nodup) (ha:a∈y) (hc:c∈y) (Vr:c≠a):dt (y.filter fun d=>decide (d≠a)) c=over (dt y) a c:=by
 obtain ⟨l1,l2,rfl⟩:=Ym ha
 have MO:=hn
 rw[XS]at MO
 obtain ⟨g1,g2,g3⟩:=MO
 obtain ⟨g4,g5⟩:=XD.mp g2
 have n1:a∉l1:=fun z=>g3 a z a NB rfl
 have hf:((l1++a::l2).filter fun d=>decide (d≠a))=l1++l2:=by
  rw[Zg,YG (by simp)]
  congr 1
  ·exact Zc.mpr fun d hd=>decide_eq_true fun g=>n1 (g▸hd)
  ·exact Zc.mpr fun d hd=>decide_eq_true fun g=>g4 (g▸hd)
 have hm:c∈l1++l2:=by
  rcases T3.mp hc with z | z
  ·exact Xx _ z
  ·exact T6 _ ((T4.mp z).resolve_left Vr)
 have cR:l1++l2≠[]:=Zz hm
 rw[hf]
 have o1:=CW (iO hn (Zz ha)) cR
 have o2:=iO o1.nd cR
 exact j8 o2.pa o1.pa c hm
noncomputable def less (y:List Nat) (a:Nat):List Nat:=(y.filter fun d=>decide (d≠a)).filter fun d=>decide (d≠ax a)
theorem bU {y:List Nat} {a c:Nat}:c∈less y a↔c∈y/\c≠a/\c≠ax a:=by
 unfold less
 rw[Xp,Xp]
 simp[and_assoc]
theorem Fi {y:List Nat} {a:Nat} (h:Yd y) (ha:a∈y):Yd (less y a):=by
 refine ⟨(h.nd.filter _).filter _,fun c hc=>h.lt c (bU.mp hc).1,fun c hc=>?_⟩
 obtain ⟨h1,h2,h3⟩:=bU.mp hc
 refine bU.mpr ⟨h.cl c h1,fun z=>h3 ?_,fun z=>h2 (cB (h.lt c h1) (h.lt a ha) z)⟩
 rw[<-z,aD (h.lt c h1)]
theorem ir {y:List Nat} {a e:Nat} (h:Yd y) (ha:a∈y) (he:e∈less y a):bH (less y a) e=(let g:=if bH y e=a then bH y (ax a) else bH y e;if g=ax a then (if bH y a=a then bH y (ax a) else bH y a) else g):=by
 have AI:=bU.mp ((Fi h ha).cl e he)
 have hA:=h.cl a ha
 have JG:ax a≠a:=kW (h.lt a ha)
 have Sm:ax e∈y.filter fun d=>decide (d≠a):=Xp.mpr ⟨AI.1,decide_eq_true AI.2.1⟩
 have Sn:ax a∈y.filter fun d=>decide (d≠a):=Xp.mpr ⟨hA,decide_eq_true JG⟩
 have k1: ∀c∈y.filter (fun d=>decide (d≠a)),dt (y.filter fun d=>decide (d≠a)) c=over (dt y) a c:=fun c hc=>by
  obtain ⟨m1,m2⟩:=Xp.mp hc
  exact uW h.nd ha m1 (of_decide_eq_true m2)
 have t1:dt y a=bH y (ax a):=by unfold bH;rw[aD (h.lt a ha)]
 show dt (less y a) (ax e)=_
 unfold less
 rw[uW (h.nd.filter _) Sn Sm AI.2.2]
 unfold over
 rw[k1 _ Sm,k1 _ Sn]
 unfold over
 rw[t1]
 rfl
theorem di.same {f g:Nat->Nat} {w:List Nat} (o:di f w) (e: ∀c∈w,g c=f c):di g w:=⟨o.ne,o.nd,jq o.pa e⟩
theorem uX {y:List Nat} {a e:Nat} (h:Yd y) (ha:a∈y) (he:e∈less y a) (h1:bH y e≠a) (h2:bH y e≠ax a):bH (less y a) e=bH y e:=by
 rw[ir h ha he]
 simp only[if_neg h1,if_neg h2]
theorem fX {y:List Nat} {a:Nat} (h:Yd y) (ha:a∈y): ∀{w:List Nat} {z z':Nat},Path (bH y) w z->(∀c∈w,c∈less y a)->(∀c∈w,bH y c=z->(∀d∈w,d≠z)->bH (less y a) c=z')->(∀d∈w,d≠z)->Path (bH (less y a)) w z'
 | [],_,_,_,_,_,_=>trivial
 | c::r,z,z',hp,hw,hl,hn=>by
  refine ⟨?_,?_⟩
  ·cases r with
   | nil=>exact hl c NB hp.1 hn
   | cons d r=>
    have hd:=bU.mp (hw d (NA _ NB))
    have e1:bH y c=d:=hp.1
    show bH (less y a) c=d
    rw[uX h ha (hw c NB) (by rw[e1];exact hd.2.1) (by rw[e1];exact hd.2.2),e1]
  ·exact fX h ha hp.2 (fun d hd=>hw d (NA _ hd)) (fun d hd e _=>hl d (NA _ hd) e hn) fun d hd=>hn d (NA _ hd)
theorem Ae {y:List Nat} {a:Nat} {ws:List (List Nat)} (h:Yd y) (h4:3<=y.length) (ha:a∈y) (P:Parts y ws): ∃us rs,Parts (less y a) us/\((∃w u v,ws.Perm (w::rs)/\a∈w/\ax a∈w/\us=u::v::rs)\/ ∃w x t,ws.Perm (w::x::rs)/\a∈w/\a∉x/\ax a∈x/\us=t::rs):=by
 have hA:=h.cl a ha
 have NX:=h.lt a ha
 have JG:ax a≠a:=kW NX
 have h2:2<=y.length:=by omega
 have Vs:bH y a≠ax a:=iq h.nd hA h2
 have Vt:bH y (ax a)≠a:=by
  have:=iq h.nd ha h2
  unfold bH
  rw[aD NX]
  exact this
 obtain ⟨w,hw,JH⟩:=P.all a ha
 obtain ⟨r1,r2,er⟩:=Ym hw
 have i9:ws.Perm (w::(r1++r2)):=by rw[er];exact Qas
 have pR:(w::(r1++r2)).Pairwise fun u v=> ∀c,c∈u->c∉v:=i9.pairwise P.pR (fun {u v} g c hc hd=>g c hd hc)
 obtain ⟨dw,dr⟩:=Yq.mp pR
 have Fj: ∀u∈w::(r1++r2),di (bH y) u/\ ∀c∈u,c∈y:=fun u hu=>P.eG u (i9.mem_iff.mpr hu)
 have tZ: ∀c∈y, ∃u∈w::(r1++r2),c∈u:=fun c hc=>by
  obtain ⟨u,hu,MP⟩:=P.all c hc
  exact ⟨u,i9.mem_iff.mp hu,MP⟩
 have hlen:ws.length=(r1++r2).length+1:=by rw[i9.length_eq];rfl
 generalize r1++r2=rs at dw dr Fj tZ hlen i9
 obtain ⟨ow,wy⟩:=Fj w NB
 -- w begun at a
 obtain ⟨x1,x2,ew⟩:=Ym JH
 rw[ew]at ow
 have oa:=ow.begun
 have mw: ∀d,d∈w↔d∈a::(x2++x1):=fun d=>by
  rw[ew]
  simp only[T3,T4]
  constructor<;>(intro z;rcases z with z | z | z<;>simp[z])
 have MQ:di (bH y) (a::(x2++x1)):=oa
 generalize x2++x1=t at mw MQ
 clear oa ow ew
 -- a MR without a and aF contrary stays
 have iV: ∀u∈rs,ax a∉u->di (bH (less y a)) u/\ ∀c∈u,c∈less y a:=fun u hu nA=>by
  obtain ⟨ou,uy⟩:=Fj u (NA _ hu)
  have na:a∉u:=fun z=>dw u hu a JH z
  have ul: ∀c∈u,c∈less y a:=fun c hc=>bU.mpr ⟨uy c hc,fun z=>na (z▸hc),fun z=>nA (z▸hc)⟩
  exact ⟨ou.same fun c hc=>uX h ha (ul c hc) (fun z=>na (z▸ou.closed hc)) (fun z=>nA (z▸ou.closed hc)),ul⟩
 have GQ:=XD.mp MQ.nd
 by_cases MS:ax a∈t
 ·-- of one MR two
  obtain ⟨u,v,et⟩:=Ym MS
  subst et
  have hp:=MQ.pa
  obtain ⟨p1,p2⟩:=(show bH y a=(u++ax a::v).headD a/\Path (bH y) (u++ax a::v) a from hp)
  rw[bZ]at p2
  obtain ⟨p3,p4,p5⟩:=p2
  have MF:=GQ.2
  rw[XS]at MF
  obtain ⟨nu,Vu,So⟩:=MF
  obtain ⟨Sq,nv⟩:=XD.mp Vu
  have Sr:ax a∉u:=fun z=>So _ z _ NB rfl
  have Ss:a∉u:=fun z=>GQ.1 (Xx _ z)
  have NY:a∉v:=fun z=>GQ.1 (T6 _ (NA _ z))
  have IT:u≠[]:=fun z=>Vs (by rw[p1,z];rfl)
  have IU:v≠[]:=fun z=>Vt (by rw[p4,z];rfl)
  have uw: ∀c∈u,c∈w:=fun c hc=>(mw c).mpr (NA _ (Xx _ hc))
  have vw: ∀c∈v,c∈w:=fun c hc=>(mw c).mpr (NA _ (T6 _ (NA _ hc)))
  have ul: ∀c∈u,c∈less y a:=fun c hc=>bU.mpr ⟨wy c (uw c hc),fun z=>Ss (z▸hc),fun z=>Sr (z▸hc)⟩
  have vl: ∀c∈v,c∈less y a:=fun c hc=>bU.mpr ⟨wy c (vw c hc),fun z=>NY (z▸hc),fun z=>Sq (z▸hc)⟩
  have ea:bH y a=u.headD 0:=by rw[p1];cases u with
   | nil=>exact absurd rfl IT
   | cons b r=>rfl
  have eA:bH y (ax a)=v.headD 0:=by rw[p4];cases v with
   | nil=>exact absurd rfl IU
   | cons b r=>rfl
  have Vv:u.headD 0∈u:=by cases u with
   | nil=>exact absurd rfl IT
   | cons b r=>exact NB
  have Vw:v.headD 0∈v:=by cases v with
   | nil=>exact absurd rfl IU
   | cons b r=>exact NB
  have ou:di (bH (less y a)) u:=⟨IT,nu,fX h ha p3 ul (fun c hc e _=>by
   have e':bH y c=ax a:=e
   rw[ir h ha (ul c hc)]
   simp only[e',if_neg JG,if_true]
   rw[if_neg (by rw[ea];exact fun z=>Ss (z▸Vv)),ea]) fun d hd z=>Sr (by rw[show ax a=d from z.symm];exact hd)⟩
  have ov:di (bH (less y a)) v:=⟨IU,nv,fX h ha p5 vl (fun c hc e _=>by
   have e':bH y c=a:=e
   rw[ir h ha (vl c hc)]
   simp only[e',if_true]
   rw[if_neg (by rw[eA];exact fun z=>Sq (z▸Vw)),eA]) fun d hd z=>NY (z▸hd)⟩
  refine ⟨u::v::rs,rs,⟨fun x hx=>?_,?_,fun c hc=>?_⟩, .inl ⟨w,u,v,i9,JH,(mw _).mpr (NA _ MS),rfl⟩⟩
  ·rcases T4.mp hx with rfl | hx
   ·exact ⟨ou,ul⟩
   ·rcases T4.mp hx with rfl | hx
    ·exact ⟨ov,vl⟩
    ·exact iV x hx fun z=>dw x hx _ ((mw _).mpr (NA _ MS)) z
  ·refine Yq.mpr ⟨fun x hx c hc=>?_,Yq.mpr ⟨fun x hx c hc=>dw x hx c (vw c hc),dr⟩⟩
   rcases T4.mp hx with rfl | hx
   ·exact fun z=>So c hc c (NA _ z) rfl
   ·exact dw x hx c (uw c hc)
  ·obtain ⟨c1,c2,c3⟩:=bU.mp hc
   obtain ⟨x,hx,NP⟩:=tZ c c1
   rcases T4.mp hx with rfl | hx
   ·have:=(mw c).mp NP
    rcases T3.mp ((T4.mp this).resolve_left c2) with z | z
    ·exact ⟨u,NB,z⟩
    ·exact ⟨v,NA _ NB,(T4.mp z).resolve_left c3⟩
   ·exact ⟨x,NA _ (NA _ hx),NP⟩
 ·-- of two Qo one
  obtain ⟨x,hx,MT⟩:=tZ _ hA
  have hx:x∈rs:=(T4.mp hx).resolve_left fun z=>by
   rw[z,mw]at MT
   exact MS ((T4.mp MT).resolve_left JG)
  obtain ⟨q1,q2,eq⟩:=Ym hx
  have pq:rs.Perm (x::(q1++q2)):=by rw[eq];exact Qas
  have dq:(x::(q1++q2)).Pairwise fun u v=> ∀c,c∈u->c∉v:=pq.pairwise dr (fun {u v} g c hc hd=>g c hd hc)
  obtain ⟨dx,Su⟩:=Yq.mp dq
  have Vx:rs.length=(q1++q2).length+1:=by rw[pq.length_eq];rfl
  have Qp: ∀u∈q1++q2,u∈rs:=fun u hu=>pq.mem_iff.mpr (NA _ hu)
  have MU: ∀u∈rs,u=x\/u∈q1++q2:=fun u hu=>T4.mp (pq.mem_iff.mp hu)
  generalize q1++q2=qs at dx Su Vx Qp MU pq
  obtain ⟨ox,xy⟩:=Fj x (NA _ hx)
  obtain ⟨y1,y2,ex⟩:=Ym MT
  have mx: ∀d,d∈x↔d∈ax a::(y2++y1):=fun d=>by
   rw[ex]
   simp only[T3,T4]
   constructor<;>(intro z;rcases z with z | z | z<;>simp[z])
  have oA:di (bH y) (ax a::(y2++y1)):=by
   rw[ex]at ox
   exact ox.begun
  generalize y2++y1=v at mx oA
  have NZ:=XD.mp oA.nd
  have tw: ∀c∈t,c∈w:=fun c hc=>(mw c).mpr (NA _ hc)
  have vx: ∀c∈v,c∈x:=fun c hc=>(mx c).mpr (NA _ hc)
  have NY:a∉v:=fun z=>dw x hx a JH (vx a z)
  have tl: ∀c∈t,c∈less y a:=fun c hc=>bU.mpr ⟨wy c (tw c hc),fun z=>GQ.1 (z▸hc),fun z=>MS (z▸hc)⟩
  have vl: ∀c∈v,c∈less y a:=fun c hc=>bU.mpr ⟨xy c (vx c hc),fun z=>NY (z▸hc),fun z=>NZ.1 (z▸hc)⟩
  have ea:bH y a=t.headD a:=MQ.pa.1
  have eA:bH y (ax a)=v.headD (ax a):=oA.pa.1
  have pt:Path (bH y) t a:=MQ.pa.2
  have pv:Path (bH y) v (ax a):=oA.pa.2
  have cR:t++v≠[]:=fun z=>by
   obtain ⟨zt,zv⟩:=List.append_eq_nil_iff.mp z
   have e1:dt y (ax a)=a:=by have:=ea;rw[zt]at this;exact this
   have e2:dt y a=ax a:=by
    have:=eA
    rw[zv]at this
    unfold bH at this
    rw[aD NX]at this
    exact this
   have o2:di (dt y) [a,ax a]:=⟨by simp,by simp[Ne.symm JG],⟨e2,e1,trivial⟩⟩
   have o1:=iO h.nd (Zz ha)
   have mm:=(o1.ring o2 ha NB h.lt (fun c hc=>by
    rcases T4.mp hc with g | g
    ·rw[g];exact NX
    ·rw[Hy.mp g];exact h.lt _ hA)).2
   have:=h.nd.length_le_of_subset (l₂:=[a,ax a]) fun c hc=>(mm c).mp hc
   simp at this
   omega
  have h1:t.headD (v.headD 0)=(t++v).headD 0:=(j7 t v 0).symm
  -- behind t comes v,or t again;behind v comes t,or v again
  have oo:di (bH (less y a)) (t++v):=by
   refine ⟨cR,?_,?_⟩
   ·rw[XS]
    exact ⟨GQ.2,NZ.2,fun c hc d hd z=>by subst z;exact dw x hx c (tw c hc) (vx c hd)⟩
   ·rw[bZ]
    constructor
    ·refine fX h ha pt tl (fun c hc e _=>?_) fun d hd z=>GQ.1 (z▸hd)
     rw[ir h ha (tl c hc)]
     simp only[e,if_true]
     rw[eA,ea]
     cases v with
     | nil=>
      cases t with
      | nil=>exact absurd hc Xl
      | cons b r=>
       show (if ax a=ax a then (if b=a then ax a else b) else ax a)=b
       rw[if_pos rfl,if_neg (fun (z:b=a)=>GQ.1 (by rw[<-z];exact NB))]
     | cons b r=>
      show (if b=ax a then _ else b)=b
      rw[if_neg (fun (z:b=ax a)=>NZ.1 (by rw[<-z];exact NB))]
    ·refine fX h ha pv vl (fun c hc e _=>?_) fun d hd z=>NZ.1 (z▸hd)
     rw[ir h ha (vl c hc)]
     simp only[e,if_neg JG,if_true]
     rw[ea,eA]
     cases t with
     | nil=>
      cases v with
      | nil=>exact absurd hc Xl
      | cons b r=>
       show (if a=a then b else a)=b
       rw[if_pos rfl]
     | cons b r=>
      show (if b=a then _ else b)=b
      rw[if_neg (fun (z:b=a)=>GQ.1 (by rw[<-z];exact NB))]
  refine ⟨(t++v)::qs,qs,⟨fun u hu=>?_,?_,fun c hc=>?_⟩, .inr ⟨w,x,t++v,i9.trans (pq.cons w),JH,fun z=>dw x hx a JH z,MT,rfl⟩⟩
  ·rcases T4.mp hu with rfl | hu
   ·exact ⟨oo,fun c hc=>(T3.mp hc).elim (tl c) (vl c)⟩
   ·exact iV u (Qp u hu) fun z=>dx u hu _ MT z
  ·refine Yq.mpr ⟨fun u hu c hc=>?_,Su⟩
   rcases T3.mp hc with g | g
   ·exact dw u (Qp u hu) c (tw c g)
   ·exact dx u hu c (vx c g)
  ·obtain ⟨c1,c2,c3⟩:=bU.mp hc
   obtain ⟨u,hu,MP⟩:=tZ c c1
   rcases T4.mp hu with rfl | hu
   ·exact ⟨t++v,NB,Xx _ ((T4.mp ((mw c).mp MP)).resolve_left c2)⟩
   ·rcases MU u hu with rfl | hu
    ·exact ⟨t++v,NB,T6 _ ((T4.mp ((mx c).mp MP)).resolve_left c3)⟩
    ·exact ⟨u,NA _ hu,MP⟩
theorem CY {y:List Nat} {a:Nat} (h:Yd y) (ha:a∈y):(less y a).length+2=y.length:=by
 have one: ∀{l:List Nat} {b:Nat},l.Nodup->b∈l->(l.filter fun d=>decide (d≠b)).length+1=l.length:=fun {l b} hn hb=>by
  obtain ⟨l1,l2,rfl⟩:=Ym hb
  rw[XS]at hn
  obtain ⟨g1,g2,g3⟩:=hn
  obtain ⟨g4,g5⟩:=XD.mp g2
  have n1:b∉l1:=fun z=>g3 b z b NB rfl
  have hf:((l1++b::l2).filter fun d=>decide (d≠b))=l1++l2:=by
   rw[Zg,YG (by simp)]
   congr 1
   ·exact Zc.mpr fun d hd=>decide_eq_true fun g=>n1 (g▸hd)
   ·exact Zc.mpr fun d hd=>decide_eq_true fun g=>g4 (g▸hd)
  rw[hf]
  simp
  omega
 have h1:=one h.nd ha
 have h2:=one (h.nd.filter fun d=>decide (d≠a)) (Xp.mpr ⟨h.cl a ha,decide_eq_true (kW (h.lt a ha))⟩)
 unfold less
 omega
theorem oF {y:List Nat}: ∀{ws:List (List Nat)},(∀w∈ws,w.Nodup/\ ∀c∈w,c∈y)->(ws.Pairwise fun u v=> ∀c,c∈u->c∉v)->ws.flatten.Nodup
 | [],_,_=>Yk
 | w::ws,h,d=>by
  obtain ⟨h1,h2⟩:=Yq.mp d
  rw[X7,XS]
  refine ⟨(h w NB).1,oF (fun u hu=>h u (NA _ hu)) h2,fun a ha b hb z=>?_⟩
  subst z
  obtain ⟨u,hu,MN⟩:=Qat.mp hb
  exact h1 u hu a ha MN
theorem IV {c:Nat} (h:Lt c) (hl:bW c=true):c∈aO:=by rw[iM h]at hl;exact of_decide_eq_true hl
structure ck (y sm:List Nat):Prop where
 nd:sm.Nodup
 ph: ∀d∈sm,d∈aO
 bh: ∀d∈sm,d∈y
theorem ck.of {y l:List Nat} (h:Yd y) (hp:l.Perm (y.filter bW)):ck y l:=
 ⟨hp.nodup_iff.mpr (h.nd.filter _),fun d hd=>by
  have:=Xp.mp (hp.mem_iff.mp hd)
  exact IV (h.lt d this.1) this.2,fun d hd=>(Xp.mp (hp.mem_iff.mp hd)).1⟩
theorem ck.len {y l:List Nat} (h:Yd y) (s:ck y l):(y.filter (kept l)).length=2*l.length:=by
 rw[<-fo (h.within s.ph),(r0 h s.ph s.nd s.bh).length_eq]
theorem CZ {y:List Nat} {c:Nat} (h:Yd y) (hl:y.length=2) (hc:c∈y) (hs:c∈aO):eQ y [[ax c],[c]]:=by
 have hA:=h.cl c hc
 have cR:=kW (h.lt c hc)
 have two: ∀d∈y,d=c\/d=ax c:=fun d hd=>by
  have hn:less y c=[]:=by
   have:=CY h hc
   exact Yn (by omega)
  by_cases z1:d=c
  ·exact .inl z1
  ·by_cases z2:d=ax c
   ·exact .inr z2
   ·have:=bU.mpr ⟨hd,z1,z2⟩
    rw[hn]at this
    cases this
 have t1:bH y c=c:=(two _ (j6 h hc)).resolve_right (iq h.nd hA (by omega))
 have t2:bH y (ax c)=ax c:=(two _ (j6 h hA)).resolve_left (by
  have:=iq h.nd hc (by omega)
  unfold bH
  rw[aD (h.lt c hc)]
  exact this)
 have o1:di (bH y) [c]:=⟨by simp,by simp,⟨t1,trivial⟩⟩
 have o2:di (bH y) [ax c]:=⟨by simp,by simp,⟨t2,trivial⟩⟩
 have i1: ∀d∈[c],d∈y:=fun d hd=>by rw[Hy.mp hd];exact hc
 have i2: ∀d∈[ax c],d∈y:=fun d hd=>by rw[Hy.mp hd];exact hA
 refine ⟨[[ax c],[c]],⟨fun w hw=>?_,by simp[cR],fun d hd=>?_⟩,?_,?_⟩
 ·rcases T4.mp hw with rfl | hw
  ·exact ⟨o2,i2⟩
  ·rw[Hy.mp hw];exact ⟨o1,i1⟩
 ·rcases two d hd with z | z
  ·exact ⟨[c],by simp,by rw[z];simp⟩
  ·exact ⟨[ax c],by simp,by rw[z];simp⟩
 ·rw[XM,XM,Qam,o1.bX h (by omega) i1,o2.bX h (by omega) i2]
  have r1: ∀d,bX [d]=[d]:=fun d=>by
   obtain ⟨k,hk,e⟩:=gA [d]
   rw[e]
   have:k=0\/k=1:=by simp at hk;omega
   rcases this with z | z<;>subst z<;>rfl
  rw[r1,r1]
 ·have:ax c<c:=(show ∀d∈aO,ax d<d by decide+kernel) c hs
  refine Yq.mpr ⟨fun w hw=>?_,X1 _ _⟩
  rw[Hy.mp hw]
  intro z
  rcases List.cons_lt_cons_iff.mp z with g | ⟨g,_⟩
  ·omega
  ·omega
open Classical in
noncomputable def DV (w:List Nat):Nat:=if h: ∃s,dH w s then choose h else 0
theorem oG {w:List Nat} (hn:w≠[]):dH w (DV w):=by
 have h:=E8 hn
 unfold DV
 rw[dif_pos h]
 exact Classical.choose_spec h
noncomputable def kr (w:List Nat):Int:=((w.length / DV w:Nat):Int)
theorem uY {w v:List Nat} (hw:w≠[]) (hv:v≠[]) (e: ∀d:Int,om w w d 0↔om v v d 0):DV w=DV v:=Ab hw hv (oG hw) (oG hv) e
theorem oH {w:List Nat} {n:Nat} (hn:n<=w.length):(bE w n).length=w.length:=by
 unfold bE
 rw[Jy,Xi,Rt,X6 hn,Nat.sub_add_cancel hn]
theorem C0 {w v:List Nat} (h:w≠[]) (e:v.length=w.length):v≠[]:=fun z=>h (YF.mp (by rw[<-e,z];rfl))
theorem C1 {w:List Nat} (hw:w≠[]) {n:Nat} (hn:n<=w.length):kr (bE w n)=kr w:=by
 unfold kr
 rw[oH hn,uY (C0 hw (oH hn)) hw (Fe hw hn)]
theorem IW {y w:List Nat} (hy:Yd y) (hw:SW y w):kr (bD w)=kr w:=by
 unfold kr
 rw[cC,uY (IK hw.ne) hw.ne (Ff hy hw)]
noncomputable def mz (y w:List Nat):Int:=SS y w w+2*(kr w - 1)
theorem one_le (p:Prop):0<=one p/\one p<=1:=by
 by_cases z:p
 ·rw[oi z];decide
 ·rw[dh z];decide
theorem C2 {h:Int->Int} {b:Nat} (k: ∀i:Int,0<=h i/\h i<=b): ∀n:Nat,0<=sm n h/\sm n h<=(n*b:Nat)
 | 0=>by rw[Nat.zero_mul];exact ⟨Int.le_refl _,Int.le_refl _⟩
 | n+1=>by
  have a:=C2 k n
  have c:=k n
  rw[ZQ]
  show 0<=sm n h+h n/\sm n h+h n<=_
  lia
theorem MV (y w v:List Nat):0<=SS y w v/\SS y w v<=(w.length*(v.length*3):Nat):=C2 (fun i=>C2 (b:=3) (fun j=>by
 unfold bs
 have a:=one_le (ac y (ax (rd w (i - 1))) (rd w i) (ax (rd v (j - 1))) (rd v j)=true)
 have b:=one_le (dk y (sq w i) (sq v j))
 have c:=one_le (dk y (sq w i) (bq v j))
 lia) v.length) w.length
noncomputable def Qq (y c:List Nat):Bool:=decide (mz y c=0)
theorem C3 {y w:List Nat} (hw:w≠[]):0<=mz y w/\SS y w w<=mz y w:=by
 have k:1<=kr w:=by
  unfold kr
  have r:=oG hw
  rcases r with g | ⟨h1,h2,_⟩
  ·exact absurd g.1 hw
  ·have:=Nat.div_pos h2 h1
   omega
 have s:=(MV y w w).1
 unfold mz
 omega
theorem sE (a:List Nat): ∀ls:List (List Nat),xI (.str (S a)) (b0 ls)=decide (a∈ls)
 | []=>by simp[xI,b0]
 | l::ls=>by
  have ih:=sE a ls
  have e:xI (.str (S a)) (b0 (l::ls))=(za (.str (S l)) (.str (S a))||xI (.str (S a)) (b0 ls)):=rfl
  rw[e,ih]
  have e2:za (.str (S l)) (.str (S a))=decide (a=l):=by
   show (S l==S a)=_
   by_cases z:a=l
   ·subst z;simp
   ·rw[decide_eq_false z]
    exact beq_eq_false_iff_ne.mpr fun q=>z (by rw[<-bV l,q,bV])
  rw[e2]
  by_cases z:a=l
  ·subst z;simp
  ·simp[z]
theorem qO {α:Type} [DecidableEq α] (φ:α->α): ∀(n:Nat) (l:List α),l.length<=n->l.Nodup->(∀x∈l,φ x∈l/\φ (φ x)=x/\φ x≠x)->l.length%2=0
 | _,[],_,_,_=>rfl
 | 0,x::t,h,_,_=>absurd h (by simp)
 | n+1,x::t,h,hn,hp=>by
  obtain ⟨h1,h2,h3⟩:=hp x NB
  have m1:φ x∈t:=(T4.mp h1).resolve_left h3
  have Qr:=(XD.mp hn).2
  have Vy:=(XD.mp hn).1
  have len:(t.erase (φ x)).length=t.length - 1:=List.length_erase_of_mem m1
  have pos:=Zn m1
  have ih:=qO φ n (t.erase (φ x)) (by rw[len];simp at h;omega) (Qr.erase _) fun z hz=>by
   have z1:=List.mem_of_mem_erase hz
   have z2:z≠φ x:=fun e=>by rw[e]at hz;exact (Qr.mem_erase_iff.mp hz).1 rfl
   have z3:z≠x:=fun e=>Vy (by rw[<-e];exact z1)
   obtain ⟨g1,g2,g3⟩:=hp z (NA _ z1)
   have k1:φ z≠x:=fun e=>z2 (by rw[<-e,g2])
   have k2:φ z≠φ x:=fun e=>z3 (by rw[<-g2,e,h2])
   exact ⟨Qr.mem_erase_iff.mpr ⟨k2,(T4.mp g1).resolve_left k1⟩,g2,g3⟩
  rw[Xn]
  omega
theorem MW (w:List Nat) (x:Int):sq w (x%(w.length:Int))=sq w x:=by
 funext k
 unfold sq rd
 rw[YW]
theorem MX (w:List Nat) (x:Int):bq w (x%(w.length:Int))=bq w x:=by
 funext k
 unfold bq rd
 rw[Qai,YW, <-Qai]
theorem Fl {y w:List Nat} (hy:Yd y) (hw:SW y w) {i j:Int} {a:Nat} (r:Run (sq w i) (bq w j) a 0) (x:jo y (sq w i) (bq w j) a≠jD y (sq w i) (bq w j) 0):dk y (sq w (j - a)) (bq w (i+a))/\Run (sq w (j - a)) (bq w (i+a)) a 0:=by
 have F: ∀k,sq w (i+a) k=sq w i (k+a):=fun k=>by unfold sq;congr 1;omega
 have G: ∀k,bq w (j - a) k=bq w j (k+a):=fun k=>by unfold bq;congr 2;omega
 have rE:Run (sq w (i+a)) (bq w (j - a)) 0 a:=⟨fun k h1 h2=>by
  rw[F,G]
  exact r.uR _ (by omega) (by omega),by
  rw[F,G,show ((0:Nat):Int)+1+a=a+1 by omega]
  exact r.hi,by
  rw[F,G,show -(a:Int) - 1+a= -((0:Nat):Int) - 1 by omega]
  exact r.lo⟩
 have sF: ∀k,gT y (sq w (i+a)) k=gT y (sq w i) (k+a):=fun k=>by
  unfold gT
  rw[F,F,show k - 1+(a:Int)=k+a - 1 by omega]
 have sG: ∀k,gT y (bq w (j - a)) k=gT y (bq w j) (k+a):=fun k=>by
  unfold gT
  rw[G,G,show k - 1+(a:Int)=k+a - 1 by omega]
 have en:IL y (sq w (i+a)) (bq w (j - a)):=⟨a,rE,by
  unfold jo jD
  rw[sF,sG,sF,sG,show ((0:Nat):Int)+1+a=a+1 by omega,show -(a:Int)+a= -((0:Nat):Int) by omega]
  exact x⟩
 have b:=(CO hy (bB hw _) (fq hy hw _)).mp en
 rw[CQ hy hw,j0]at b
 have rr:=(rE.rv hy (bB hw _) (fq hy hw _)).sy
 rw[CQ hy hw,j0]at rr
 exact ⟨b,rr⟩
theorem yC (h:Int->Int) (a:Nat): ∀b:Nat,sm (a+b) h=sm a h+sm b fun j=>h (a+j)
 | 0=>by show sm a h=sm a h+0;omega
 | b+1=>by
  show sm (a+b) h+h ((a+b:Nat):Int)=sm a h+(sm b (fun j=>h (a+j))+h (a+b))
  rw[yC h a b,Y1]
  omega
theorem yD (n:Nat) (f:Nat->Nat->Int): ∀m:Nat,sm (m*n) (fun c=>f (c.toNat / n) (c.toNat%n))=sm m fun i=>sm n fun j=>f i.toNat j.toNat
 | 0=>by rw[Nat.zero_mul];rfl
 | m+1=>by
  rw[ZQ,yC,yD n f m]
  show _=sm m _+sm n _
  congr 1
  refine aP fun j hj=>?_
  rw[show ((m*n:Nat):Int)+(j:Int)=((m*n+j:Nat):Int) by omega,XN,XN,XN,Y7 m n,Qaw (by omega),Qaq hj,Qav,Yi hj]
  rfl
open Classical in
theorem C4 (p:Nat->Prop): ∀n:Nat,sm n (fun c=>one (p c.toNat))=(((List.range n).filter fun c=>decide (p c)).length:Int)
 | 0=>rfl
 | n+1=>by
  rw[Zf,Zg,Jy,Y1, <-C4 p n]
  show sm n _+one (p ((n:Int)).toNat)=_
  rw[XN]
  congr 1
  by_cases z:p n
  ·rw[oi z];simp[z]
  ·rw[dh z];simp[z]
theorem C5 {y w:List Nat} (hy:Yd y) (hw:SW y w) {i j:Int} {a:Nat} (r:Run (sq w i) (bq w j) a 0) (e:j%(w.length:Int)=(i+a)%(w.length:Int)):False:=by
 have key: ∀k:Nat,k<=a->rd w (i+k)=ax (rd w (i+a - k)):=fun k hk=>by
  have h:=r.uR k (by omega) (by omega)
  unfold sq bq at h
  rw[h, <-gC w (j - k), <-gC w (i+a - k)]
  congr 2
  rw[Int.sub_emod,e, <-Int.sub_emod]
 rcases Nat.mod_two_eq_zero_or_one a with z | z
 ·have k1:=key (a / 2) (by omega)
  rw[show i+(a:Int) - ((a / 2:Nat):Int)=i+((a / 2:Nat):Int) by omega]at k1
  exact kW (hy.lt _ (hw.rd _)) k1.symm
 ·have k1:=key (a / 2+1) (by omega)
  rw[show i+(a:Int) - ((a / 2+1:Nat):Int)=i+((a / 2+1:Nat):Int) - 1 by omega]at k1
  exact hw.red _ k1
open Classical in
noncomputable def gS (y w:List Nat) (i j:Int):Nat:=if h:dk y (sq w i) (bq w j) then h.choose else 0
theorem yE {y w:List Nat} {i j:Int} (h:dk y (sq w i) (bq w j)):Run (sq w i) (bq w j) (gS y w i j) 0/\jo y (sq w i) (bq w j) (gS y w i j)≠jD y (sq w i) (bq w j) 0:=by
 unfold gS
 rw[dif_pos h]
 exact h.choose_spec
noncomputable def j_ (y w:List Nat) (c:Nat):Nat:=(((c%w.length:Nat) - gS y w (c / w.length:Nat) (c%w.length:Nat):Int)%(w.length:Int)).toNat*w.length+(((c / w.length:Nat)+gS y w (c / w.length:Nat) (c%w.length:Nat):Int)%(w.length:Int)).toNat
theorem Fm {y w:List Nat} (hy:Yd y) (hw:SW y w) {c:Nat} (hc:c<w.length*w.length) (h:dk y (sq w (c / w.length:Nat)) (bq w (c%w.length:Nat))):
  j_ y w c<w.length*w.length/\dk y (sq w (j_ y w c / w.length:Nat)) (bq w (j_ y w c%w.length:Nat))/\j_ y w (j_ y w c)=c/\j_ y w c≠c:=by
 have hn:=Xs.mpr hw.ne
 have key: ∀(i j:Nat),i<w.length->j<w.length->(hb:dk y (sq w i) (bq w j))-> ∃i' j':Nat,i'<w.length/\j'<w.length/\j_ y w (i*w.length+j)=i'*w.length+j'/\dk y (sq w i') (bq w j')/\((i':Int)=(j - gS y w i j)%(w.length:Int))/\((j':Int)=(i+gS y w i j)%(w.length:Int))/\gS y w i' j'=gS y w i j/\(i',j')≠(i,j):=fun i j hi hj hb=>by
  obtain ⟨r,x⟩:=yE hb
  obtain ⟨b2,r2⟩:=Fl hy hw r x
  have m1:=Yh ((j:Int) - gS y w i j) (show (w.length:Int)≠0 by omega)
  have m2:=Yc ((j:Int) - gS y w i j) (show (0:Int)<w.length by omega)
  have m3:=Yh ((i:Int)+gS y w i j) (show (w.length:Int)≠0 by omega)
  have m4:=Yc ((i:Int)+gS y w i j) (show (0:Int)<w.length by omega)
  obtain ⟨i',ei⟩: ∃i':Nat,(i':Int)=((j:Int) - gS y w i j)%(w.length:Int):=⟨_,Qac m1⟩
  obtain ⟨j',ej⟩: ∃j':Nat,(j':Int)=((i:Int)+gS y w i j)%(w.length:Int):=⟨_,Qac m3⟩
  have si:sq w i'=sq w (j - gS y w i j):=by rw[ei,MW]
  have sj:bq w j'=bq w (i+gS y w i j):=by rw[ej,MX]
  rw[<-si, <-sj]at b2 r2
  refine ⟨i',j',by omega,by omega,?_,b2,ei,ej,((yE b2).1.one r2).1,fun e=>?_⟩
  ·unfold j_
   have d1:(i*w.length+j) / w.length=i:=by rw[Y7,Qaw hn,Qaq hj,YZ]
   have d2:(i*w.length+j)%w.length=j:=by rw[Y7,Qav,Yi hj]
   rw[d1,d2, <-ei, <-ej,XN,XN]
  ·have e2:j'=j:=congrArg Prod.snd e
   refine C5 hy hw r ?_
   rw[<-ej,e2]
   exact X2 (by omega) (by omega)
 have hi:c / w.length<w.length:=Nat.div_lt_of_lt_mul hc
 have hj:=Zx c hn
 have ec:c / w.length*w.length+c%w.length=c:=by rw[Y7];exact Nat.div_add_mod c w.length
 obtain ⟨i',j',AF,Mb,e,b2,ei,ej,ea,ne⟩:=key _ _ hi hj h
 rw[ec]at e
 have d1:(i'*w.length+j') / w.length=i':=by rw[Y7,Qaw hn,Qaq Mb,YZ]
 have d2:(i'*w.length+j')%w.length=j':=by rw[Y7,Qav,Yi Mb]
 obtain ⟨i2,j2,EF,JB,e2,_,Sv,Sw,_,_⟩:=key i' j' AF Mb b2
 rw[e]
 refine ⟨?_,by rw[d1,d2];exact b2,?_,fun z=>ne ?_⟩
 ·have:i'*w.length+w.length<=w.length*w.length:=by
   rw[<-ZQ];exact Nat.mul_le_mul_right _ AF
  omega
 ·rw[e2]
  rw[ea]at Sv Sw
  generalize gS y w _ _=a at*
  have q1:(i2:Int)=((c / w.length:Nat):Int):=by
   rw[Sv,ej,Qai,YW,show ((c / w.length:Nat):Int)+(a:Int)+ -(a:Int)=((c / w.length:Nat):Int) by omega]
   exact X2 (Int.natCast_nonneg _) (Int.ofNat_lt.mpr hi)
  have q2:(j2:Int)=((c%w.length:Nat):Int):=by
   rw[Sw,ei,YW,show ((c%w.length:Nat):Int) - (a:Int)+a=((c%w.length:Nat):Int) by omega]
   exact X2 (Int.natCast_nonneg _) (Int.ofNat_lt.mpr hj)
  have q3:i2=c / w.length:=ZI q1
  have q4:j2=c%w.length:=ZI q2
  rw[q3,q4,ec]
 ·exact Prod.ext (d1.symm.trans (by rw[z])) (d2.symm.trans (by rw[z]))
open Classical in
theorem sH {y w:List Nat} (hy:Yd y) (hw:SW y w): ∃k:Int,cX w.length w.length (fun i j=>one (dk y (sq w i) (bq w j)))=2*k:=by
 have e1:cX w.length w.length (fun i j=>one (dk y (sq w i) (bq w j)))=sm w.length fun i=>sm w.length fun j=>(fun i j:Nat=>one (dk y (sq w i) (bq w j))) i.toNat j.toNat:=bQ fun i j _ _=>by
  show _=one (dk y (sq w ((i:Int).toNat:Nat)) (bq w ((j:Int).toNat:Nat)))
  rw[XN,XN]
 rw[e1.trans (yD w.length (fun i j:Nat=>one (dk y (sq w i) (bq w j))) w.length).symm]
 rw[C4 fun c=>dk y (sq w (c / w.length:Nat)) (bq w (c%w.length:Nat))]
 have ev:=qO (j_ y w) _ (Rv _) (List.nodup_range.filter fun c=> @decide (dk y (sq w (c / w.length:Nat)) (bq w (c%w.length:Nat))) (Classical.propDecidable _)) (l:=(List.range (w.length*w.length)).filter fun c=> @decide (dk y (sq w (c / w.length:Nat)) (bq w (c%w.length:Nat))) (Classical.propDecidable _)) fun x hx=>by
  obtain ⟨h1,h2⟩:=Xp.mp hx
  obtain ⟨t1,t2,t3,t4⟩:=Fm hy hw (Yu.mp h1) (of_decide_eq_true h2)
  exact ⟨Xp.mpr ⟨Yu.mpr t1,decide_eq_true t2⟩,t3,t4⟩
 generalize List.length (List.filter _ _)=n at ev ⊢
 exact ⟨((n / 2:Nat):Int),by omega⟩
theorem Fn {y w:List Nat} (hy:Yd y) (hw:SW y w): ∃k:Int,SS y w w=2*k:=by
 obtain ⟨k,hk⟩:=sH hy hw
 have p1:cX w.length w.length (fun i j=>one (ac y (ax (rd w (i - 1))) (rd w i) (ax (rd w (j - 1))) (rd w j)=true))=2*JD w.length (fun i j=>one (ac y (ax (rd w (i - 1))) (rd w i) (ax (rd w (j - 1))) (rd w j)=true)):=su (fun i j _ _=>by
  obtain ⟨a1,a2,a3⟩:=pT hy hw i
  obtain ⟨b1,b2,b3⟩:=pT hy hw j
  rw[sA hy a1 a2 b1 b2 a3 b3]) (fun i _=>dh (by unfold ac;rw[if_pos (.inl rfl)];decide))
 have p2:cX w.length w.length (fun i j=>one (dk y (sq w i) (sq w j)))=2*JD w.length (fun i j=>one (dk y (sq w i) (sq w j))):=su (fun i j _ _=>cD (oz hy (bB hw _) (bB hw _))) (fun i _=>dh fun ⟨a,r,_⟩=>r.lo rfl)
 have e:SS y w w=cX w.length w.length (fun i j=>one (ac y (ax (rd w (i - 1))) (rd w i) (ax (rd w (j - 1))) (rd w j)=true))+cX w.length w.length (fun i j=>one (dk y (sq w i) (sq w j)))+cX w.length w.length (fun i j=>one (dk y (sq w i) (bq w j))):=by
  rw[<-dR, <-dR]
  rfl
 rw[e,p1,p2,hk]
 exact ⟨_,(by rw[<-Int.mul_add, <-Int.mul_add])⟩
noncomputable def GR (y:List Nat) (f g:Int->Nat) (p n:Nat):Bool:=if f 0=g 0 then gr y (f (fD f g n 0)) (g (fD f g n 0)) (ax (f ((fD f g n 0:Nat) - 1))) else gr y (f 0) (g 0) p
noncomputable def C6 (y w v:List Nat) (i j:Int):Bool:=if ax (rd w (i - 1))=rd v j\/ax (rd w (i - 1))=ax (rd v (j - 1)) then false else (GR y (sq w i) (sq v j) (ax (rd w (i - 1))) (w.length+v.length) != GR y (sq w i) (bq v (j - 1)) (ax (rd w (i - 1))) (w.length+v.length))
theorem mM {y:List Nat} {p x b:Nat} (hy:Yd y) (hp:p∈y) (hx:x∈y) (hb:b∈y) (px:p≠x) (pb:p≠b) (xb:x≠b):gr y p b x=!gr y x b p:=by
 rw[yn hy.nd hp hx hb px pb xb,ID hy.nd hp hx hb px pb xb]
theorem uZ {y:List Nat} {f g:Int->Nat} {n:Nat} (h:f 0≠g 0\/f (-1)=g (-1)):one (0<al y f g n)=0:=dh (by unfold al;rw[if_pos h];exact X_ 0)
theorem MY {y:List Nat} {f g:Int->Nat} {n:Nat} (h0:f 0=g 0) (h1:f (-1)≠g (-1)) (hd:f (fD f g n 0)≠g (fD f g n 0)):0<al y f g n↔gr y (ax (f (-1))) (ax (g (-1))) (f 0)=gr y (f (fD f g n 0)) (g (fD f g n 0)) (ax (f ((fD f g n 0:Nat) - 1))):=by
 unfold al
 rw[if_neg (fun z=>z.elim (fun q=>q h0) h1)]
 have hp:0<fD f g n 0:=Nat.pos_of_ne_zero fun z=>hd (by rw[z];exact h0)
 by_cases e:gr y (ax (f (-1))) (ax (g (-1))) (f 0)=gr y (f (fD f g n 0)) (g (fD f g n 0)) (ax (f ((fD f g n 0:Nat) - 1)))
 ·rw[if_pos e];exact ⟨fun _=>e,fun _=>hp⟩
 ·rw[if_neg e];exact ⟨fun z=>absurd z (X_ 0),fun z=>absurd z e⟩
theorem IX {y w v:List Nat} (hy:Yd y) (hw:SW y w) (hv:SW y v) (i j:Int):one (C6 y w v i j=true)=one (ac y (ax (rd w (i - 1))) (rd w i) (ax (rd v (j - 1))) (rd v j)=true)+one (dk y (sq w i) (sq v j))+one (dk y (sq w i) (bq v (j - 1))):=by
 have ug:sq w i (-1)≠sq v j (-1)->_:=fun z=>iN (f:=sq w i) (g:=sq v j) hw.ne hv.ne (fun k=>lh w i k) (fun k=>lh v j k) z
 have uh:sq w i (-1)≠bq v (j - 1) (-1)->_:=fun z=>iN (f:=sq w i) (g:=bq v (j - 1)) hw.ne hv.ne (fun k=>lh w i k) (fun k=>CG v (j - 1) k) z
 rw[cD (GJ (n:=w.length+v.length) hy (bB hw i) (bB hv j) ug),cD (GJ (n:=w.length+v.length) hy (bB hw i) (fq hy hv (j - 1)) uh)]
 have f0:sq w i 0=rd w i:=by unfold sq;rw[Yv]
 have g0:sq v j 0=rd v j:=by unfold sq;rw[Yv]
 have h0:bq v (j - 1) 0=ax (rd v (j - 1)):=by unfold bq;rw[ZT]
 have f1:sq w i (-1)=rd w (i - 1):=rfl
 have g1:sq v j (-1)=rd v (j - 1):=rfl
 have h1:bq v (j - 1) (-1)=ax (rd v j):=by unfold bq;rw[show j - 1 - -1=j by omega]
 have lv:=hy.lt _ (hv.rd j)
 have Vz:=hy.lt _ (hv.rd (j - 1))
 have Sx:=hy.lt _ (hw.rd (i - 1))
 have hx:=hw.rd i
 have ha:=hv.rd j
 have hp:=hy.cl _ (hw.rd (i - 1))
 have hb:=hy.cl _ (hv.rd (j - 1))
 have px:ax (rd w (i - 1))≠rd w i:=Ne.symm (hw.red i)
 have ba:ax (rd v (j - 1))≠rd v j:=Ne.symm (hv.red j)
 unfold C6 ac
 by_cases pa:ax (rd w (i - 1))=rd v j
 ·rw[if_pos (.inl pa),if_pos (.inr (.inr (.inl pa.symm))),uZ (.inl (by rw[f0,g0, <-pa];exact Ne.symm px)),uZ (.inr (by rw[f1,h1, <-pa,aD Sx])),Yv,Yv]
 by_cases pb:ax (rd w (i - 1))=ax (rd v (j - 1))
 ·rw[if_pos (.inr pb),if_pos (.inl pb.symm),uZ (.inr (by rw[f1,g1];exact cB Sx Vz pb)),uZ (.inl (by rw[f0,h0, <-pb];exact Ne.symm px)),Yv,Yv]
 rw[if_neg (fun z=>z.elim pa pb)]
 have Sy:sq w i (-1)≠sq v j (-1):=fun z=>pb (by rw[f1,g1]at z;rw[z])
 have Sz:sq w i (-1)≠bq v (j - 1) (-1):=fun z=>pa (by rw[f1,h1]at z;rw[z,aD lv])
 by_cases xa:rd w i=rd v j
 ·have xb:rd w i≠ax (rd v (j - 1)):=by rw[xa];exact Ne.symm ba
  have SA:sq w i 0=sq v j 0:=by rw[f0,g0,xa]
  rw[if_pos (.inr (.inr (.inr xa.symm))),uZ (g:=bq v (j - 1)) (.inl (by rw[f0,h0];exact xb)),cD (MY SA Sy (ug Sy).2)]
  unfold GR
  rw[if_pos SA,if_neg (by rw[f0,h0];exact xb),f0,h0,f1,g1,mM hy hp hx hb px pb xb]
  generalize gr y (rd w i) (ax (rd v (j - 1))) (ax (rd w (i - 1)))=G
  generalize gr y (sq w i _) _ _=A
  rw[dh (p:=false=true) Xm,YV,Yv]
  exact cD (by cases G<;>cases A<;>simp)
 by_cases xb:rd w i=ax (rd v (j - 1))
 ·have SD:sq w i 0=bq v (j - 1) 0:=by rw[f0,h0,xb]
  rw[if_pos (.inr (.inl xb.symm)),uZ (g:=sq v j) (.inl (by rw[f0,g0];exact xa)),cD (MY SD Sz (uh Sz).2)]
  unfold GR
  rw[if_pos SD,if_neg (by rw[f0,g0];exact xa),f0,g0,f1,h1,aD lv,mM hy hp hx ha px pa xa]
  generalize gr y (rd w i) (rd v j) (ax (rd w (i - 1)))=G
  generalize gr y (sq w i _) _ _=A
  rw[dh (p:=false=true) Xm,YV,YV]
  exact cD (by cases G<;>cases A<;>simp)
 rw[if_neg (fun z=>by rcases z with z | z | z | z;exact pb z.symm;exact xb z.symm;exact pa z.symm;exact xa z.symm),uZ (g:=sq v j) (.inl (by rw[f0,g0];exact xa)),uZ (g:=bq v (j - 1)) (.inl (by rw[f0,h0];exact xb))]
 unfold GR
 rw[if_neg (by rw[f0,g0];exact xa),if_neg (by rw[f0,h0];exact xb),f0,g0,h0,mM hy hp hx hb px pb xb,mM hy hp hx ha px pa xa,Yv,Yv]
 generalize gr y (rd w i) (ax (rd v (j - 1))) (ax (rd w (i - 1)))=G
 generalize gr y (rd w i) (rd v j) (ax (rd w (i - 1)))=A
 exact cD (by cases G<;>cases A<;>simp)
theorem Fo {y w v:List Nat} (hy:Yd y) (hw:SW y w) (hv:SW y v):cX w.length v.length (fun i j=>one (C6 y w v i j=true))=SS y w v:=by
 rw[show cX w.length v.length (fun i j=>one (C6 y w v i j=true))=cX w.length v.length (fun i j=>(one (ac y (ax (rd w (i - 1))) (rd w i) (ax (rd v (j - 1))) (rd v j)=true)+one (dk y (sq w i) (sq v j)))+one (dk y (sq w i) (bq v (j - 1)))) from bQ fun i j _ _=>IX hy hw hv i j,dR]
 rw[show cX w.length v.length (fun i j=>one (dk y (sq w i) (bq v (j - 1))))=cX w.length v.length (fun i j=>one (dk y (sq w i) (bq v j))) from aP fun i _=>jZ (h:=fun j=>one (dk y (sq w i) (bq v j))) fun k=>by rw[lq], <-dR]
 rfl
theorem C7 {f:Nat->Nat} {w:List Nat} (h:di f w) (k:Int):rd w (k+1)=f (rd w k):=by
 have hl:=Xs.mpr h.ne
 have h1:=Yh k (b:=(w.length:Int)) (by omega)
 have h2:=Yc k (b:=(w.length:Int)) (by omega)
 obtain ⟨n,en⟩: ∃n:Nat,k%(w.length:Int)=n:=⟨(k%(w.length:Int)).toNat,by omega⟩
 have hn:n<w.length:=by omega
 have e1:rd w k=rd w n:=by rw[<-gC w k,en]
 have e2:rd w (k+1)=rd w ((n+1:Nat):Int):=by
  rw[<-gC w (k+1), <-YW,en,gC]
  rfl
 have g: ∀m,m<w.length->w[m]? =some (rd w m):=fun m hm=>lg hm
 rw[e1,e2]
 by_cases z:n+1<w.length
 ·exact mL h.pa (g n hn) (g (n+1) z)
 ·have ez:n+1=w.length:=by omega
  rw[ez,show ((w.length:Nat):Int)=0+(w.length:Int) by omega,ik]
  have pa:=h.pa
  obtain ⟨u,c,rfl⟩: ∃u c,w=u++[c]:=⟨w.dropLast,w.getLast h.ne,(List.dropLast_concat_getLast h.ne).symm⟩
  have p2:=(bZ.mp pa).2
  have hc:rd (u++[c]) n=c:=by
   have:=g n hn
   have e:n=u.length:=by rw[Jy]at ez;simp at ez;exact ez
   rw[e,Xw (Rv _),Zj]at this
   rw[e]
   exact (WK this).symm
  have hh:(u++[c]).headD 0=rd (u++[c]) 0:=by
   have:=g 0 hl
   cases hu:u++[c] with
   | nil=>simp at hu
   | cons a l=>rw[hu]at this;exact WK this
  rw[hc, <-hh]
  exact p2.1.symm
theorem Fp {y:List Nat} {a:Nat} (hn:y.Nodup) (ha:a∈y) (h2:2<=y.length):o_ y a (dt y a)=1:=by
 obtain ⟨hk,e⟩:=fL ha
 have hi:y.idxOf (dt y a)=(y.idxOf a+1)%y.length:=by rw[e];exact hn.idxOf_getElem _ hk
 unfold o_
 rw[hi,Int.natCast_emod,Int.emod_sub_emod,show ((y.idxOf a+1:Nat):Int) - (y.idxOf a:Int)=1 by omega]
 exact X2 (by omega) (by omega)
structure oI (y r:List Nat):Prop where
 sw:SW y r
 st: ∀k:Int,o_ y (ax (rd r (k - 1))) (rd r k)=1
 kr:kr r=1
 len:r.length<=y.length
theorem C8 {w:List Nat} (hw:w≠[]) (hn:w.Nodup):kr w=1:=by
 have hr:=oG hw
 obtain ⟨p,a⟩:=oq hw hr
 obtain ⟨q1,q2⟩:1<=DV w/\DV w<=w.length:=by
  rcases hr with h | h
  ·exact absurd h.1 hw
  ·exact ⟨h.1,h.2.1⟩
 have k:=(a (DV w) 0).mpr (by rw[ZT];exact Int.emod_self) 0
 have e:DV w=w.length:=Classical.byContradiction fun z=>by
  have hl:DV w<w.length:=Qag q2 z
  unfold sq at k
  rw[Yv,Yv]at k
  have g1:=lg hl
  have g2:w[0]? =some (rd w 0):=lg (w:=w) (by omega)
  rw[k, <-g2]at g1
  have:=(List.getElem?_inj (by omega) hn).mp g1
  omega
 unfold My.kr
 rw[e,Nat.div_self (by omega)]
 rfl
theorem C9 {y:List Nat} {ws:List (List Nat)} (hy:Yd y) (h2:2<=y.length) (p:Parts y ws) {w:List Nat} (hw:w∈ws):oI y (aE w):=by
 obtain ⟨o,iy⟩:=p.eG w hw
 have h_:=XG (qD w) (o.nd.length_le_of_subset fun c hc=>iy c hc)
 have er:=o.bX hy h2 iy
 obtain ⟨i,hi,ei⟩:=CL o.ne
 rw[er,ei]at h_ ⊢
 have rr: ∀k,rd (bE w i) k=rd w (k+i):=oh o.ne (YI hi)
 have rn:bE w i≠[]:=C0 o.ne (oH (YI hi))
 have wy: ∀k,rd w k∈y:=fun k=>iy _ (og o.ne k)
 have st: ∀k:Int,rd (bE w i) k=dt y (ax (rd (bE w i) (k - 1))):=fun k=>by
  rw[rr,rr,show k+(i:Int)=k - 1+i+1 by omega,C7 o]
  rfl
 have cy: ∀k,ax (rd (bE w i) k)∈y:=fun k=>by rw[rr];exact hy.cl _ (wy _)
 have pm:(bE w i).Perm w:=by
  unfold bE
  exact XE.trans (by rw[T5])
 refine ⟨⟨rn,fun c hc=>iy c (pm.mem_iff.mp hc),fun k=>?_⟩,fun k=>?_,C8 rn (pm.nodup_iff.mpr o.nd),h_⟩
 ·rw[st]
  exact iq hy.nd (cy _) h2
 ·rw[st k]
  exact Fp hy.nd (cy _) h2
theorem C_ {y:List Nat} {a b c:Nat} (ha:a∈y) (hb:b∈y) (h:o_ y a c=o_ y b c):a=b:=by
 unfold o_ at h
 have ia:=T2 ha
 have ib:=T2 hb
 have e:=Int.emod_emod_of_dvd ((y.idxOf a:Int) - y.idxOf b) (Int.dvd_refl (y.length:Int))
 have k:((y.idxOf a:Int) - (y.idxOf b:Int))%(y.length:Int)=0:=by
  have:=Int.emod_eq_emod_iff_emod_sub_eq_zero.mp h
  rw[show (y.idxOf c:Int) - y.idxOf a - (y.idxOf c - y.idxOf b)= -((y.idxOf a:Int) - y.idxOf b) by omega]at this
  exact Int.emod_eq_zero_of_dvd (Int.dvd_neg.mp (Int.dvd_of_emod_eq_zero this))
 have d:=Int.dvd_of_emod_eq_zero k
 obtain ⟨z,hz⟩:=d
 have:y.idxOf a=y.idxOf b:=by
  have h0:z=0:=by
   rcases Int.lt_trichotomy z 0 with q | q | q
   ·have:=Int.mul_le_mul_of_nonneg_left (show z<= -1 by omega) (show (0:Int)<=y.length by omega)
    omega
   ·exact q
   ·have:=Int.mul_le_mul_of_nonneg_left (show 1<=z by omega) (show (0:Int)<=y.length by omega)
    omega
  rw[h0,Int.mul_zero]at hz
  omega
 exact (XT (T2 ha)).symm.trans ((by congr 1:y[y.idxOf a]=y[y.idxOf b]).trans (XT (T2 hb)))
theorem Dc {y r:List Nat} {g:Int->Nat} (hy:Yd y) (h:oI y r) (hg:kA y g) (i:Int): ¬dk y (sq r i) g:=by
 rintro ⟨a,run,x⟩
 have sf: ∀k,gT y (sq r i) k=1:=fun k=>by
  unfold gT sq
  have:=h.st (i+k)
  rwa [show i+k - 1=i+(k - 1) by omega]at this
 have pos: ∀k,1<=gT y g k:=fun k=>(eX (hy.cl _ (hg.bh (k - 1))) (hg.bh k) (Ne.symm (hg.red k))).1
 have lf:=bB h.sw i
 refine x ?_
 have e1:jo y (sq r i) g a=true:=by
  unfold jo
  rw[sf]
  refine decide_eq_true (Int.lt_iff_le_and_ne.mpr ⟨pos _,fun q=>run.hi ?_⟩)
  have ha:=run.uR a (by omega) (by omega)
  have k1:=sf (a+1)
  unfold gT at k1 q
  rw[show (a:Int)+1 - 1=a by omega]at k1 q
  rw[<-ha]at q
  exact r6 (hy.cl _ (lf.bh a)) (lf.bh _) (hg.bh _) (k1.trans q)
 have e2:jD y (sq r i) g 0=true:=by
  unfold jD
  rw[sf]
  refine decide_eq_true (Int.lt_iff_le_and_ne.mpr ⟨pos _,fun q=>run.lo ?_⟩)
  have h0:=run.zero
  have k1:=sf 0
  have q':1=gT y g 0:=q
  unfold gT at k1 q'
  rw[Int.zero_sub]at k1 q'
  rw[<-h0]at q'
  have:=C_ (hy.cl _ (lf.bh _)) (hy.cl _ (hg.bh _)) (k1.trans q')
  exact cB (hy.lt _ (lf.bh _)) (hy.lt _ (hg.bh _)) this
 rw[e1,e2]
theorem Dd {y r v:List Nat} (hy:Yd y) (h:oI y r) (hv:SW y v):SS y r v=0:=by
 unfold SS
 rw[show (0:Int)=cX r.length v.length (fun _ _=>0) by unfold cX;rw[show (fun _:Int=>sm v.length fun _=>0)=fun _=>0 from funext fun _=>mK _,mK]]
 refine bQ fun i j _ _=>?_
 unfold bs
 rw[dh (Dc hy h (bB hv j) i),dh (Dc hy h (fq hy hv j) i),dh]
 ·rfl
 obtain ⟨a1,a2,a3⟩:=pT hy h.sw i
 obtain ⟨b1,b2,b3⟩:=pT hy hv j
 have st:=h.st i
 generalize ax (rd r ((i:Int) - 1))=a at a1 a3 st ⊢
 generalize rd r (i:Int)=b at a2 a3 st ⊢
 generalize ax (rd v ((j:Int) - 1))=p at b1 b3 ⊢
 generalize rd v (j:Int)=q at b2 b3 ⊢
 unfold ac
 by_cases z:p=a\/p=b\/q=a\/q=b
 ·rw[if_pos z]
  decide
 ·rw[if_neg z]
  have n1:a≠p:=fun e=>z (.inl e.symm)
  have n3:a≠q:=fun e=>z (.inr (.inr (.inl e.symm)))
  rw[<-CI, <-CI,st,decide_eq_false (by have:=(eX a1 b1 n1).1;omega),decide_eq_false (by have:=(eX a1 b2 n3).1;omega)]
  decide
theorem De {y r v:List Nat} {p:Nat->Bool} (hy:Yd y) (hz:Yd (y.filter p)) (h:oI (y.filter p) r) (hv:SW (y.filter p) v):SS y r v=0:=by
 have:=(IQ hy hz).same h.sw hv
 rw[Qau,Qau,Dd hz h hv]at this
 exact this
theorem SW.up {y z w:List Nat} (h:SW y w) (k: ∀c∈y,c∈z):SW z w:=⟨h.ne,fun c hc=>k c (h.bh c hc),h.red⟩
def iu (H:Hp) (p:Addr) (w:List Nat) (f:Int->Nat):Prop:= ∃i d:Int,H p=some (.tup [.str (S []), .str (S w), .int i, .int d])/\((d=1/\f=sq w i)\/(d= -1/\f=bq w (i - 1)))
theorem iu.same {H H':Hp} {p:Addr} {w:List Nat} {f:Int->Nat} (h:iu H p w f) (s:ay H H'):iu H' p w f:=by
 obtain ⟨i,d,e,r⟩:=h
 exact ⟨i,d,s p _ e,r⟩
def DW (w:List Nat):Prop:=w≠[]/\(∀c∈w,Lt c)/\w.length<=1000
theorem iu.lt {H:Hp} {p:Addr} {w:List Nat} {f:Int->Nat} (h:iu H p w f) (l:DW w) (k:Int):Lt (f k):=by
 obtain ⟨i,d,_,r⟩:=h
 rcases r with ⟨_,rfl⟩ | ⟨_,rfl⟩
 ·exact l.2.1 _ (og l.1 _)
 ·exact (l.2.1 _ (og l.1 _)).ax
inductive qP (p_:PySem.W.Frag) (vs:List V) (H:Hp) (Q:VK) (gR:XK):Prop
 | mk (w:List Nat) (i d:Int) (_:vs=[.str (S w), .int i, .int d]) (_: ∀p,H p=none->Q (.ref p) (upd H p (.tup [.str (S []), .str (S w), .int i, .int d]))):qP p_ vs H Q gR
def yF (p_:PySem.W.Frag):Sp:=qP p_
theorem Df {K:PySem.W.Frag} {vs:List V} {H:Hp} {Q:VK} {E:XK} (h:yF K vs H Q E):vs.length=3:=by obtain ⟨_,_,_,rfl,_⟩:=h;rfl
inductive ka (p_:PySem.W.Frag) (vs:List V) (H:Hp) (Q:VK) (gR:XK):Prop
 | mk (p:Addr) (w:List Nat) (f:Int->Nat) (k:Nat) (_:vs=[.ref p, .int k]) (_:iu H p w f) (_:DW w) (_:Q (.str (S [f k])) H):ka p_ vs H Q gR
def oJ (p_:PySem.W.Frag):Sp:=ka p_
theorem u5 {K:PySem.W.Frag} {vs:List V} {H:Hp} {Q:VK} {E:XK} (h:oJ K vs H Q E):vs.length=2:=by obtain ⟨_,_,_,_,rfl,_⟩:=h;rfl
inductive kc (p_:PySem.W.Frag) (vs:List V) (H:Hp) (Q:VK) (gR:XK):Prop
 | mk (p q:Addr) (w v:List Nat) (f g:Int->Nat) (n:Nat) (_:vs=[.ref p, .ref q, .int 0]) (_:iu H p w f) (_:iu H q v g) (_:DW w) (_:DW v) (_:f 0=g 0) (_:f (fD f g n 0)≠g (fD f g n 0)) (_: ∀t,H t=none->Q (.ref t) (upd H t (.tup [.int (fD f g n 0:Nat), .str (S [ax (f ((fD f g n 0:Nat) - 1))])]))):kc p_ vs H Q gR
def oK (p_:PySem.W.Frag):Sp:=kc p_
theorem u6 {K:PySem.W.Frag} {vs:List V} {H:Hp} {Q:VK} {E:XK} (h:oK K vs H Q E):vs.length=3:=by obtain ⟨_,_,_,_,_,_,_,rfl,_⟩:=h;rfl
inductive lV (p_:PySem.W.Frag) (vs:List V) (H:Hp) (Q:VK) (gR:XK):Prop
 | mk (y:List Nat) (p q r:Addr) (w v u:List Nat) (f g h:Int->Nat) (n:Nat) (_:vs=[.str (S y), .ref p, .ref q, .ref r]) (_:Yd y) (_:y.length<=8) (_:iu H p w f) (_:iu H q v g) (_:iu H r u h) (_:DW w) (_:DW v) (_:DW u) (_:(∀k,f k∈y)) (_:(∀k,g k∈y)) (_:(∀k,h k∈y)) (_:f 0≠h 0) (_:g 0≠h 0) (_:(f 0=g 0->f (fD f g n 0)≠g (fD f g n 0))) (_: ∀H',ay H H'->Q (.bl (GR y f g (h 0) n)) H'):lV p_ vs H Q gR
def qQ (p_:PySem.W.Frag):Sp:=lV p_
theorem wX {K:PySem.W.Frag} {vs:List V} {H:Hp} {Q:VK} {E:XK} (h:qQ K vs H Q E):vs.length=4:=by obtain ⟨_,_,_,_,_,_,_,_,_,_,_,rfl,_⟩:=h;rfl
inductive lW (p_:PySem.W.Frag) (vs:List V) (H:Hp) (Q:VK) (gR:XK):Prop
 | mk (y w v:List Nat) (i j:Nat) (_:vs=[.str (S y), .str (S w), .int i, .str (S v), .int j]) (_:Yd y) (_:y.length<=8) (_:SW y w) (_:w.length<=12) (_:SW y v) (_:v.length<=12) (_: ∀H',ay H H'->Q (.bl (C6 y w v i j)) H'):lW p_ vs H Q gR
def qR (p_:PySem.W.Frag):Sp:=lW p_
theorem wY {K:PySem.W.Frag} {vs:List V} {H:Hp} {Q:VK} {E:XK} (h:qR K vs H Q E):vs.length=5:=by obtain ⟨_,_,_,_,_,rfl,_⟩:=h;rfl
inductive jf (p_:PySem.W.Frag) (vs:List V) (H:Hp) (Q:VK) (gR:XK):Prop
 | mk (y w v:List Nat) (_:vs=[.str (S y), .str (S w), .str (S v)]) (_:Yd y) (_:y.length<=8) (_:SW y w) (_:w.length<=12) (_:SW y v) (_:v.length<=12) (_: ∀(n:Nat) H',ay H H'->(n:Int)=SS y w v->Q (.int n) H'):jf p_ vs H Q gR
def lX (p_:PySem.W.Frag):Sp:=jf p_
theorem sI {K:PySem.W.Frag} {vs:List V} {H:Hp} {Q:VK} {E:XK} (h:lX K vs H Q E):vs.length=3:=by obtain ⟨_,_,_,rfl,_⟩:=h;rfl
inductive qS (p_:PySem.W.Frag) (vs:List V) (H:Hp) (Q:VK) (gR:XK):Prop
 | mk (y w:List Nat) (_:vs=[.str (S y), .str (S w)]) (_:Yd y) (_:y.length<=8) (_:SW y w) (_:w.length<=12) (_: ∀(n:Nat) H',ay H H'->(n:Int)=SS y w w / 2+kr w - 1->Q (.int n) H'):qS p_ vs H Q gR
def yG (p_:PySem.W.Frag):Sp:=qS p_
theorem Dg {K:PySem.W.Frag} {vs:List V} {H:Hp} {Q:VK} {E:XK} (h:yG K vs H Q E):vs.length=2:=by obtain ⟨_,_,rfl,_⟩:=h;rfl
structure SE (y w c:List Nat):Prop where
 lt: ∀l∈w,Lt l
 h_:w.length<=100
 is:core (red w)=c
 sw:c=[]\/SW y c
 len:c.length<=12
noncomputable def JI (y c:List Nat):Bool:=!decide (c=[])&&Qq y c
inductive ke (p_:PySem.W.Frag) (vs:List V) (H:Hp) (Q:VK) (gR:XK):Prop
 | mk (y w c:List Nat) (_:vs=[.str (S y), .str (S w)]) (_:Yd y) (_:y.length<=8) (_:SE y w c) (_:(SW y c-> ∃k:Nat,2*(k:Int)=mz y c)) (_: ∀H',ay H H'->Q (.bl (JI y c)) H'):ke p_ vs H Q gR
def oM (p_:PySem.W.Frag):Sp:=ke p_
theorem u7 {K:PySem.W.Frag} {vs:List V} {H:Hp} {Q:VK} {E:XK} (h:oM K vs H Q E):vs.length=2:=by obtain ⟨_,_,_,rfl,_⟩:=h;rfl
def jg (_:PySem.W.Frag):Sp:=fun vs H Q _=> ∃l:List Nat,vs=[.str (S l)]/\(∀c∈l,Lt c)/\l.length<=10000/\ ∀H',ay H H'->Q (.str (S (red l))) H'
theorem oN {K:PySem.W.Frag} {vs:List V} {H:Hp} {Q:VK} {E:XK} (h:jg K vs H Q E):vs.length=1:=by obtain ⟨_,rfl,_⟩:=h;rfl
def kf (_:PySem.W.Frag):Sp:=fun vs H Q _=> ∃l:List Nat,vs=[.str (S l)]/\(∀c∈l,Lt c)/\l.length<=1000/\ ∀H',ay H H'->Q (.str (S (core (red l)))) H'
theorem pU {K:PySem.W.Frag} {vs:List V} {H:Hp} {Q:VK} {E:XK} (h:kf K vs H Q E):vs.length=1:=by obtain ⟨_,rfl,_⟩:=h;rfl
theorem Dh (g:Int->Bool): ∀n:Nat,((((List.range n).map fun j:Nat=>g j).countP id:Nat):Int)=sm n fun b=>one (g b=true)
 | 0=>rfl
 | n+1=>by
  rw[Zf,XJ,List.countP_append,Y1,Dh g n]
  show _=sm n _+one (g n=true)
  congr 1
  show ((List.countP id [g n]:Nat):Int)=_
  cases g n
  ·rw[dh (by decide)];rfl
  ·rw[oi rfl];rfl
theorem Di {y w:List Nat} (hy:Yd y) (h:SW y w) (hz:w.length<=12):SE y w w:=⟨fun l hl=>hy.lt l (h.bh l hl),by omega,h.core hy, .inr h,hz⟩
theorem yH {y w:List Nat} (h:Yd y) (o:di (bH y) w) (bh: ∀c∈w,c∈y):di (bH y.reverse) (bD w):=by
 refine ⟨by unfold bD;simp[o.ne],?_,?_⟩
 ·unfold bD
  rw[(Y4 _).nodup_iff]
  show (w.map ax).Pairwise (· ≠ ·)
  rw[YU]
  exact o.nd.imp_of_mem fun {a b} ha hb z e=>z (cB (h.lt a (bh a ha)) (h.lt b (bh b hb)) e)
 ·unfold bD
  have step: ∀c∈w,bH y.reverse (ax (bH y c))=ax c:=fun c hc=>by
   show dt y.reverse (ax (ax (bH y c)))=_
   rw[aD (h.lt _ (j6 h (bh c hc)))]
   exact yB h.nd (h.cl c (bh c hc))
  refine uV (f:=bH y) o.ne o.pa step ?_
  rcases snoc_cases w with z | ⟨m,a,z⟩
  ·exact absurd z o.ne
  ·have hl:=o.pa
   have ha:a∈w:=by rw[z];simp
   have e1:bH y a=w.headD 0:=by
    have:=hl
    rw[z]at this ⊢
    exact qN this
   rw[<-e1,step a ha,z,XJ,Yw]
   rfl
theorem sJ {y w:List Nat} (h:Yd y) (bh: ∀c∈w,c∈y): ∀c∈bD w,c∈y:=fun c hc=>by
 obtain ⟨d,hd,rfl⟩:=XH.mp (XQ.mp hc)
 exact h.cl d (bh d hd)
theorem oO {y w x:List Nat} (h:Yd y) (h2:2<=y.length) (ow:di (bH y) w) (wy: ∀c∈w,c∈y) (ox:di (bH y) x) (xy: ∀c∈x,c∈y) (e:aE w=aE (bD x)):y.length<=2:=by
 have ot:=yH h ox xy
 obtain ⟨o1,m1⟩:=j9 h h2 ow wy
 obtain ⟨o2,m2⟩:=j9 h.over (by rw[Xq];exact h2) ot fun c hc=>XQ.mpr (sJ h xy c hc)
 rw[<-e]at o2
 obtain ⟨c,r,q⟩:=List.exists_cons_of_ne_nil o1.ne
 have hc:c∈aE w:=by rw[q];exact NB
 have Fq:=wy c ((m1 c).mp hc)
 have AD:=h.cl c Fq
 have t:bH y c=bH y.reverse c:=j8 o1.pa o2.pa c hc
 have k:dt y (dt y (ax c))=ax c:=by
  have:=yB (y:=y.reverse) h.over.nd (XQ.mpr AD)
  rw[Zt]at this
  have t':dt y (ax c)=dt y.reverse (ax c):=t
  rw[t']
  exact this
 have ne:=iq h.nd AD h2
 have o4:di (dt y) [ax c,dt y (ax c)]:=⟨by simp,by simp[Ne.symm ne],⟨rfl,k,trivial⟩⟩
 have mm:=((iO h.nd (Zz AD)).ring o4 AD NB h.lt fun d hd=>by
  rcases T4.mp hd with g | g
  ·rw[g];exact h.lt _ AD
  ·rw[Hy.mp g];exact h.lt _ (fE AD)).2
 have:=h.nd.length_le_of_subset (l₂:=[ax c,dt y (ax c)]) fun d hd=>(mm d).mp hd
 simpa using this
theorem iP (a b:List Nat):aW a b=a\/aW a b=b:=by
 unfold aW
 split
 ·exact .inr rfl
 ·exact .inl rfl
theorem mN {y w:List Nat} (h:Yd y) (bh: ∀c∈w,c∈y) {c:Nat} (hc:c∈y):ax c∈bD w↔c∈w:=by
 constructor
 ·intro z
  obtain ⟨d,hd,e⟩:=XH.mp (XQ.mp z)
  rw[<-cB (h.lt d (bh d hd)) (h.lt c hc) e];exact hd
 ·intro z
  exact XQ.mpr (XH.mpr ⟨c,z,rfl⟩)
theorem kg {y w:List Nat} (h:Yd y) (h2:2<=y.length) (o:di (bH y) w) (bh: ∀c∈w,c∈y):(∀c,c∈aE w↔c∈w)/\ ∀c,c∈aE (bD w)↔c∈bD w:=
 ⟨(j9 h h2 o bh).2,(j9 h.over (by rw[Xq];exact h2) (yH h o bh) fun c hc=>XQ.mpr (sJ h bh c hc)).2⟩
theorem Fs {y w:List Nat} (h:Yd y) (h2:2<=y.length) (o:di (bH y) w) (bh: ∀c∈w,c∈y) {c:Nat} (hc:c∈y):(c∈aY w\/ax c∈aY w)↔c∈w\/ax c∈w:=by
 obtain ⟨m1,m2⟩:=kg h h2 o bh
 have e1:=mN h bh hc
 have e2:=mN h bh (h.cl c hc)
 rw[aD (h.lt c hc)]at e2
 rcases iP (aE w) (aE (bD w)) with g | g
 ·unfold aY;rw[g,m1,m1]
 ·unfold aY;rw[g,m2,m2,e1,e2,or_comm]
theorem wZ {y w x:List Nat} {a:Nat} (h:Yd y) (h3:3<=y.length) (ow:di (bH y) w) (wy: ∀c∈w,c∈y) (ox:di (bH y) x) (xy: ∀c∈x,c∈y) (ha:a∈w) (hx:a∉x):aY w≠aY x:=fun e=>by
 have h2:2<=y.length:=by omega
 obtain ⟨w1,w2⟩:=kg h h2 ow wy
 obtain ⟨x1,x2⟩:=kg h h2 ox xy
 have IZ:=wy a ha
 unfold aY at e
 rcases iP (aE w) (aE (bD w)) with g1 | g1<;>rcases iP (aE x) (aE (bD x)) with g2 | g2<;>rw[g1,g2]at e
 ·exact hx ((x1 a).mp (by rw[<-e];exact (w1 a).mpr ha))
 ·have:=oO h h2 ow wy ox xy e
  omega
 ·have:=oO h h2 ox xy ow wy e.symm
  omega
 ·exact hx ((mN h xy IZ).mp ((x2 _).mp (by rw[<-e];exact (w2 _).mpr ((mN h wy IZ).mpr ha))))
theorem Af {w:List Nat} (h:AllLt w) (k:Nat):aY (bE w k)=aY w:=by
 have hr:AllLt (bE w k):=fun c hc=>h c (by
  unfold bE at hc
  rcases T3.mp hc with g | g
  ·exact Ya g
  ·exact XF g)
 unfold aY
 rw[<-uL hr,Cz h,uL h]
theorem fZ {y w:List Nat} (h:Yd y) (h2:2<=y.length) (o:di (bH y) w) (bh: ∀c∈w,c∈y):aY (aE w)=aY w:=by
 rw[o.bX h h2 bh]
 obtain ⟨k,e⟩:=eV w
 rw[e,Af (fun c hc=>h.lt c (bh c hc))]
theorem jr {y:List Nat} {ws us:List (List Nat)} (h:Yd y) (h2:2<=y.length) (a:Parts y ws) (b:Parts y us) {w:List Nat} (hw:w∈ws): ∃u∈us,aY w=aY u:=by
 obtain ⟨o,bh⟩:=a.eG w hw
 have m:aE w∈us.map aE:=(a.perm h h2 b).mem_iff.mp (XH.mpr ⟨w,hw,rfl⟩)
 obtain ⟨u,hu,e⟩:=XH.mp m
 obtain ⟨ou,uy⟩:=b.eG u hu
 exact ⟨u,hu,by rw[<-fZ h h2 o bh, <-e,fZ h h2 ou uy]⟩
def FL (y nm:List Nat) (k:Nat) (v:List Nat):Prop:= ∃j,1<=j/\j<=k/\ ∃ws,Parts (y.filter (kept (nm.take j))) ws/\ ∃w∈ws,v=aY w
theorem qT {y nm:List Nat} {j k:Nat} (h:j<=k): ∀c∈y.filter (kept (nm.take j)),c∈y.filter (kept (nm.take k)):=fun c hc=>by
 obtain ⟨h1,h2⟩:=Xp.mp hc
 refine Xp.mpr ⟨h1,?_⟩
 unfold kept at h2 ⊢
 have:=of_decide_eq_true h2
 refine decide_eq_true ?_
 rw[show nm.take j=(nm.take k).take j by rw[List.take_take,X6 h]]at this
 exact XF this
theorem ck.take {y nm:List Nat} (s:ck y nm) (k:Nat):ck y (nm.take k):=⟨s.nd.sublist (ZF k nm),fun d hd=>s.ph d (XF hd),fun d hd=>s.bh d (XF hd)⟩
theorem Ag {y nm:List Nat} {k a:Nat} (h:Yd y) (s:ck y nm) (ha:nm[k]? =some a):less (y.filter (kept (nm.take (k+1)))) a=y.filter (kept (nm.take k)):=by
 have Ft:=Xo ha
 have has:=s.ph a Ft
 have VA:=h.lt a (s.bh a Ft)
 have hn:a∉nm.take k:=fun z=>by
  have:=s.nd
  rw[<-T5 (k+1) nm, <-take_snoc ha]at this
  rw[XS]at this
  have:=this.1
  rw[XS]at this
  exact this.2.2 a z a NB rfl
 unfold less
 rw[List.filter_filter,List.filter_filter]
 refine Qao fun d hd=>?_
 have Qs:=h.lt d hd
 rw[<-take_snoc ha,fA (fun e he=>by
  rcases T3.mp he with z | z
  ·exact s.ph e (XF z)
  ·rw[Hy.mp z];exact has) Qs,fA (fun e he=>s.ph e (XF he)) Qs]
 have na:ax a∉nm.take k:=fun z=>by
  have:=bf a has
  have h3:=cS _ this.2.2
  exact h3.2.2.1 (s.ph _ (XF z))
 by_cases z1:d=a
 ·subst z1;simp[hn,na]
 ·by_cases z2:d=ax a
  ·rw[z2,aD VA];simp[hn,na]
  ·have z3:ax d≠a:=fun e=>z2 (by rw[<-e,aD Qs])
   simp[z1,z2,z3]
theorem FL.mono {y nm v:List Nat} {j k:Nat} (h:j<=k) (g:FL y nm j v):FL y nm k v:=let ⟨i,h1,h2,r⟩:=g;⟨i,h1,XG h2 h,r⟩
theorem qU {y nm:List Nat} (h:Yd y) (s:ck y nm): ∀{k:Nat},k+1<=nm.length-> ∀{ws:List (List Nat)},Parts (y.filter (kept (nm.take (k+1)))) ws-> ∃N:List (List Nat),N.Nodup/\(∀v,v∈N↔FL y nm (k+1) v)/\2*N.length+3=3*(k+1)+ws.length
 | 0,hk,ws,p=>by
  obtain ⟨a,ha⟩: ∃a,nm[0]? =some a:=⟨nm[0],Hz (by omega)⟩
  have Ft:=Xo ha
  have e1:nm.take 1=[a]:=by have:=take_snoc ha;simpa using this.symm
  have st:=s.take 1
  have hz:=h.within st.ph
  have hlen:=st.len h
  have l1:(nm.take 1).length=1:=by rw[e1];rfl
  have h2:(y.filter (kept (nm.take 1))).length=2:=by omega
  have BR:a∈y.filter (kept (nm.take 1)):=Xp.mpr ⟨s.bh a Ft,by rw[fA st.ph (h.lt a (s.bh a Ft)),e1];simp⟩
  obtain ⟨us,pu,eu,_⟩:=CZ hz h2 BR (s.ph a Ft)
  have pe:=(p.perm hz (by omega) pu).trans eu.symm
  have hl:ws.length=2:=by have:=pe.length_eq;simpa using this
  have one: ∀w∈ws,aY w=aY [a]:=fun w hw=>by
   obtain ⟨o,bh⟩:=p.eG w hw
   rw[<-fZ hz (by omega) o bh]
   have m:=pe.mem_iff.mp (XH.mpr ⟨w,hw,rfl⟩)
   have la:AllLt [a]:=fun c hc=>by rw[Hy.mp hc];exact h.lt a (s.bh a Ft)
   rcases T4.mp m with g | g
   ·rw[g];exact CA la
   ·rw[Hy.mp g]
  refine ⟨[aY [a]],XD.mpr ⟨Xl,Yk⟩,fun v=>?_,by rw[hl];rfl⟩
  rw[Hy]
  constructor
  ·intro e
   obtain ⟨w,r,q⟩:=List.exists_cons_of_ne_nil (l:=ws) fun z=>by rw[z]at hl;cases hl
   have hw:w∈ws:=by rw[q];exact NB
   exact ⟨1,Rv _,Rv _,ws,p,w,hw,by rw[one w hw,e]⟩
  ·rintro ⟨j,j1,j2,us,pu,w,hw,rfl⟩
   obtain rfl:j=1:=by omega
   obtain ⟨u,hu,e⟩:=jr hz (by omega) pu p hw
   rw[e,one u hu]
 | k+1,hk,ws,p=>by
  obtain ⟨a,ha⟩: ∃a,nm[k+1]? =some a:=⟨nm[k+1],Hz (by omega)⟩
  have Ft:=Xo ha
  have IZ:=s.bh a Ft
  have st:=s.take (k+1+1)
  have hz:=h.within st.ph
  have hlen:=st.len h
  rw[Rt,X6 hk]at hlen
  have BR:a∈y.filter (kept (nm.take (k+1+1))):=Xp.mpr ⟨IZ,by rw[fA st.ph (h.lt a IZ), <-take_snoc ha];simp⟩
  have hl:=Ag h s ha
  obtain ⟨us,rs,pu,cs⟩:=Ae hz (by omega) BR p
  rw[hl]at pu
  obtain ⟨N,nd,mem,len⟩:=qU h s (k:=k) (by omega) pu
  have Qt: ∀j,j<=k+1-> ∀c∈y.filter (kept (nm.take j)),c≠a/\c≠ax a:=fun j hj c hc=>by
   have:=qT hj c hc
   rw[<-hl]at this
   exact (bU.mp this).2
  have grow: ∀new:List (List Nat),ws.Perm (new++rs)->(∀r∈rs,r∈us)->(∀w∈new,a∈w\/ax a∈w)->(new.map aY).Nodup->(N++new.map aY).Nodup/\ ∀v,v∈N++new.map aY↔FL y nm (k+1+1) v:=fun new pm ru hn nn=>by
   have nw: ∀w∈new,w∈ws:=fun w hw=>pm.mem_iff.mpr (Xx _ hw)
   constructor
   ·refine XS.mpr ⟨nd,nn,fun v hv u hu e=>?_⟩
    subst e
    obtain ⟨w,hw,e⟩:=XH.mp hu
    obtain ⟨j,j1,j2,SF,N0,w',IM,e'⟩:=(mem v).mp hv
    obtain ⟨o,bh⟩:=p.eG w (nw w hw)
    obtain ⟨o',I_⟩:=N0.eG w' IM
    have SG:=s.take j
    have SH:=h.within SG.ph
    have VB:=SG.len h
    rw[Rt,X6 (by omega)]at VB
    have hj:=Qt j j2
    have g:=(Fs hz (by omega) o bh BR).mpr (hn w hw)
    rw[e,e']at g
    have inj: ∀c∈aY w',c∈y.filter (kept (nm.take j)):=fun c hc=>by
     obtain ⟨m1,m2⟩:=kg SH (by omega) o' I_
     unfold aY at hc
     rcases iP (aE w') (aE (bD w')) with q | q<;>rw[q]at hc
     ·exact I_ c ((m1 c).mp hc)
     ·exact sJ SH I_ c ((m2 c).mp hc)
    rcases g with g | g
    ·exact (hj _ (inj _ g)).1 rfl
    ·exact (hj _ (inj _ g)).2 rfl
   ·intro v
    rw[T3,mem]
    constructor
    ·rintro (g | g)
     ·exact g.mono (YS _)
     ·obtain ⟨w,hw,rfl⟩:=XH.mp g
      exact ⟨k+1+1,by omega,Rv _,ws,p,w,nw w hw,rfl⟩
    ·rintro ⟨j,j1,j2,SF,N0,w',IM,rfl⟩
     by_cases z:j<=k+1
     ·exact .inl ⟨j,j1,z,SF,N0,w',IM,rfl⟩
     ·obtain rfl:j=k+1+1:=by omega
      obtain ⟨u,hu,e⟩:=jr hz (by omega) N0 p IM
      rw[e]
      rcases T3.mp (pm.mem_iff.mp hu) with q | q
      ·exact .inr (XH.mpr ⟨u,q,rfl⟩)
      ·exact .inl ⟨k+1,by omega,Rv _,us,pu,u,ru u q,rfl⟩
  rcases cs with ⟨w,u,v,e,a1,a2,rfl⟩ | ⟨w,x,t,e,a1,a2,a3,rfl⟩
  ·obtain ⟨g1,g2⟩:=grow [w] e (fun r hr=>NA _ (NA _ hr)) (fun u hu=>by rw[Hy.mp hu];exact .inl a1) (XD.mpr ⟨Xl,Yk⟩)
   refine ⟨_,g1,g2,?_⟩
   have el:=e.length_eq
   simp only[Jy,WH,Xn,Yp]at len el ⊢
   omega
  ·have ww:w∈ws:=e.mem_iff.mpr NB
   have xw:x∈ws:=e.mem_iff.mpr (NA _ NB)
   have un:=wZ hz (by omega) (p.eG w ww).1 (p.eG w ww).2 (p.eG x xw).1 (p.eG x xw).2 a1 a2
   obtain ⟨g1,g2⟩:=grow [w,x] e (fun r hr=>NA _ hr) (fun u hu=>by
    rcases T4.mp hu with q | q
    ·rw[q];exact .inl a1
    ·rw[Hy.mp q];exact .inr a3) (by simp[un])
   refine ⟨_,g1,g2,?_⟩
   have el:=e.length_eq
   simp only[Jy,WH,Xn,Yp]at len el ⊢
   omega
theorem Dj {y d:List Nat} (hy:Yd y) (h:SW y d): ∃k,k<=d.length/\(aY d=bE d k\/aY d=bE (bD d) k):=by
 have key: ∀{v:List Nat},SW y v-> ∃k,k<=v.length/\aE v=bE v k:=fun {v} hv=>by
  rw[ig,hv.core hy]
  obtain ⟨k,e⟩:=eV v
  by_cases z:k<=v.length
  ·exact ⟨k,z,e⟩
  ·refine ⟨0,XI _,?_⟩
   rw[e]
   unfold bE
   rw[XZ (by lia),WJ (by lia)]
   simp
 unfold aY aW
 obtain ⟨k,a,b⟩:=key h
 obtain ⟨j,c,e⟩:=key (h.bD hy)
 rw[cC]at c
 split
 ·exact ⟨j,c, .inr e⟩
 ·exact ⟨k,a, .inl b⟩
theorem Dk {aJ:List (Key×V)} {ws:List (List Nat)} (h:aJ.map (·.1)=ws.map fun l=>Sum.inr (S l)) (nd:ws.Nodup) (w:List Nat) (v:V):
  ∃kz:List (List Nat),(putK aJ (Sum.inr (S w):Key) v).map (·.1)=kz.map (fun l=>Sum.inr (S l))/\kz.Nodup/\(∀u,u∈kz↔u∈ws\/u=w)/\kz.length<=ws.length+1:=by
 have inj: ∀a b:List Nat,(Sum.inr (S a):Key)=Sum.inr (S b)->a=b:=fun a b e=>by
  have e2:S a=S b:=Sum.inr.inj e
  rw[<-bV a,e2,bV]
 have MZ:(aJ.any fun kv=>decide (kv.1=(Sum.inr (S w):Key)))=true↔w∈ws:=by
  rw[List.any_eq_true]
  constructor
  ·rintro ⟨kv,hk,e⟩
   have e':=of_decide_eq_true e
   have hm:kv.1∈aJ.map (·.1):=List.mem_map_of_mem hk
   rw[h,e']at hm
   obtain ⟨u,hu,eu⟩:=XH.mp hm
   rw[<-inj u w eu];exact hu
  ·intro hw
   have hm:(Sum.inr (S w):Key)∈aJ.map (·.1):=by rw[h];exact List.mem_map_of_mem (f:=fun l=>(Sum.inr (S l):Key)) hw
   obtain ⟨kv,hk,e⟩:=XH.mp hm
   exact ⟨kv,hk,decide_eq_true e⟩
 unfold putK
 by_cases hw:w∈ws
 ·rw[if_pos (MZ.mpr hw)]
  refine ⟨ws,?_,nd,fun u=>⟨.inl,fun z=>z.elim id fun e=>e▸hw⟩,by lia⟩
  rw[Zm, <-h]
  refine Zv fun kv _=>?_
  show (if kv.1=_ then (kv.1,v) else kv).1=kv.1
  split<;>rfl
 ·rw[if_neg fun z=>hw (MZ.mp z)]
  refine ⟨ws++[w],?_,?_,fun u=>?_,by rw[Jy];exact Rv _⟩
  ·rw[XJ,XJ,h];rfl
  ·refine XS.mpr ⟨nd,XD.mpr ⟨Xl,Yk⟩,fun a ha b hb e=>hw ?_⟩
   rw[<-Hy.mp hb, <-e];exact ha
  ·rw[T3,Hy]
theorem sortedK {a b:List (List Nat)} (h:a.Perm b) (p1:a.Pairwise fun x y=>jB y x=false) (p2:b.Pairwise fun x y=>jB y x=false):a=b:=
 List.Perm.eq_of_pairwise (le:=fun x y=>jB y x=false) (fun x y _ _ g1 g2=>EN x y g2 g1) p1 p2 h
theorem sL {y w:List Nat} (h:SW y w) {k:Nat} (hk:k<=w.length):SW y (bE w k):=h.bE hk
theorem yI {y d e:List Nat} {i:Nat} (hy:Yd y) (hd:SW y d) (he:SW y e) (hi:i<=e.length):SS y d (bE e i)=SS y d e:=by
 rw[oB hy hd (sL he hi),wW he.ne hi,oB hy he hd]
theorem Fu {y d e:List Nat} (hy:Yd y) (hd:SW y d) (he:SW y e):SS y d (bD e)=SS y d e:=by
 rw[oB hy hd (he.bD hy),CT hy he hd,oB hy he hd]
def AK (d v:List Nat):Prop:= ∃k,k<=d.length/\(v=bE d k\/v=bE (bD d) k)
theorem AK.sw {y d v:List Nat} (hy:Yd y) (h:AK d v) (hd:SW y d):SW y v:=by
 obtain ⟨k,hk,rfl | rfl⟩:=h
 ·exact sL hd hk
 ·exact sL (hd.bD hy) (by rw[cC];exact hk)
theorem AK.ss {y d v e u:List Nat} (hy:Yd y) (h:AK d v) (g:AK e u) (hd:SW y d) (he:SW y e):SS y v u=SS y d e:=by
 have hv:=h.sw hy hd
 have r:SS y v u=SS y v e:=by
  obtain ⟨k,hk,rfl | rfl⟩:=g
  ·exact yI hy hv he hk
  ·rw[yI hy hv (he.bD hy) (by rw[cC];exact hk),Fu hy hv he]
 rw[r]
 obtain ⟨k,hk,rfl | rfl⟩:=h
 ·exact wW hd.ne hk
 ·rw[wW (hd.bD hy).ne (by rw[cC];exact hk),CT hy hd he]
theorem AK.kr {y d v:List Nat} (hy:Yd y) (h:AK d v) (hd:SW y d):kr v=kr d:=by
 obtain ⟨k,hk,rfl | rfl⟩:=h
 ·exact C1 hd.ne hk
 ·rw[C1 (hd.bD hy).ne (by rw[cC];exact hk),IW hy hd]
theorem AK.len {d v:List Nat} (h:AK d v):v.length=d.length:=by
 obtain ⟨k,hk,rfl | rfl⟩:=h
 ·unfold bE;rw[Jy,Xi,Rt];lia
 ·have:=cC d
  unfold bE;rw[Jy,Xi,Rt];lia
theorem FL.of {y nm v:List Nat} {k:Nat} (hy:Yd y) (s:ck y nm) (hk:k<=nm.length) (g:FL y nm k v): ∃j d,1<=j/\j<=k/\Yd (y.filter (kept (nm.take j)))/\oI (y.filter (kept (nm.take j))) d/\AK d v:=by
 obtain ⟨j,j1,j2,ws,p,w,hw,rfl⟩:=g
 have st:=s.take j
 have hz:=hy.within st.ph
 have hlen:=st.len hy
 rw[Rt,X6 (by lia)]at hlen
 obtain ⟨o,bh⟩:=p.eG w hw
 have ok:=C9 hz (by lia) p hw
 refine ⟨j,aE w,j1,j2,hz,ok,?_⟩
 rw[<-fZ hz (by lia) o bh]
 exact Dj hz ok.sw
theorem FL.sw {y nm v:List Nat} {k:Nat} (hy:Yd y) (s:ck y nm) (hk:k<=nm.length) (g:FL y nm k v):SW y v/\v.length<=y.length/\mz y v=0:=by
 obtain ⟨j,d,_,_,hz,ok,am⟩:=g.of hy s hk
 have up: ∀c∈y.filter (kept (nm.take j)),c∈y:=fun c hc=>(Xp.mp hc).1
 have sw:=ok.sw.up up
 refine ⟨am.sw hy sw,?_,?_⟩
 ·rw[am.len]
  exact XG ok.len (Y2 _ _)
 ·unfold mz
  rw[am.ss hy am sw sw,am.kr hy sw,De hy hz ok ok.sw,ok.kr]
  rfl
theorem FL.ss {y nm v u:List Nat} {k:Nat} (hy:Yd y) (s:ck y nm) (hk:k<=nm.length) (g:FL y nm k v) (h:FL y nm k u):SS y v u=0:=by
 have key: ∀{v u:List Nat} {i j:Nat} {d e:List Nat},i<=j->Yd (y.filter (kept (nm.take i)))->Yd (y.filter (kept (nm.take j)))->oI (y.filter (kept (nm.take i))) d->oI (y.filter (kept (nm.take j))) e->AK d v->AK e u->SS y v u=0/\SS y u v=0:=fun {v u i j d e} q_ zi zj od oe av au=>by
  have up: ∀{i}, ∀c∈y.filter (kept (nm.take i)),c∈y:=fun c hc=>(Xp.mp hc).1
  have sd:=od.sw.up up
  have se:=oe.sw.up up
  have z:=De hy zj oe (od.sw.up (qT q_))
  rw[av.ss hy au sd se,au.ss hy av se sd,oB hy sd se]
  exact ⟨z,z⟩
 obtain ⟨i,d,_,_,zi,od,av⟩:=g.of hy s hk
 obtain ⟨j,e,_,_,zj,oe,au⟩:=h.of hy s hk
 by_cases q:i<=j
 ·exact (key q zi zj od oe av au).1
 ·exact (key (by lia) zj zi oe od au av).2
theorem FL.bE {a b nm v:List Nat} {k:Nat} (hy:Yd (a++b)) (s:ck (a++b) nm) (g:FL (a++b) nm k v):FL (b++a) nm k v:=by
 obtain ⟨j,j1,j2,ws,p,w,hw,e⟩:=g
 refine ⟨j,j1,j2,ws,?_,w,hw,e⟩
 have hz:=hy.within (s.take j).ph
 rw[Zg]at p hz ⊢
 exact Ad hz p
theorem ck.bE {a b nm:List Nat} (s:ck (a++b) nm):ck (b++a) nm:=⟨s.nd,s.ph,fun d hd=>XE.mem_iff.mp (s.bh d hd)⟩
structure f_ (y:List Nat) (ws:List (List Nat)):Prop where
 nd:ws.Nodup
 ord:ws.Pairwise fun a b=>jB b a=false
 mem: ∃nm:List Nat,nm.Perm (y.filter bW)/\nm.Pairwise (· <= ·)/\ ∀v,v∈ws↔FL y nm nm.length v
theorem Fv {l m y z:List Nat} (a:l.Perm (y.filter bW)) (b:m.Perm (z.filter bW)) (hz:y.Perm z) (pa:l.Pairwise (· <= ·)) (pb:m.Pairwise (· <= ·)):l=m:=
 List.Perm.eq_of_pairwise (le:=fun a b=>a<=b) (fun _ _ _ _ h1 h2=>Ze h1 h2) pa pb ((a.trans (hz.filter _)).trans b.symm)
theorem f_.one {a b:List Nat} {ws us:List (List Nat)} (hy:Yd (a++b)) (h:f_ (a++b) ws) (g:f_ (b++a) us):ws=us:=by
 obtain ⟨nm,n1,n2,n3⟩:=h.mem
 obtain ⟨W4,m1,m2,m3⟩:=g.mem
 obtain rfl:=Fv n1 m1 XE n2 m2
 have s:=ck.of hy n1
 refine sortedK ((Y5 h.nd g.nd).mpr fun w=>?_) h.ord g.ord
 rw[n3,m3]
 exact ⟨fun z=>z.bE hy s,fun z=>z.bE hy.bE s.bE⟩
theorem f_.same {y:List Nat} {ws us:List (List Nat)} (hy:Yd y) (h:f_ y ws) (g:f_ y us):ws=us:=by
 have:=f_.one (a:=[]) (b:=y) (ws:=ws) (us:=us) hy h (by rw[XA];exact g)
 exact this
theorem f_.many {y:List Nat} {ws:List (List Nat)} (hy:Yd y) (h2:2<=y.length) (h:f_ y ws) {rs:List (List Nat)} (p:Parts y rs):4*ws.length+6=3*y.length+2*rs.length:=by
 obtain ⟨nm,n1,n2,n3⟩:=h.mem
 have s:=ck.of hy n1
 have hl:=fo hy
 have nl:=n1.length_eq
 obtain ⟨k,hk⟩: ∃k,nm.length=k+1:=⟨nm.length - 1,by lia⟩
 have e:y.filter (kept (nm.take (k+1)))=y:=by
  rw[<-hk,Yz]
  refine Zc.mpr fun c hc=>?_
  rw[fA s.ph (hy.lt c hc)]
  rcases hy.lt c hc with q | q
  ·rw[decide_eq_true (show c∈nm from n1.mem_iff.mpr (Xp.mpr ⟨hc,(bf c q).1⟩))];rfl
  ·rw[decide_eq_true (show ax c∈nm from n1.mem_iff.mpr (Xp.mpr ⟨hy.cl c hc,(bf _ (cS c q).2.2.2).1⟩))];exact Bool.or_true _
 have p':Parts (y.filter (kept (nm.take (k+1)))) rs:=by rw[e];exact p
 obtain ⟨N,nd,mem,len⟩:=qU hy s (k:=k) (by lia) p'
 have:=((Y5 h.nd nd).mpr fun w=>by rw[n3,mem,hk]).length_eq
 lia
theorem f_.sw {y:List Nat} {ws:List (List Nat)} (hy:Yd y) (h:f_ y ws): ∀w∈ws,SW y w/\w.length<=y.length/\mz y w=0:=fun w hw=>by
 obtain ⟨nm,n1,n2,n3⟩:=h.mem
 exact ((n3 w).mp hw).sw hy (ck.of hy n1) (Rv _)
theorem f_.ss {y:List Nat} {ws:List (List Nat)} (hy:Yd y) (h:f_ y ws): ∀w∈ws, ∀v∈ws,SS y w v=0:=fun w hw v hv=>by
 obtain ⟨nm,n1,n2,n3⟩:=h.mem
 exact ((n3 w).mp hw).ss hy (ck.of hy n1) (Rv _) ((n3 v).mp hv)
theorem f_.h_ {y:List Nat} {ws:List (List Nat)} (hy:Yd y) (h2:2<=y.length) (h8:y.length<=8) (h:f_ y ws) {rs:List (List Nat)} (p:Parts y rs):ws.length<=10:=by
 have:=h.many hy h2 p
 have r:rs.length<=y.length:=by
  have:=(p.perm hy h2 p).length_eq
  have fl:=oF (y:=y) (fun w hw=>⟨(p.eG w hw).1.nd,(p.eG w hw).2⟩) p.pR
  have l1:=fl.length_le_of_subset (l₂:=y) fun c hc=>by
   obtain ⟨w,hw,hc⟩:=Qat.mp hc
   exact (p.eG w hw).2 c hc
  have key: ∀{ls:List (List Nat)},(∀w∈ls,w≠[])->ls.length<=ls.flatten.length:=fun {ls}=>by
   induction ls with
   | nil=>intro _;exact Rv _
   | cons a l ih=>
    intro hn
    have i:=ih fun w hw=>hn w (NA _ hw)
    have:=Xs.mpr (hn a NB)
    rw[X7,Jy,Xn]
    lia
  exact XG (key fun w hw=>(p.eG w hw).1.ne) l1
 lia
theorem f_.lay {y:List Nat} {ws:List (List Nat)} (hy:Yd y) (h:f_ y ws):PyData.canLayAll0 (ya ws)=true:=yb fun l hl=>uE fun c hc=>hy.lt c ((h.sw hy l hl).1.bh c hc)
theorem Dl {y w:List Nat} (hy:Yd y) (hw:SW y w): ∃k:Nat,2*(k:Int)=mz y w:=by
 obtain ⟨k,hk⟩:=Fn hy hw
 have h0:=(C3 (y:=y) hw.ne).1
 refine ⟨(k+(kr w - 1)).toNat,?_⟩
 unfold mz at h0 ⊢
 omega
theorem Dm (l:List Nat):(vE l).all gI=true:=by unfold vE;rw[List.all_map,Yg];intro x _;rfl
theorem sM (e:Nat): ∀l:List Nat,xI (.int (e:Nat)) (vE l)=decide (e∈l)
 | []=>by simp[xI,vE]
 | c::l=>by
  have ih:=sM e l
  show (za (.int (c:Nat)) (.int (e:Nat))||xI (.int (e:Nat)) (vE l))=_
  rw[ih]
  have key:za (.int (c:Nat)) (.int (e:Nat))=decide (e=c):=by
   show decide ((c:Int)=(e:Int))=_
   exact decide_eq_decide.mpr ⟨fun z=>by omega,fun z=>by omega⟩
  rw[key]
  by_cases z:e=c
  ·subst z;simp
  ·simp[z]
theorem Ja {l:List Nat} {j:Nat} {d:PyData} (h:(ids l)[j]? =some d): ∃c,l[j]? =some c/\d= .int c:=by
 unfold ids at h
 rw[XC]at h
 obtain ⟨c,hc,rfl⟩:=Option.map_eq_some_iff.mp h
 exact ⟨c,hc,rfl⟩
theorem u9 (a b:Nat):PyData.eqv (.int a) (.int b)=decide (a=b):=by
 show ((a:Int)==(b:Int))=_
 by_cases z:a=b
 ·subst z;simp
 ·rw[decide_eq_false z];exact beq_eq_false_iff_ne.mpr fun q=>z (by omega)
theorem qV: ∀(l:List Nat) (j:Nat),(vE l).eraseIdx j=vE (l.eraseIdx j)
 | [],_=>rfl
 | _::_,0=>rfl
 | a::l,j+1=>by
  show V.int (a:Nat)::(vE l).eraseIdx j=V.int (a:Nat)::vE (l.eraseIdx j)
  rw[qV l j]
theorem sN: ∀l:List Nat,PyData.canLayAll0 (ids l)=true
 | []=>rfl
 | _::l=>sN l
theorem Dp (ls:List (List Nat)):(b0 ls).all gI=true:=by unfold b0;rw[List.all_map,Yg];intro x _;rfl
theorem w4 (ls:List (List Nat)):(PyData.list (ya ls)).depth<=60:=by show PyData.depthAll (ya ls)+1<=60;rw[qB];decide
theorem w5 (ls:List (List Nat)):PyData.eqv (.list (ya ls)) (.list (ya ls))=true:=eqv_refl (.list (ya ls)) (by show PyData.hasDictAll (ya ls)=false;exact uQ _)
theorem iQ {ws:List (List Nat)} {i:Nat} {x:V} (h:(b0 ws)[i]? =some x): ∃w,ws[i]? =some w/\x= .str (S w):=by
 unfold b0 at h
 rw[XC]at h
 cases e:ws[i]? with
 | none=>rw[e]at h;cases h
 | some p=>rw[e]at h;cases h;exact ⟨p,rfl,rfl⟩
theorem FL.succ {y nm:List Nat} {i:Nat} {ws:List (List Nat)} (hy:Yd y) (s:ck y nm) (hi:i<nm.length) (p:Parts (y.filter (kept (nm.take (i+1)))) ws) {v:List Nat}:FL y nm (i+1) v↔FL y nm i v\/ ∃w∈ws,v=aY w:=by
 have st:=s.take (i+1)
 have hz:=hy.within st.ph
 have hlen:=st.len hy
 rw[Rt,X6 (by lia)]at hlen
 constructor
 ·rintro ⟨j,j1,j2,us,pu,u,hu,rfl⟩
  by_cases z:j<=i
  ·exact .inl ⟨j,j1,z,us,pu,u,hu,rfl⟩
  ·obtain rfl:j=i+1:=by lia
   obtain ⟨w,hw,e⟩:=jr hz (by lia) pu p hu
   exact .inr ⟨w,hw,e⟩
 ·rintro (g | ⟨w,hw,e⟩)
  ·exact g.mono (YS _)
  ·exact ⟨i+1,by lia,Rv _,ws,p,w,hw,e⟩
theorem FL.rims {y nm:List Nat} {i:Nat} {L:List (List Nat)} (hy:Yd y) (s:ck y nm) (hi:i<nm.length) (r:eQ (y.filter (kept (nm.take (i+1)))) L) {v:List Nat}:FL y nm (i+1) v↔FL y nm i v\/ ∃w∈L,v=aY w:=by
 obtain ⟨ws,p,q,_⟩:=r
 have st:=s.take (i+1)
 have hz:=hy.within st.ph
 have hlen:=st.len hy
 rw[Rt,X6 (by lia)]at hlen
 rw[FL.succ hy s hi p]
 refine or_congr_right ⟨?_,?_⟩
 ·rintro ⟨w,hw,e⟩
  exact ⟨aE w,q.mem_iff.mpr (XH.mpr ⟨w,hw,rfl⟩),by rw[e,fZ hz (by lia) (p.eG w hw).1 (p.eG w hw).2]⟩
 ·rintro ⟨r,hr,e⟩
  obtain ⟨w,hw,rfl⟩:=XH.mp (q.mem_iff.mp hr)
  exact ⟨w,hw,by rw[e,fZ hz (by lia) (p.eG w hw).1 (p.eG w hw).2]⟩
theorem FL.zero {y nm v:List Nat}: ¬FL y nm 0 v:=fun ⟨_,a,b,_⟩=>by lia
structure qW (y nm:List Nat) (i:Nat) (R:List Nat->Prop) (ws:List (List Nat)):Prop where
 nd:ws.Nodup
 mem: ∀w,w∈ws↔FL y nm i w\/R w
theorem qW.congr {y nm:List Nat} {i:Nat} {R R':List Nat->Prop} {ws:List (List Nat)} (h:qW y nm i R ws) (e: ∀w,R w↔R' w):qW y nm i R' ws:=⟨h.nd,fun w=>by rw[h.mem,e]⟩
theorem qW.Jb {y nm:List Nat} {i:Nat} {R R':List Nat->Prop} {ws:List (List Nat)} {x:List Nat} (h:qW y nm i R ws) (e: ∀w,(w=x\/R w)↔R' w) (hx:x∈ws):qW y nm i R' ws:=⟨h.nd,fun w=>by
 rw[h.mem, <-e]
 refine ⟨fun g=>g.imp id .inr,fun g=>g.elim .inl fun g=>g.elim (fun g=>?_) .inr⟩
 rw[g];exact (h.mem x).mp hx⟩
theorem qW.add {y nm:List Nat} {i:Nat} {R R':List Nat->Prop} {ws:List (List Nat)} {x:List Nat} (h:qW y nm i R ws) (e: ∀w,(w=x\/R w)↔R' w) (hx:x∉ws):qW y nm i R' (ws++[x]):=⟨XS.mpr ⟨h.nd,XD.mpr ⟨Xl,Yk⟩,fun a ha b hb q=>hx (by rw[<-Hy.mp hb, <-q];exact ha)⟩,fun w=>by
 rw[T3,Hy,h.mem, <-e,or_assoc,or_congr_right or_comm]⟩
theorem qW.next {y nm:List Nat} {i:Nat} {R:List Nat->Prop} {ws:List (List Nat)} (h:qW y nm i R ws) (e: ∀v,FL y nm (i+1) v↔FL y nm i v\/R v):qW y nm (i+1) (fun _=>False) ws:=⟨h.nd,fun w=>by rw[h.mem,e,or_false]⟩
theorem qW.done {y nm:List Nat} {ws us:List (List Nat)} (n1:nm.Perm (y.filter bW)) (n2:nm.Pairwise (· <= ·)) (h:qW y nm nm.length (fun _=>False) ws) (p:us.Perm ws) (o:us.Pairwise fun a b=>jB b a=false):f_ y us:=
 ⟨p.nodup_iff.mpr h.nd,o,nm,n1,n2,fun v=>by rw[p.mem_iff,h.mem,or_false]⟩
theorem qW.len {y nm:List Nat} {i:Nat} {R:List Nat->Prop} {ws:List (List Nat)} (hy:Yd y) (s:ck y nm) (hi:i<=nm.length) (h:qW y nm i R ws) (r: ∀w,R w->FL y nm nm.length w): ∀w∈ws,SW y w/\w.length<=y.length:=fun w hw=>by
 rcases (h.mem w).mp hw with g | g
 ·exact ⟨(g.sw hy s hi).1,(g.sw hy s hi).2.1⟩
 ·exact ⟨((r w g).sw hy s (Rv _)).1,((r w g).sw hy s (Rv _)).2.1⟩
theorem u_ {K:PySem.W.Frag} {x:Str} {pos:Pos} {q:Str} {H:Hp} {p:Addr} {xs:List V} {o:HO} (h:Tab K x pos q H) (hp:H p=some (.lst xs)):Tab K x pos q (upd H p o):=fun c P e=>by
 rcases h c P e with g | ⟨c',g1,g2⟩
 ·exact .inl (by rw[ao (fun z=>by rw[z,hp]at g;cases g)];exact g)
 ·exact .inr ⟨c',by rw[ao (fun z=>by rw[z,hp]at g1;cases g1)];exact g1,by rw[ao (fun z=>by rw[z,hp]at g2;cases g2)];exact g2⟩
def FT (K:PySem.W.Frag) (P:Addr):Prop:=TabAt K "by_size" P\/TabAt K "_law_full" P
inductive kh (K:PySem.W.Frag) (vs:List V) (H:Hp) (Q:VK) (gR:XK):Prop
 | mk (d:Addr) (aJ:List (Key×V)) (ws:List (List Nat)) (_:vs=[.ref d]) (_:H d=some (.dK aJ)) (_:(aJ.map (·.1)=ws.map fun l=>Sum.inr (S l))) (_:ws.length<=1000) (_:(∀w∈ws,w.length<=1000)) (_:cb K H) (_: ∀(t:Addr) (us:List (List Nat)) H',bo (TabAt K "by_size") H H'->cb K H'->H t=none->H' t=some (.lst (b0 us))->us.Perm ws->(us.Pairwise fun a b=>jB b a=false)->Q (.ref t) H'):kh K vs H Q gR
def oP (K:PySem.W.Frag):Sp:=kh K
theorem va {K:PySem.W.Frag} {vs:List V} {H:Hp} {Q:VK} {E:XK} (h:oP K vs H Q E):vs.length=1:=by obtain ⟨_,_,_,rfl,_⟩:=h;rfl
def lY (K:PySem.W.Frag):Sp:=fun vs H Q _=> ∃y:List Nat,vs=[.str (S y)]/\Yd y/\2<=y.length/\y.length<=8/\cb K H/\ ∀(t:Addr) (ws:List (List Nat)) H',bo (TabAt K "by_size") H H'->cb K H'->H t=none->H' t=some (.lst (b0 ws))->f_ y ws->ws.length<=100->Q (.ref t) H'
theorem sO {K:PySem.W.Frag} {vs:List V} {H:Hp} {Q:VK} {E:XK} (h:lY K vs H Q E):vs.length=1:=by obtain ⟨_,rfl,_⟩:=h;rfl
def yJ (_:PySem.W.Frag):Sp:=fun vs H Q _=> ∃y:List Nat,vs=[.str (S y)]/\Yd y/\2<=y.length/\y.length<=8/\ ∀(L:List (List Nat)) (H':Hp),eQ y L->ay H H'->Q (.int (2*((y.length:Int) / 2) - 1 - ((((y.length:Int) / 2)+1 - (L.length:Int)) / 2))) H'
theorem Dq {K:PySem.W.Frag} {vs:List V} {H:Hp} {Q:VK} {E:XK} (h:yJ K vs H Q E):vs.length=1:=by obtain ⟨_,rfl,_⟩:=h;rfl
inductive kj (K:PySem.W.Frag) (vs:List V) (H:Hp) (Q:VK) (gR:XK):Prop
 | mk (y:List Nat) (p:Addr) (l:List Nat) (_:vs=[.str (S y), .ref p]) (_:Yd y) (_:y.length<=8) (_:a_ K H p (bw l)) (_:l.length<=100) (_:(∀d∈l,d∈aO)) (_: ∀H',ay H H'->Q (.str (S (y.filter (kept l)))) H'):kj K vs H Q gR
def oQ (K:PySem.W.Frag):Sp:=kj K
theorem vb {K:PySem.W.Frag} {vs:List V} {H:Hp} {Q:VK} {E:XK} (h:oQ K vs H Q E):vs.length=2:=by obtain ⟨_,_,_,rfl,_⟩:=h;rfl
def vc (_:PySem.W.Frag):Sp:=fun vs H Q _=> ∃(y:List Nat),vs=[.str (S y)]/\Yd y/\2<=y.length/\y.length<=8/\ ∀q (L:List (List Nat)) H',Parts y L->L.length<=8->H q=none->H' q=some (.lst (b0 L))->ay H H'->Q (.ref q) H'
theorem Ah {K:PySem.W.Frag} {vs:List V} {H:Hp} {Q:VK} {E:XK} (h:vc K vs H Q E):vs.length=1:=by obtain ⟨_,rfl,_⟩:=h;rfl
def vd (_:PySem.W.Frag):Sp:=fun vs H Q _=> ∃l:List Nat,vs=[.str (S l)]/\(∀c∈l,Lt c)/\l.length<=1000/\ ∀H',ay H H'->Q (.str (S (aY l))) H'
theorem Ai {K:PySem.W.Frag} {vs:List V} {H:Hp} {Q:VK} {E:XK} (h:vd K vs H Q E):vs.length=1:=by obtain ⟨_,rfl,_⟩:=h;rfl
def ve (K:PySem.W.Frag):Sp:=fun vs H Q _=> ∃y:List Nat,vs=[.str (S y)]/\Yd y/\2<=y.length/\y.length<=8/\fc K H/\ ∀(t:Addr) (ws:List (List Nat)) H',bo (TabAt K "_law_full") H H'->fc K H'->H t=none->H' t=some (.lst (b0 ws))->f_ y ws->Q (.ref t) H'
theorem Aj {K:PySem.W.Frag} {vs:List V} {H:Hp} {Q:VK} {E:XK} (h:ve K vs H Q E):vs.length=1:=by obtain ⟨_,rfl,_⟩:=h;rfl
inductive iw (p_:PySem.W.Frag) (vs:List V) (H:Hp) (Q:VK) (gR:XK):Prop
 | mk (y:List Nat) (wt:Addr) (ws:List (List Nat)) (_:vs=[.str (S y), .ref wt]) (_:Yd y) (_:y.length<=8) (_:H wt=some (.lst (b0 ws))) (_:ws.length<=100) (_:(∀w∈ws,SW y w/\w.length<=12/\mz y w=0)) (_:(∀w∈ws, ∀v∈ws,SS y w v=0)) (_: ∀H',ay H H'->Q (.bl true) H'):iw p_ vs H Q gR
def kl (p_:PySem.W.Frag):Sp:=iw p_
theorem pV {K:PySem.W.Frag} {vs:List V} {H:Hp} {Q:VK} {E:XK} (h:kl K vs H Q E):vs.length=2:=by obtain ⟨_,_,_,rfl,_⟩:=h;rfl
def qX (K:PySem.W.Frag):Sp:=fun vs H Q _=> ∃y:List Nat,vs=[.str (S y)]/\Yd y/\2<=y.length/\y.length<=8/\cb K H/\fc K H/\ ∀H',bo (FT K) H H'->cb K H'->fc K H'->Q (.bl true) H'
theorem w6 {K:PySem.W.Frag} {vs:List V} {H:Hp} {Q:VK} {E:XK} (h:qX K vs H Q E):vs.length=1:=by obtain ⟨_,rfl,_⟩:=h;rfl
structure pW (y l:List Nat) (ws:List (List Nat)):Prop where
 eG: ∀w∈ws,di (bH y) w/\ ∀c∈w,c∈y
 pR:ws.Pairwise fun u v=> ∀c,c∈u->c∉v
 yK: ∀i,i∈l↔i<y.length/\ ∀u∈ws,ax (y.getD i 0)∉u
 nd:l.Nodup
 h_:ws.length+l.length<=y.length
theorem pW.start (y:List Nat):pW y (List.range y.length) []:=⟨fun _ h=>absurd h Xl,List.Pairwise.nil,fun i=>by rw[Yu];exact ⟨fun h=>⟨h,fun _ h=>absurd h Xl⟩,fun h=>h.1⟩,List.nodup_range,by simp⟩
theorem oR {y:List Nat} {i:Nat} (h:i<y.length):y.getD i 0=y[i]:=by rw[Yf,Hz h];rfl
theorem dS {y:List Nat} {i:Nat} (h:i<y.length):y.getD i 0∈y:=by rw[oR h];exact YA h
theorem sP {y:List Nat} {i j:Nat} (hn:y.Nodup) (hi:i<y.length) (hj:j<y.length) (e:y.getD i 0=y.getD j 0):i=j:=n_ hn hi hj (by rw[<-oR hi, <-oR hj,e])
theorem yL {y:List Nat} {c:Nat} (h:c∈y):y.getD (y.idxOf c) 0=c:=by rw[oR (T2 h)];exact XT _
theorem pW.done {y:List Nat} {ws:List (List Nat)} (hy:Yd y) (r:pW y [] ws):Parts y ws:=⟨r.eG,r.pR,fun c hc=>by
 by_cases z: ∃w∈ws,c∈w
 ·exact z
 ·have AD:=hy.cl c hc
  exact absurd ((r.yK (y.idxOf (ax c))).mpr ⟨T2 AD,fun u hu q=>z ⟨u,hu,by rw[yL AD,aD (hy.lt c hc)]at q;exact q⟩⟩) Xl⟩
theorem Dr {f:Nat->Nat} {u:List Nat} {d:Nat} (o:di f u) (h:d∈u): ∃c∈u,f c=d:=by
 obtain ⟨a,b,rfl⟩:=Ym h
 have p:Path f (d::b++a) d:=o.begun.pa
 rcases snoc_cases (d::b++a) with z | ⟨m,c,z⟩
 ·simp at z
 ·rw[z]at p
  refine ⟨c,?_,qN p⟩
  have hc:c∈d::b++a:=by rw[z];simp
  rcases T3.mp hc with q | q
  ·exact T6 _ q
  ·exact Xx _ q
structure Fx (y l0:List Nat) (ws:List (List Nat)) (i0:Nat) (g w:List Nat) (ft:Nat):Prop where
 mH:mv y (y.getD i0 0) w (y.getD ft 0)
 lt:ft<y.length
 yK: ∀i,i∈g↔i∈l0/\ ¬(w≠[]/\(y.getD i 0=y.getD i0 0\/ax (y.getD i 0)∈w.dropLast))
 old: ∀c∈w.dropLast, ∀u∈ws,c∉u
 nd:g.Nodup
 sz:w.length+g.length=l0.length
theorem Fx.start {y l0:List Nat} {ws:List (List Nat)} {i0:Nat} (h:pW y l0 ws) (hi:i0∈l0):Fx y l0 ws i0 l0 [] i0:=by
 have hl:=((h.yK i0).mp hi).1
 exact ⟨mv.start (dS hl),hl,fun i=>⟨fun z=>⟨z,fun q=>q.1 rfl⟩,fun z=>z.1⟩,fun c hc=>absurd hc (by simp),h.nd,by simp⟩
theorem Fx.turn {y l0 g w:List Nat} {ws:List (List Nat)} {i0 ft:Nat} (hy:Yd y) (h:pW y l0 ws) (hi:i0∈l0) (r:Fx y l0 ws i0 g w ft) (ha:ft∈g):Fx y l0 ws i0 (g.erase ft) (w++[dt y (y.getD ft 0)]) (y.idxOf (ax (dt y (y.getD ft 0)))):=by
 have hl:=((h.yK i0).mp hi).1
 obtain ⟨VC,JJ⟩:=(r.yK ft).mp ha
 have HV:=(h.yK ft).mp VC
 have hm:=fE (dS r.lt)
 have SI:=hy.cl _ hm
 have go:w=[]\/y.getD ft 0≠y.getD i0 0:=by
  by_cases z:w=[]
  ·exact .inl z
  ·exact .inr fun e=>JJ ⟨z, .inl e⟩
 refine ⟨by rw[yL SI];exact r.mH.turn hy (dS hl) go,T2 SI,fun i=>?_,fun c hc u hu=>?_,r.nd.erase _,?_⟩
 ·rw[r.nd.mem_erase_iff,r.yK,XU]
  have key:i∈l0->(i≠ft/\ ¬(w≠[]/\(y.getD i 0=y.getD i0 0\/ax (y.getD i 0)∈w.dropLast))↔ ¬(w++[dt y (y.getD ft 0)]≠[]/\(y.getD i 0=y.getD i0 0\/ax (y.getD i 0)∈w))):=fun il=>by
   have Qu:=((h.yK i).mp il).1
   have cR:w++[dt y (y.getD ft 0)]≠[]:=by simp
   by_cases z:w=[]
   ·subst z
    have e:=r.mH.no rfl
    constructor
    ·rintro ⟨a,_⟩ ⟨_,b | b⟩
     ·exact a (sP hy.nd Qu r.lt (b.trans e.symm))
     ·exact absurd b Xl
    ·intro a
     refine ⟨fun b=>a ⟨cR, .inl (by rw[b];exact e)⟩,fun b=>b.1 rfl⟩
   ·obtain ⟨_,e⟩:=r.mH.hd z
    have Ql:=qM z
    have JE:=r.mH.way.bh _ Ql
    have mw: ∀c,c∈w↔c∈w.dropLast\/c=w.getLastD 0:=fun c=>by
     rcases snoc_cases w with q | ⟨m,a,q⟩
     ·exact absurd q z
     ·rw[q,XU,bC,T3,Hy]
    have el:ax (y.getD i 0)=w.getLastD 0↔i=ft:=by
     constructor
     ·intro q
      refine sP hy.nd Qu r.lt ?_
      rw[e, <-q,aD (hy.lt _ (dS Qu))]
     ·intro q
      rw[q,e,aD (hy.lt _ JE)]
    constructor
    ·rintro ⟨a,b⟩ ⟨_,c | c⟩
     ·exact b ⟨z, .inl c⟩
     ·rcases (mw _).mp c with d | d
      ·exact b ⟨z, .inr d⟩
      ·exact a (el.mp d)
    ·intro a
     refine ⟨fun b=>a ⟨cR, .inr ((mw _).mpr (.inr (el.mpr b)))⟩,fun ⟨_,c⟩=>a ⟨cR,c.imp id fun d=>(mw _).mpr (.inl d)⟩⟩
  constructor
  ·rintro ⟨a,b,c⟩
   exact ⟨b,(key b).mp ⟨a,c⟩⟩
  ·rintro ⟨b,c⟩
   obtain ⟨a,d⟩:=(key b).mpr c
   exact ⟨a,b,d⟩
 ·rw[XU]at hc
  rcases snoc_cases w with q | ⟨m,a,q⟩
  ·rw[q]at hc;exact absurd hc Xl
  ·have cR:w≠[]:=by rw[q];simp
   by_cases z:c∈w.dropLast
   ·exact r.old c z u hu
   ·have e:c=w.getLastD 0:=by
     rw[q,XU]at z
     rw[q]at hc ⊢
     rw[bC]
     exact Hy.mp ((T3.mp hc).resolve_left z)
    have JE:=r.mH.way.bh _ (qM cR)
    have:=HV.2 u hu
    rw[(r.mH.hd cR).2,aD (hy.lt _ JE), <-e]at this
    exact this
 ·have:=List.length_erase_of_mem ha
  have:=Zn ha
  have:=r.sz
  rw[Jy,Xn,Yp]
  lia
theorem Fx.stop {y l0 g w:List Nat} {ws:List (List Nat)} {i0 ft:Nat} (hy:Yd y) (h:pW y l0 ws) (hi:i0∈l0) (r:Fx y l0 ws i0 g w ft) (ha:ft∉g):pW y g (ws++[w])/\g.length<l0.length:=by
 obtain ⟨hl,h0⟩:=(h.yK i0).mp hi
 have cR:w≠[]:=fun z=>ha ((r.yK ft).mpr (by
  subst z
  have e:=sP hy.nd r.lt hl (r.mH.no rfl)
  exact ⟨by rw[e];exact hi,fun q=>q.1 rfl⟩))
 obtain ⟨hh,hp⟩:=r.mH.hd cR
 obtain ⟨m,a,q⟩: ∃m a,w=m++[a]:=(snoc_cases w).resolve_left cR
 have SJ:w.getLastD 0=a:=by rw[q,bC]
 have IZ:a∈y:=r.mH.way.bh a (by rw[q];simp)
 have Qv:w.dropLast=m:=by rw[q,XU]
 have ca:ax (y.getD ft 0)=a:=by rw[hp,SJ,aD (hy.lt a IZ)]
 have e0:y.getD ft 0=y.getD i0 0:=Classical.byContradiction fun ne=>by
  by_cases z:ft∈l0
  ·refine ha ((r.yK ft).mpr ⟨z,fun ⟨_,c⟩=>c.elim ne fun c=>?_⟩)
   rw[ca,Qv]at c
   have nd:=r.mH.way.nd
   rw[q,XS]at nd
   exact nd.2.2 a c a NB rfl
  ·have: ∃u∈ws,a∈u:=Classical.byContradiction fun no=>z ((h.yK ft).mpr ⟨r.lt,fun u hu c=>no ⟨u,hu,by rw[<-ca];exact c⟩⟩)
   obtain ⟨u,hu,MN⟩:=this
   obtain ⟨ou,uy⟩:=h.eG u hu
   obtain ⟨c,hc,ec⟩:=Dr ou MN
   rcases snoc_cases m with z2 | ⟨m2,b,z2⟩
   ·-- one letter
    have e1:a=dt y (y.getD i0 0):=by rw[<-hh,q,z2];rfl
    have lc:=hy.cl _ (dS hl)
    have:c=ax (y.getD i0 0):=sC hy (uy c hc) lc (by
     rw[ec,e1]
     unfold bH
     rw[aD (hy.lt _ (dS hl))])
    exact h0 u hu (this▸hc)
   ·have hb:b∈w.dropLast:=by rw[Qv,z2];simp
    have VD:b∈w:=by rw[q,z2];simp
    have pa:=r.mH.way.pa (bH y a) cR (by rw[SJ])
    rw[q,z2,Lu,bZ]at pa
    have eb:bH y b=a:=pa.2.1
    have:c=b:=sC hy (uy c hc) (r.mH.way.bh b VD) (ec.trans eb.symm)
    exact r.old b hb u hu (this▸hc)
 have VE:mv y (y.getD i0 0) w (y.getD i0 0):=by have:=r.mH;rwa [e0]at this
 obtain ⟨o,N1⟩:=VE.stop hy cR
 have Jc:=r.mH.way.bh
 have Ge:=Xs.mpr cR
 have hsz:=r.sz
 refine ⟨⟨fun u hu=>?_,uU hy h.eG h.pR o Jc N1 h0,fun i=>?_,r.nd,?_⟩,by lia⟩
 ·rcases T3.mp hu with z | z
  ·exact h.eG u z
  ·rw[Hy.mp z];exact ⟨o,Jc⟩
 ·rw[r.yK,h.yK]
  constructor
  ·rintro ⟨⟨a1,a2⟩,a3⟩
   refine ⟨a1,fun u hu=>?_⟩
   rcases T3.mp hu with z | z
   ·exact a2 u z
   ·rw[Hy.mp z]
    intro c
    rw[q]at c
    rcases T3.mp c with d | d
    ·exact a3 ⟨cR, .inr (by rw[Qv];exact d)⟩
    ·have:=Hy.mp d
     exact a3 ⟨cR, .inl (cB (hy.lt _ (dS a1)) (hy.lt _ (dS hl)) (by rw[this, <-e0,ca]))⟩
  ·rintro ⟨a1,a2⟩
   have hw:=a2 w (by simp)
   refine ⟨⟨a1,fun u hu=>a2 u (Xx _ hu)⟩,fun ⟨_,c⟩=>?_⟩
   rcases c with c | c
   ·exact hw (by rw[c];exact N1)
   ·exact hw ((List.dropLast_sublist w).subset c)
 ·have:=h.h_
  rw[Jy,Xn,Yp]
  lia
local macro_rules | `(tactic| walk_at "rd") => `(tactic| repeat (first
 | refine ⟨_,rfl,?_⟩
 | refine ⟨_,_,rfl,rfl,?_⟩
 | refine ⟨rfl,?_⟩
 | refine And.intro (by first | decide | omega | assumption | exact Nat.le_of_ble_eq_true rfl | exact .inl ⟨by decide,by decide⟩ | exact .inr ⟨by decide,by decide⟩ | exact ⟨by decide,by decide⟩ | exact ⟨by omega,by omega⟩) ?_))
local macro_rules | `(tactic| walk_at "wk") => `(tactic| repeat (first
 | refine ⟨_,rfl,?_⟩
 | refine ⟨_,_,rfl,rfl,?_⟩
 | refine ⟨_,_,_,rfl,rfl,by first | assumption | omega,by assumption,?_⟩
 | refine ⟨rfl,?_⟩
 | refine And.intro (by first | decide | omega | assumption | exact Nat.le_of_ble_eq_true rfl | exact .inl ⟨by decide,by decide⟩ | exact .inr ⟨by decide,by decide⟩ | exact ⟨by decide,by decide⟩ | exact ⟨by omega,by omega⟩) ?_))
local macro_rules | `(tactic| walk_at "bd") => `(tactic| first | assumption | exact VF _ | exact W5 (by walk_at "bd") (by walk_at "bd"))
noncomputable def top (i:Nat):Stmt:=PySem.Challenge.pw_mustmeet_k42_most_and_full_sets.main.body.getD i (.Pass ⟨0,0,0,0⟩)
noncomputable abbrev js:Stmt:=top 1
noncomputable abbrev oS:Stmt:=top 2
noncomputable abbrev sQ:Stmt:=top 4
noncomputable abbrev oT:Stmt:=top 5
noncomputable abbrev iz:Stmt:=top 7
noncomputable abbrev jt:Stmt:=top 8
noncomputable abbrev w9:Stmt:=top 9
noncomputable abbrev w_:Stmt:=top 10
noncomputable abbrev iR:Stmt:=top 11
noncomputable abbrev ju:Stmt:=top 13
noncomputable abbrev gD:Stmt:=top 14
noncomputable abbrev xc:Stmt:=top 15
noncomputable abbrev lD:Stmt:=top 16
noncomputable abbrev xf:Stmt:=top 18
noncomputable abbrev jv:Stmt:=top 19
noncomputable abbrev xg:Stmt:=top 21
noncomputable abbrev sR:Stmt:=top 22
noncomputable abbrev oU:Stmt:=top 23
noncomputable abbrev sS:Stmt:=top 24
noncomputable abbrev oV:Stmt:=top 25
noncomputable abbrev gE:Stmt:=top 26
noncomputable abbrev iA:Stmt:=top 27
noncomputable abbrev xh:Stmt:=top 28
noncomputable abbrev lE:Stmt:=top 29
noncomputable abbrev oW:Stmt:=top 30
noncomputable abbrev lF:Stmt:=top 31
noncomputable abbrev oX:Stmt:=top 32
noncomputable abbrev oY:Stmt:=top 33
noncomputable abbrev jw:Stmt:=top 34
noncomputable abbrev xi:Stmt:=top 35
noncomputable abbrev lG:Stmt:=top 36
noncomputable abbrev sU:Stmt:=top 37
noncomputable abbrev oZ:Stmt:=top 38
noncomputable abbrev sV:Stmt:=top 39
noncomputable abbrev iB:Stmt:=top 40
noncomputable abbrev sW:Stmt:=top 41
noncomputable abbrev lH:Stmt:=top 42
noncomputable abbrev mO:Stmt:=top 43
noncomputable abbrev o3:Stmt:=top 44
noncomputable abbrev Ds:Stmt:=top 45
structure aX (K:PySem.W.Frag) (mg:Str->Option Value) (x:Str) (st:Stmt) (ps:List Str) (f:Addr) (fd:FuncData):Prop where
 fn:HA K x x st f fd
 mg:mg x=some (.ref f)
 bd:Binds K fd ps []
theorem af {X:Cx} {ss:List Stmt} (Z:TS) (h:vv X ss Z):vv X ss Z:=h
theorem ag {X:Cx} {k j:Nat} {f:Addr} {fd:FuncData} {ps:List Str} {sp:Sp} {x:Str} {st:Stmt} {K:PySem.W.Frag} {mg:Str->Option Value} {e:Expr} {es:List Expr} {t:TA} {p pos:Pos} (G:bp X.prog X.w X.K X.mg X.base dB k f fd ps sp) (F:aX K mg x st ps f fd) (hr:cF j X.A) (ha:PA X (e::es) t) (hK:X.K=K:=by rfl) (hm:X.mg=mg:=by rfl) (hg:Gl X x:=by rfl) (hj:k<=j:=by decide) (hd:(x==("__debug__":Str))=false:=by decide) (he:starEach (e::es) X.env=(false,eval e X.env)::starEach es X.env:=by rfl) (hp:(backTo pos (starEach es X.env)).any (·.1)=false:=by rfl):PE X (.Call (.Name x p) (e::es) [] pos) (Ga sp [] E0 t):=by
 subst hK;subst hm;exact Ea G (hr.mono hj) hg F.mg F.fn.kp F.bd .nil Ly ha hd he hp
theorem aw {X:Cx} {i:Nat} {x:Str} {e:Expr} {te:TE} {p pos:Pos} (hN:X.N.Nodup) (he:PE X e te) (hi:X.N[i]? =some x:=by rfl) (hx:Loc X.env.scope x:=by first | exact .inl rfl | exact .inr rfl) (hs:swapsWith e (some (.Name x p)) pos.line X.env=pure false:=by rfl) (hf:X.fn x=true\/X.env.scope.names.lookup x=some .local:=by first | exact .inl rfl | exact .inr rfl):PS X (.Assign [.Name x p] e pos) (AV te (tM i)):=G7 hN hi hx he hs hf
theorem aa {X:Cx} {e:Expr} {te:TE} (he:PE X e te) (hs:starEach [e] X.env=(false,eval e X.env)::starEach [] X.env:=by rfl):PA X [e] (A1 te Hk):=ai he eZ hs
theorem dU {X:Cx} (K:PySem.W.Frag) {e:Expr} {te:TE} {p pos:Pos} (hm:X.mg "len"=none) (he:PE X e te) (hK:X.K=K:=by rfl) (hg:Gl X "len":=by rfl) (hs:starEach [e] X.env=(false,eval e X.env)::starEach [] X.env:=by rfl) (hp:(backTo pos (starEach [] X.env)).any (·.1)=false:=by rfl):PE X (.Call (.Name "len" p) [e] [] pos) (OQ (Gp K) (A1 te Hk)):=aH (pH K hK) hg hm XR (ai he eZ hs) (by decide) (by decide) hs hp
structure Txt (K:PySem.W.Frag) (mg:Str->Option Value) (f0 f1 f2 f3 f4 f5 f6 f7 f8 f9 JK JL JM JN JO JP JQ JR JS JT JU JV JW JX JY JZ J0 J1 J2 J3 J4 J5 J6 J9 J_ Ka Kb Jd Kc Kd cn dW:Addr) (d0 d1 d2 d3 d4 d5 d6 d7 d8 d9 Ke Kf Kg Kh Ki Kj Kk Kl Km Kn Ko Kp Kq Kr Ks Kt Ku Kv Kw Kx Ky Kz KA KD KG KH KI Je KJ KL:FuncData):Prop where
 F0:aX K mg "contrary" js ["letter"] f0 d0
 F1:aX K mg "turned" oS ["word"] f1 d1
 F2:aX K mg "bands" sQ ["yard"] f2 d2
 F3:aX K mg "within" oT ["yard","some"] f3 d3
 F4:aX K mg "shortened" iz ["word"] f4 d4
 F5:aX K mg "shortest" jt ["word"] f5 d5
 F6:aX K mg "ring" w9 ["word"] f6 d6
 F7:aX K mg "loop" w_ ["word"] f7 d7
 F8:aX K mg "by_size" iR ["words"] f8 d8
 F9:aX K mg "next_end" ju ["yard","end"] f9 d9
 SK:aX K mg "rim_behind" gD ["yard","start"] JK Ke
 Qw:aX K mg "rims" xc ["yard"] JL Kf
 SM:aX K mg "handles" lD ["yard"] JM Kg
 SN:aX K mg "most" xf ["yard"] JN Kh
 KN:aX K mg "full_set" jv ["yard"] JO Ki
 SO:aX K mg "_law_box" xg ["_law_script","_law_k"] JP Kj
 M0:aX K mg "_law_take" sR ["_law_box_here","_law_many"] JQ Kk
 Fy:aX K mg "_law_other" oU ["_law_letter_here"] JR Kl
 SQ:aX K mg "_law_yard" sS ["_law_box_here","_law_few","_law_top"] JS Km
 SR:aX K mg "_law_bands" oV ["_law_yard_here"] JT Kn
 SU:aX K mg "_law_shortened" gE ["_law_word"] JU Ko
 N2:aX K mg "_law_shortest" iA ["_law_word"] JV Kp
 M1:aX K mg "_law_ray" xh ["_law_word","_law_at","_law_way"] JW Kq
 yM:aX K mg "_law_letter" lE ["_law_ray_here","_law_k"] JX Kr
 SV:aX K mg "_law_round" oW ["_law_yard_here","_law_x","_law_y","_law_z"] JY Ks
 N3:aX K mg "_law_parted" lF ["_law_one","_law_other_here","_law_k"] JZ Kt
 Qx:aX K mg "_law_sense" oX ["_law_yard_here","_law_one","_law_other_here","_law_third"] J0 Ku
 SX:aX K mg "_law_meets" oY ["_law_yard_here","_law_w","_law_i","_law_v","_law_j"] J1 Kv
 Qy:aX K mg "_law_between" jw ["_law_yard_here","_law_w","_law_v"] J2 Kw
 SY:aX K mg "_law_own" xi ["_law_yard_here","_law_w"] J3 Kx
 S0:aX K mg "_law_is_lone" lG ["_law_yard_here","_law_word"] J4 Ky
 Qz:aX K mg "_law_ring" sU ["_law_word"] J5 Kz
 S3:aX K mg "_law_about" oZ ["_law_word"] J6 KA
 QA:aX K mg "_law_loop" sV ["_law_word"] J9 KD
 S4:aX K mg "_law_lie_apart" iB ["_law_yard_here","_law_words"] J_ KG
 QB:aX K mg "_law_rims" sW ["_law_yard_here"] Ka KH
 S5:aX K mg "_law_within" lH ["_law_yard_here","_law_some"] Kb KI
 VG:aX K mg "_law_full" mO ["_law_yard_here"] Jd Je
 S6:aX K mg "_law_right" o3 ["_law_yard_here"] Kc KJ
 VH:aX K mg "law" Ds ["_law_script"] Kd KL
 L8:zN K "by_size" "by_size" iR f8 d8 cn
 eY:TabAt K "by_size" cn
 VI:zN K "_law_full" "_law_full" mO Jd Je dW
 iS:TabAt K "_law_full" dW
 tn:([cn,dW]:List Addr).Nodup
 z_all:mg "all"=none
 z_bool:mg "bool"=none
 z_enumerate:mg "enumerate"=none
 z_int:mg "int"=none
 z_isinstance:mg "isinstance"=none
 z_len:mg "len"=none
 z_list:mg "list"=none
 z_max:mg "max"=none
 z_min:mg "min"=none
 z_range:mg "range"=none
 z_reversed:mg "reversed"=none
 z_set:mg "set"=none
 z_sorted:mg "sorted"=none
 z_sum:mg "sum"=none
theorem vf:aB ["letter"] ["letter"] (aq js):=⟨rfl,rfl,rfl,by decide+kernel,rfl,by decide+kernel,by decide+kernel⟩
theorem Ak:aB ["word"] ["word"] (aq oS):=⟨rfl,rfl,rfl,by decide+kernel,rfl,by decide+kernel,by decide+kernel⟩
theorem Dt:aB ["yard"] ["yard"] (aq sQ):=⟨rfl,rfl,rfl,by decide+kernel,rfl,by decide+kernel,by decide+kernel⟩
theorem Al:aB ["yard","some"] ["yard","some"] (aq oT):=⟨rfl,rfl,rfl,by decide+kernel,rfl,by decide+kernel,by decide+kernel⟩
theorem gF:aB ["word","kept","letter"] ["word"] (aq iz):=⟨rfl,rfl,rfl,by decide+kernel,rfl,by decide+kernel,by decide+kernel⟩
theorem cV:aB ["word","left","start","end"] ["word"] (aq jt):=⟨rfl,rfl,rfl,by decide+kernel,rfl,by decide+kernel,by decide+kernel⟩
theorem iT:aB ["word","whole","least","start","begun"] ["word"] (aq w9):=⟨rfl,rfl,rfl,by decide+kernel,rfl,by decide+kernel,by decide+kernel⟩
theorem Fz:aB ["word"] ["word"] (aq w_):=⟨rfl,rfl,rfl,by decide+kernel,rfl,by decide+kernel,by decide+kernel⟩
theorem xj:aB ["words"] ["words"] (aq iR):=⟨rfl,rfl,rfl,by decide+kernel,rfl,by decide+kernel,by decide+kernel⟩
theorem vg:aB ["yard","end"] ["yard","end"] (aq ju):=⟨rfl,rfl,rfl,by decide+kernel,rfl,by decide+kernel,by decide+kernel⟩
theorem cq:aB ["yard","start","word","place","passed"] ["yard","start"] (aq gD):=⟨rfl,rfl,rfl,by decide+kernel,rfl,by decide+kernel,by decide+kernel⟩
theorem iU:aB ["yard","seen","told","end","word","letter"] ["yard"] (aq xc):=⟨rfl,rfl,rfl,by decide+kernel,rfl,by decide+kernel,by decide+kernel⟩
theorem xk:aB ["yard"] ["yard"] (aq lD):=⟨rfl,rfl,rfl,by decide+kernel,rfl,by decide+kernel,by decide+kernel⟩
theorem FA:aB ["yard"] ["yard"] (aq xf):=⟨rfl,rfl,rfl,by decide+kernel,rfl,by decide+kernel,by decide+kernel⟩
theorem d_:aB ["yard","names","loops","count","rim"] ["yard"] (aq jv):=⟨rfl,rfl,rfl,by decide+kernel,rfl,by decide+kernel,by decide+kernel⟩
theorem km:aB ["_law_script","_law_k","_law_cell","_law_seed"] ["_law_script","_law_k"] (aq xg):=⟨rfl,rfl,rfl,by decide+kernel,rfl,by decide+kernel,by decide+kernel⟩
theorem o5:aB ["_law_box_here","_law_many","_law_digit","_law_one"] ["_law_box_here","_law_many"] (aq sR):=⟨rfl,rfl,rfl,by decide+kernel,rfl,by decide+kernel,by decide+kernel⟩
theorem lI:aB ["_law_letter_here","_law_small","_law_capital"] ["_law_letter_here"] (aq oU):=⟨rfl,rfl,rfl,by decide+kernel,rfl,by decide+kernel,by decide+kernel⟩
theorem eh:aB ["_law_box_here","_law_few","_law_top","_law_left","_law_ends","_law_k","_law_letter_here","_law_found"] ["_law_box_here","_law_few","_law_top"] (aq sS):=⟨rfl,rfl,rfl,by decide+kernel,rfl,by decide+kernel,by decide+kernel⟩
theorem Am:aB ["_law_yard_here"] ["_law_yard_here"] (aq oV):=⟨rfl,rfl,rfl,by decide+kernel,rfl,by decide+kernel,by decide+kernel⟩
theorem cP:aB ["_law_word","_law_left","_law_letter_here"] ["_law_word"] (aq gE):=⟨rfl,rfl,rfl,by decide+kernel,rfl,by decide+kernel,by decide+kernel⟩
theorem gG:aB ["_law_word","_law_left"] ["_law_word"] (aq iA):=⟨rfl,rfl,rfl,by decide+kernel,rfl,by decide+kernel,by decide+kernel⟩
theorem FC:aB ["_law_word","_law_at","_law_way"] ["_law_word","_law_at","_law_way"] (aq xh):=⟨rfl,rfl,rfl,by decide+kernel,rfl,by decide+kernel,by decide+kernel⟩
theorem dI:aB ["_law_ray_here","_law_k","_law_head","_law_word","_law_at","_law_way"] ["_law_ray_here","_law_k"] (aq lE):=⟨rfl,rfl,rfl,by decide+kernel,rfl,by decide+kernel,by decide+kernel⟩
theorem lJ:aB ["_law_yard_here","_law_x","_law_y","_law_z","_law_at","_law_rest"] ["_law_yard_here","_law_x","_law_y","_law_z"] (aq oW):=⟨rfl,rfl,rfl,by decide+kernel,rfl,by decide+kernel,by decide+kernel⟩
theorem o6:aB ["_law_one","_law_other_here","_law_k"] ["_law_one","_law_other_here","_law_k"] (aq lF):=⟨rfl,rfl,rfl,by decide+kernel,rfl,by decide+kernel,by decide+kernel⟩
theorem aZ:aB ["_law_yard_here","_law_one","_law_other_here","_law_third","_law_k","_law_some","_law_x","_law_y","_law_z","_law_at","_law_back"] ["_law_yard_here","_law_one","_law_other_here","_law_third"] (aq oX):=⟨rfl,rfl,rfl,by decide+kernel,rfl,by decide+kernel,by decide+kernel⟩
theorem gb:aB ["_law_yard_here","_law_w","_law_i","_law_v","_law_j","_law_on","_law_back","_law_other_on","_law_other_back","_law_others","_law_one"] ["_law_yard_here","_law_w","_law_i","_law_v","_law_j"] (aq oY):=⟨rfl,rfl,rfl,by decide+kernel,rfl,by decide+kernel,by decide+kernel⟩
theorem fG:aB ["_law_yard_here","_law_w","_law_v","_law_found","_law_i"] ["_law_yard_here","_law_w","_law_v"] (aq jw):=⟨rfl,rfl,rfl,by decide+kernel,rfl,by decide+kernel,by decide+kernel⟩
theorem sZ:aB ["_law_yard_here","_law_w","_law_size"] ["_law_yard_here","_law_w"] (aq xi):=⟨rfl,rfl,rfl,by decide+kernel,rfl,by decide+kernel,by decide+kernel⟩
theorem o7:aB ["_law_yard_here","_law_word","_law_short"] ["_law_yard_here","_law_word"] (aq lG):=⟨rfl,rfl,rfl,by decide+kernel,rfl,by decide+kernel,by decide+kernel⟩
theorem vh:aB ["_law_word","_law_left"] ["_law_word"] (aq sU):=⟨rfl,rfl,rfl,by decide+kernel,rfl,by decide+kernel,by decide+kernel⟩
theorem An:aB ["_law_word"] ["_law_word"] (aq oZ):=⟨rfl,rfl,rfl,by decide+kernel,rfl,by decide+kernel,by decide+kernel⟩
theorem Du:aB ["_law_word"] ["_law_word"] (aq sV):=⟨rfl,rfl,rfl,by decide+kernel,rfl,by decide+kernel,by decide+kernel⟩
theorem dj:aB ["_law_yard_here","_law_words","_law_some","_law_k","_law_word","_law_others"] ["_law_yard_here","_law_words"] (aq iB):=⟨rfl,rfl,rfl,by decide+kernel,rfl,by decide+kernel,by decide+kernel⟩
theorem eB:aB ["_law_yard_here","_law_left","_law_found","_law_at","_law_word","_law_end"] ["_law_yard_here"] (aq sW):=⟨rfl,rfl,rfl,by decide+kernel,rfl,by decide+kernel,by decide+kernel⟩
theorem xl:aB ["_law_yard_here","_law_some"] ["_law_yard_here","_law_some"] (aq lH):=⟨rfl,rfl,rfl,by decide+kernel,rfl,by decide+kernel,by decide+kernel⟩
theorem iC:aB ["_law_yard_here","_law_found","_law_names","_law_many","_law_word"] ["_law_yard_here"] (aq mO):=⟨rfl,rfl,rfl,by decide+kernel,rfl,by decide+kernel,by decide+kernel⟩
theorem gc:aB ["_law_yard_here","_law_due","_law_many","_law_number","_law_found"] ["_law_yard_here"] (aq o3):=⟨rfl,rfl,rfl,by decide+kernel,rfl,by decide+kernel,by decide+kernel⟩
theorem lK:aB ["_law_script","_law_yards","_law_k","_law_box_here","_law_yard_here","_law_at"] ["_law_script"] (aq Ds):=⟨rfl,rfl,rfl,by decide+kernel,rfl,by decide+kernel,by decide+kernel⟩
section
variable {P:Program} {w:World} {K:PySem.W.Frag} {mg:Str->Option Value} {base:Heap} {f0 f1 f2 f3 f4 f5 f6 f7 f8 f9 JK JL JM JN JO JP JQ JR JS JT JU JV JW JX JY JZ J0 J1 J2 J3 J4 J5 J6 J9 J_ Ka Kb Jd Kc Kd cn dW:Addr} {d0 d1 d2 d3 d4 d5 d6 d7 d8 d9 Ke Kf Kg Kh Ki Kj Kk Kl Km Kn Ko Kp Kq Kr Ks Kt Ku Kv Kw Kx Ky Kz KA KD KG KH KI Je KJ KL:FuncData} [x4 base mg]
variable (T:Txt K mg f0 f1 f2 f3 f4 f5 f6 f7 f8 f9 JK JL JM JN JO JP JQ JR JS JT JU JV JW JX JY JZ J0 J1 J2 J3 J4 J5 J6 J9 J_ Ka Kb Jd Kc Kd cn dW d0 d1 d2 d3 d4 d5 d6 d7 d8 d9 Ke Kf Kg Kh Ki Kj Kk Kl Km Kn Ko Kp Kq Kr Ks Kt Ku Kv Kw Kx Ky Kz KA KD KG KH KI Je KJ KL)
include T
theorem cW:bp P w K mg base dB 1 JR Kl ["_law_letter_here"] (qx K):=by
 refine T.Fy.fn.ok lI (fun vs H Q E h=>wz h) (fun cE A outer s H vs Q E hr h=>?_)
 refine let Z3:TS:=_;let Z2:TS:=_;let Z1:TS:=_;let Z0:TS:=_;⟨_,(ae (aw (i:=1) lI.nd (gQ [97,98,99,100,101,102,103,104,105,106,107,108,109,110,111,112,113,114,115,116,117,118,119,120,121,122] (by decide+kernel)))
   (af Z0 (ae (aw (i:=2) lI.nd (gQ [65,66,67,68,69,70,71,72,73,74,75,76,77,78,79,80,81,82,83,84,85,86,87,88,89,90] (by decide+kernel)))
   (af Z1 (ae (cK (aM vX (pv 0) (pv 1) (by with_unfolding_all rfl)) (af Z2 (aj (aI (b8 mj (pv 2) (bK K rfl Xz Yt Ys dD (pv 1) (aa (pv 0))) (fun _ _=>rfl))))) bY)
   (af Z3 (aj (aI (b8 mj (pv 1) (bK K rfl Xz Yt Ys dD (pv 2) (aa (pv 0))) (fun _ _=>rfl)))))))))),?_⟩
 obtain ⟨c,rfl,hc,q⟩:=h
 refine ⟨_,rfl,_,rfl,c,aO,rfl,rfl,_,rfl,gO (fun e=>?_) (fun e=>?_)⟩
 ·have hm:c∈aO:=of_decide_eq_true e
  exact ⟨_,rfl,_,rfl,rfl,_,rfl,aO,c,rfl,rfl,hm,kU,_,ax c,rfl,rfl,by decide,uB c hm,q⟩
 ·have hm:c∈kU:=hc.resolve_left fun z=>e (decide_eq_true z)
  exact ⟨_,rfl,_,rfl,rfl,_,rfl,kU,c,rfl,rfl,hm,aO,_,ax c,rfl,rfl,by decide,zO c hm,q⟩
theorem jx:bp P w K mg base dB 2 JX Kr ["_law_ray_here","_law_k"] (oJ K):=by
 have bM:=cW (P:=P) (w:=w) (base:=base) T
 refine T.yM.fn.ok dI (fun vs H Q E h=>u5 h) (fun cE A outer s H vs Q E hr h=>?_)
 refine let Z5:TS:=_;let Z4:TS:=_;let Z3:TS:=_;let Z2:TS:=_;let Z1:TS:=_;let Z0:TS:=_;⟨_,(ae (jj (pv 0) (jL (n:=4) K rfl rfl (bJ (aG (i:=2) dI.nd rfl (Or.inl rfl)) (bJ (aG (i:=3) dI.nd rfl (Or.inl rfl)) (bJ (aG (i:=4) dI.nd rfl (Or.inl rfl)) (bJ (aG (i:=5) dI.nd rfl (Or.inl rfl)) iF))))))
   (af Z0 (ae (cK (aM A0 (pv 1) (aH aQ rfl T.z_len XR (aa (pv 2))) (aR _)) (af Z1 (aj (aI (b8 mj (pv 2) (pv 1) (fun _ _=>rfl))))) bY)
   (af Z2 (ae (aw (i:=1) dI.nd (aC c_ (pv 1) (aH aQ rfl T.z_len XR (aa (pv 2)))))
   (af Z3 (ae (cK (aM p7 (pv 5) ak (aR _)) (af Z4 (aj (aI (b8 mj (pv 3) (aC dA (aC bP (pv 4) (pv 1)) (aH aQ rfl T.z_len XR (aa (pv 3)))) (fun _ _=>rfl))))) bY)
   (af Z5 (aj (aI (ag bM T.Fy hr (aa (b8 mj (pv 3) (aC dA (aC c_ (aC c_ (pv 4) ak) (pv 1)) (aH aQ rfl T.z_len XR (aa (pv 3)))) (fun _ _=>rfl)))))))))))))),?_⟩
 obtain ⟨p,w',f,k,rfl,⟨i,d,hp,r⟩,⟨cR,hl,hz⟩,q⟩:=h
 have hs:(100000:Nat)<sizeLine:=by decide
 have uk:=Xs.mpr cR
 have BL: ∀x:Int,mC w' (x%(w'.length:Int))=some (rd w' x):=fun x=>by
  have h1:=Yh x (show (w'.length:Int)≠0 by omega)
  have h2:=Yc x (show (0:Int)<w'.length by omega)
  rw[MJ (by omega) h2]
  unfold rd
  rw[Int.emod_emod]
 refine ⟨_,rfl,p,_,rfl,me.of hp,rfl,_,_,rfl,_,_,rfl,_,_,rfl,_,_,rfl,rfl,?_⟩
 refine ⟨_,rfl,_,rfl,_,rfl,XI _,_,_,rfl,rfl,_,rfl,dE ?_ ?_⟩
 ·exact decide_eq_false (by show ¬((k:Int)<0);omega)
 refine ⟨_,rfl,_,rfl,_,rfl,XI _,_,_,rfl,rfl,?_⟩
 rcases r with ⟨rfl,rfl⟩ | ⟨rfl,rfl⟩
 ·refine ⟨_,rfl,_,_,rfl,rfl,_,rfl,iZ (by decide) ?_⟩
  refine ⟨_,rfl,_,rfl,_,rfl,_,_,rfl,rfl,_,rfl,w',rfl,by omega,_,_,rfl,rfl,by omega,?_⟩
  refine ⟨w',_,_,rfl,rfl,by omega,BL _,?_⟩
  have e:i+((k:Int) - (([]:List Nat).length:Int))=i+k:=by show i+((k:Int) - 0)=_;omega
  rw[e]
  exact q
 ·refine ⟨_,rfl,_,_,rfl,rfl,_,rfl,dE (by decide) ?_⟩
  refine ⟨_,rfl,_,rfl,_,_,rfl,rfl,_,rfl,_,_,rfl,rfl,_,rfl,w',rfl,by omega,_,_,rfl,rfl,by omega,?_⟩
  refine ⟨w',_,_,rfl,rfl,by omega,BL _,_,rfl,hl _ (og cR _),?_⟩
  have e:i - 1 - ((k:Int) - (([]:List Nat).length:Int))=i - 1 - k:=by show i - 1 - ((k:Int) - 0)=_;omega
  rw[e]
  exact q
theorem pX:bp P w K mg base dB 2 JU Ko ["_law_word"] (jg K):=by
 have bM:=cW (P:=P) (w:=w) (base:=base) T
 refine T.SU.fn.ok cP (fun vs H Q E h=>oN h) (fun cE A outer s H vs Q E hr h=>?_)
 refine let Z4:TS:=_;let Z3:TS:=_;let Z2:TS:=_;let Z1:TS:=_;let Z0:TS:=_;⟨_,(ae (aw (i:=1) cP.nd (gQ [] (by decide+kernel)))
   (af Z0 (ae (dz PassesOwn.never rfl (g9 (pv 0)) (aG (i:=2) cP.nd rfl (Or.inl rfl)) (af Z1 (aj (cK (PW.pt (q8 (aM rF (pv 1) (gQ [] (by decide+kernel)) (aR _)) (mB (aM gp (b8 mj (pv 1) (mT jk ak) (fun _ _=>rfl)) (ag bM T.Fy hr (aa (pv 2))) (aR _))))) (af Z2 (aj (aw (i:=1) cP.nd (br jJ (pv 1) b_ (bz (mT jk ak)))))) (af Z3 (aj (aw (i:=1) cP.nd (aC fv (pv 1) (pv 2)))))))))
   (af Z4 (aj (aI (pv 1))))))),?_⟩
 obtain ⟨l,rfl,hl,hz,q⟩:=h
 have hs:(100000:Nat)<sizeLine:=by decide
 refine ⟨_,rfl,l,rfl,?_⟩
 refine let iD:Nat->L2.St->Hp->Prop:=(fun i σ H'=> ∃lv,σ=[some (.str (S l)),some (.str (S (red (l.take i)))),lv]/\H'=H);mD (xs:=bw l) iD ⟨none,rfl,rfl⟩ ?_ ?_
 ·rintro i x σ H1 hx ⟨lv,rfl,rfl⟩
  obtain ⟨c,hc,rfl⟩:=dN hx
  have lc:=hl c (Xo hc)
  have Cy:(red (l.take i)).length<=10000:=XG (fz _) (by rw[Rt];omega)
  have e:=uH hc
  unfold bT at e
  refine ⟨_,rfl,_,_,rfl,rfl,?_⟩
  rcases snoc_cases (red (l.take i)) with e0 | ⟨m,a,e0⟩
  ·rw[e0]at e Cy ⊢
   refine ⟨_,rfl,dE rfl (Eh ?_)⟩
   refine ⟨_,rfl,_,rfl,_,_,rfl,rfl,by show 0+1<=sizeLine;decide,some (.str (S [c])),?_,rfl⟩
   rw[e,if_neg (by simp)]
   rfl
  ·rw[e0]at e Cy ⊢
   have JA:m.length<=10000:=by simp at Cy;omega
   refine ⟨_,rfl,iZ (by simp) ?_⟩
   refine ⟨_,rfl,_,rfl,_,_,_,rfl,rfl,by rw[Jy];show m.length+1<=sizeLine;omega,mX _ _,_,rfl,c,rfl,lc,[a],[ax c],rfl,rfl,_,rfl,gO (fun z=>?_) (fun z=>?_)⟩
   ·have ea:a=ax c:=by simpa using of_decide_eq_true z
    refine ⟨_,rfl,_,rfl,_,rfl,_,rfl,by rw[Jy];show m.length+1<=sizeLine;omega,some (.str (S [c])),?_,rfl⟩
    rw[e,if_pos (by simp[ea]),XU,Cr]
    rfl
   ·have ea:a≠ax c:=fun w=>z (decide_eq_true (by rw[w]))
    refine ⟨_,rfl,_,rfl,_,_,rfl,rfl,by rw[Jy];show m.length+1+1<=sizeLine;omega,some (.str (S [c])),?_,rfl⟩
    rw[e,if_neg (by simpa using ea)]
    rfl
 ·rintro σ H1 ⟨lv,rfl,rfl⟩
  rw[ff]
  exact ⟨_,rfl,q _ (ay.refl _)⟩
theorem gH:bp P w K mg base dB 3 JV Kp ["_law_word"] (kf K):=by
 have s_:=pX (P:=P) (w:=w) (base:=base) T
 have bM:=cW (P:=P) (w:=w) (base:=base) T
 refine T.N2.fn.ok gG (fun vs H Q E h=>pU h) (fun cE A outer s H vs Q E hr h=>?_)
 refine let Z2:TS:=_;let Z1:TS:=_;let Z0:TS:=_;⟨_,(ae (aw (i:=1) gG.nd (ag s_ T.SU hr (aa (pv 0))))
   (af Z0 (ae (cJ PassesOwn.never (PW.pt (q8 (aM p7 (aH aQ rfl T.z_len XR (aa (pv 1))) ak (aR _)) (mB (aM gp (b8 mj (pv 1) ak (fun _ _=>rfl)) (ag bM T.Fy hr (aa (b8 mj (pv 1) (mT jk ak) (fun _ _=>rfl)))) (aR _))))) (af Z1 (aj (aw (i:=1) gG.nd (br jJ (pv 1) (bz ak) (bz (mT jk ak)))))))
   (af Z2 (aj (aI (pv 1))))))),?_⟩
 obtain ⟨l,rfl,hl,hz,q⟩:=h
 have hs:(100000:Nat)<sizeLine:=by decide
 refine ⟨_,rfl,l,rfl,hl,by omega,fun H1 s1=>?_⟩
 have QC:=fz l
 have cj:=nO hl
 generalize red l=r at QC cj q ⊢
 refine ⟨fun m σ H'=> ∃c:List Nat,σ=[some (.str (S l)),some (.str (S c))]/\m=c.length/\c.length<=r.length/\(∀x∈c,Lt x)/\core c=core r/\H'=H1,⟨_,r,rfl,rfl,Rv _,cj,rfl,rfl⟩,?_⟩
 rintro m σ H2 ⟨c,rfl,rfl,GI,AG,QD,rfl⟩
 refine ⟨_,rfl,_,rfl,by omega,_,_,rfl,rfl,?_⟩
 by_cases z:1<c.length
 ·obtain ⟨a,m,b,rfl⟩: ∃a m b,c=a::(m++[b]):=by
   rcases c with _ | ⟨a,c⟩
   ·exact absurd z (by decide)
   ·rcases snoc_cases c with e | ⟨m,b,e⟩
    ·rw[e]at z;exact absurd z (by show ¬1<1;decide)
    ·exact ⟨a,m,b,by rw[e]⟩
  have hlen:(a::(m++[b])).length=m.length+2:=by simp
  have LP:(a::(m++[b])).length<=sizeLine:=by omega
  have lb:Lt b:=AG b (by simp)
  refine ⟨_,rfl,iZ (decide_eq_true (by show (1:Int)<_;omega)) ?_⟩
  refine ⟨_,rfl,_,_,_,rfl,rfl,LP,(dM rfl:mC (a::(m++[b])) ((0:Nat):Int)=some a),?_⟩
  refine ⟨_,rfl,_,rfl,_,_,_,rfl,rfl,LP,mX (a::m) b,b,rfl,lb,_,_,rfl,rfl,_,rfl,gO (fun y=>?_) (fun y=>?_)⟩
  ·have ea:a=ax b:=by simpa using of_decide_eq_true y
   refine ⟨_,rfl,_,rfl,_,rfl,_,rfl,_,rfl,LP,?_⟩
   rw[Cs]
   exact ⟨m.length,by omega,m,rfl,rfl,by omega,fun x hx=>AG x (by simp[hx]),by rw[<-QD,jS ea],rfl⟩
  ·have ea:a≠ax b:=fun w=>y (decide_eq_true (by rw[w]))
   refine ⟨_,rfl,?_⟩
   have:=q H2 s1
   rw[<-QD,dF ea]at this
   exact this
 ·refine ⟨_,rfl,dE (decide_eq_false (by show ¬(1:Int)<_;omega)) (Eh ?_)⟩
  refine ⟨_,rfl,?_⟩
  have:=q H2 s1
  rw[<-QD,dG (by omega)]at this
  exact this
theorem Dv:bp P w K mg base dB 4 J5 Kz ["_law_word"] (uI K):=by
 have eE:=gH (P:=P) (w:=w) (base:=base) T
 refine T.Qz.fn.ok vh (fun vs H Q E h=>zW h) (fun cE A outer s H vs Q E hr h=>?_)
 refine let Z0:TS:=_;⟨_,(ae (aw (i:=1) vh.nd (ag eE T.N2 hr (aa (pv 0))))
   (af Z0 (aj (aI (aH (v9 K rfl rfl) rfl T.z_min boot_min (aa (dc ["_law_k","_law_left"] [none,some 1] (fN rfl T.z_range (aa (aH (y7 rfl) rfl T.z_max boot_max (ai ak (aa (aH aQ rfl T.z_len XR (aa (pv 1)))))))) ⟨⟨rfl,rfl,by first | exact .inl rfl | exact .inr rfl⟩,trivial⟩ (fun _ _ _ _=>(aG (i:=0) (by decide+kernel:List.Nodup (["_law_k","_law_left"]:List Str)) rfl (Or.inl rfl))) (fun _ _ _ _=>fJ) (fun _ _ _ _=>(aC fv (br jJ (pv 1) (bz (pv 0)) b_) (br jJ (pv 1) b_ (bz (pv 0)))))))))))),?_⟩
 obtain ⟨l,rfl,hl,hz,q⟩:=h
 have hs:(100000:Nat)<sizeLine:=by decide
 refine ⟨_,rfl,l,rfl,hl,hz,fun H1 s1=>?_⟩
 have GI:(core (red l)).length<=1000:=XG (nR _) (XG (fz l) hz)
 unfold aE bX at q
 generalize core (red l)=c at GI q ⊢
 have N4:c.length<=sizeLine:=by omega
 refine ⟨_,rfl,c,rfl,N4,_,_,rfl,?_⟩
 have VJ:(if (c.length:Int)>1 then (c.length:Int) else 1)=((max 1 c.length:Nat):Int):=by split<;>omega
 refine ⟨_,rfl,?_⟩
 rw[VJ,XN]
 refine ⟨by omega,by omega,?_⟩
 refine let iD:Nat->List V->Hp->Prop:=(fun i acc H'=>H'=H1/\acc=b0 ((List.range i).map (bE c)));uc iD (by omega) ⟨rfl,rfl⟩ ?_ ?_
 ·rintro i acc H2 Nx hi iE ⟨rfl,rfl⟩ nx
  have hlen:(cut c (some ((i:Nat):Int)) none).length+(cut c none (some ((i:Nat):Int))).length<=sizeLine:=by rw[de,cO,Xi,Rt];omega
  have xm:cut c (some ((i:Nat):Int)) none++cut c none (some ((i:Nat):Int))=bE c i:=by rw[de,cO];rfl
  refine ⟨⟨rfl,trivial⟩,eP ?_⟩
  refine ⟨_,rfl,_,rfl,_,rfl,c,rfl,N4,_,rfl,_,rfl,_,rfl,c,rfl,N4,_,_,rfl,rfl,?_⟩
  rw[YV]
  refine ⟨hlen,?_⟩
  rw[xm]
  refine nx _ _ (by simpa using iE) ⟨rfl,?_⟩
  rw[fg,Zf,XJ]
  rfl
 ·rintro acc H2 D iE ⟨rfl,rfl⟩ hD
  rw[Ct (by omega)]at*
  have e:max 1 c.length - 1=c.length - 1:=by omega
  rw[e]
  exact ⟨D,c,_,rfl,a_.of ah,q _ (s1.trans (ay.upd hD))⟩
theorem vk:bp P w K mg base dB 1 f9 d9 ["yard","end"] (lU K):=by
 refine T.F9.fn.ok vg (fun vs H Q E h=>sD h) (fun cE A outer s H vs Q E hr h=>?_)
 refine ⟨_,(aj (aI (b8 mj (pv 0) (aC dA (aC bP (bK K rfl Xz Yt Ys dD (pv 0) (aa (pv 1))) ak) (aH aQ rfl T.z_len XR (aa (pv 0)))) (fun _ _=>rfl)))),?_⟩
 obtain ⟨y,e,rfl,he,hz,q⟩:=h
 have hs:(1000:Nat)<sizeLine:=by decide
 have hp:(0:Int)<(y.length:Int):=by have:=Zn he;omega
 obtain ⟨hk,e2⟩:=fL he
 have BL:mC y ((((y.idxOf e:Nat):Int)+1)%(y.length:Int))=some (dt y e):=by
  have:((((y.idxOf e:Nat):Int)+1)%(y.length:Int))=(((y.idxOf e+1)%y.length:Nat):Int):=by push_cast;rfl
  rw[this,e2]
  exact dM (Hz hk)
 exact ⟨_,rfl,_,rfl,rfl,_,rfl,y,e,rfl,rfl,he,_,_,rfl,rfl,_,rfl,y,rfl,by omega,_,_,rfl,rfl,hp,y,_,_,rfl,rfl,by omega,BL,q⟩
theorem eF:bp P w K mg base dB 1 f0 d0 ["letter"] (lO K):=by
 refine T.F0.fn.ok vf (fun vs H Q E h=>rW h) (fun cE A outer s H vs Q E hr h=>?_)
 refine let Z1:TS:=_;let Z0:TS:=_;⟨_,(ae (cK (ji (gq K rfl Xz PySem.F.slot_str_islower PySem.F.type_str_islower m8 (pv 0))) (af Z0 (aj (aI (gq K rfl Xz PySem.F.slot_str_upper PySem.F.type_str_upper Bi (pv 0))))) bY)
   (af Z1 (aj (aI (gq K rfl Xz PySem.F.slot_str_lower PySem.F.type_str_lower ua (pv 0)))))),?_⟩
 obtain ⟨c,rfl,hc,q⟩:=h
 refine ⟨_,rfl,rfl,c,rfl,rfl,hc,_,rfl,gO (fun e=>?_) (fun e=>?_)⟩
 ·refine ⟨_,rfl,rfl,c,rfl,rfl,hc,?_⟩
  have z:ax c=PyProof.Rows.up1 c:=if_pos e
  rw[<-z]
  exact q
 ·refine ⟨_,rfl,rfl,c,rfl,rfl,hc,?_⟩
  have z:ax c=PyProof.Rows.lo1 c:=if_neg e
  rw[<-z]
  exact q
theorem pY:bp P w K mg base dB 2 JK Ke ["yard","start"] (je K):=by
 have xn:=vk (P:=P) (w:=w) (base:=base) T
 have cf:=eF (P:=P) (w:=w) (base:=base) T
 refine T.SK.fn.ok cq (fun vs H Q E h=>oD h) (fun cE A outer s H vs Q E hr h=>?_)
 refine let Z5:TS:=_;let Z4:TS:=_;let Z3:TS:=_;let Z2:TS:=_;let Z1:TS:=_;let Z0:TS:=_;⟨_,(ae (aw (i:=2) cq.nd (gQ [] (by decide+kernel)))
   (af Z0 (ae (aw (i:=3) cq.nd (pv 1))
   (af Z1 (ae (cJ PassesOwn.never (PW.pt (p6 (aM gp (pv 2) (gQ [] (by decide+kernel)) (aR _)) (kC (aM rF (pv 3) (pv 1) (aR _))))) (af Z2 (ae (aw (i:=4) cq.nd (ag xn T.F9 hr (ai (pv 0) (aa (pv 3)))))
   (af Z3 (ae (vI (i:=2) cq.nd rfl (Or.inl rfl) (pv 4) Et)
   (af Z4 (aj (aw (i:=3) cq.nd (ag cf T.F0 hr (aa (pv 4)))))))))))
   (af Z5 (aj (aI (pv 2))))))))),?_⟩
 obtain ⟨y,e,rfl,hy,he,hz,q⟩:=h
 have hs:(1000:Nat)<sizeLine:=by decide
 walk_at "wk"
 refine ⟨fun m σ H'=>H'=H/\ ∃(w:List Nat) (pl:Nat) (pv:Option V),σ=[some (.str (S y)),some (.str (S [e])),some (.str (S w)),some (.str (S [pl])),pv]/\m=y.length - w.length/\mv y e w pl,⟨_,rfl,[],e,none,rfl,rfl,mv.start he⟩,?_⟩
 rintro m σ H1 ⟨rfl,w,pl,pv,rfl,rfl,r⟩
 refine ⟨_,rfl,w,[],rfl,rfl,_,rfl,gO (fun z=>?_) (fun z=>?_)⟩
 ·have QE:w=[]:=of_decide_eq_true z
  refine Lz ?_
  have rt:=r.turn hy he (.inl QE)
  have cj:=rt.way.len
  rw[Jy]at cj
  have VL:w.length+1<=y.length:=cj
  have h8:dt y pl<128:=(hy.lt _ (fE r.JF)).lt
  have GS:w.length+[dt y pl].length<=sizeLine:=by show w.length+1<=_;omega
  refine ⟨_,rfl,_,rfl,y,pl,rfl,r.JF,by omega,?_⟩
  walk_at "wk"
  refine ⟨y.length - (w++[dt y pl]).length,by rw[Jy];show y.length - (w.length+1)<_;omega,rfl,_,_,_,rfl,rfl,rt⟩
 ·have QE:w≠[]:=fun q=>z (decide_eq_true q)
  refine ⟨_,rfl,_,rfl,[pl],[e],rfl,rfl,_,rfl,gO (fun z2=>?_) (fun z2=>?_)⟩
  ·have EH:pl≠e:=fun q=>by rw[q]at z2;simp at z2
   have rt:=r.turn hy he (.inr EH)
   have cj:=rt.way.len
   rw[Jy]at cj
   have VL:w.length+1<=y.length:=cj
   have h8:dt y pl<128:=(hy.lt _ (fE r.JF)).lt
   have GS:w.length+[dt y pl].length<=sizeLine:=by show w.length+1<=_;omega
   refine ⟨_,rfl,_,rfl,y,pl,rfl,r.JF,by omega,?_⟩
   walk_at "wk"
   refine ⟨y.length - (w++[dt y pl]).length,by rw[Jy];show y.length - (w.length+1)<_;omega,rfl,_,_,_,rfl,rfl,rt⟩
  ·have EH:pl=e:=by simpa using z2
   subst EH
   obtain ⟨o1,o2⟩:=r.stop hy QE
   exact ⟨_,rfl,q w o1 r.way.bh o2⟩
theorem vm:bp P w K mg base dB 2 Ka KH ["_law_yard_here"] (vc K):=by
 have bM:=cW (P:=P) (w:=w) (base:=base) T
 refine T.QB.fn.ok eB (fun vs H Q E h=>Ah h) (fun cE A outer s H vs Q E hr h=>?_)
 refine let M3:TS:=_;let Z9:TS:=_;let Z8:TS:=_;let Z7:TS:=_;let Z6:TS:=_;let Z5:TS:=_;let Z4:TS:=_;let Z3:TS:=_;let Z2:TS:=_;let Z1:TS:=_;let Z0:TS:=_;⟨_,(ae (aw (i:=1) eB.nd (uq rfl rfl T.z_list rfl T.z_range (aa (aH aQ rfl T.z_len XR (aa (pv 0))))))
   (af Z0 (ae (aw (i:=2) eB.nd (fI eZ))
   (af Z1 (ae (cJ PassesOwn.never (aM (Bx K rfl hr) (pv 1) (fI eZ) (aR _)) (af Z2 (ae (aw (i:=3) eB.nd (b8 (bS K rfl) (pv 1) ak (fun _ _=>rfl)))
   (af Z3 (ae (aw (i:=4) eB.nd (gQ [] (by decide+kernel)))
   (af Z4 (ae (cJ PassesOwn.never (aM (rH K rfl) (pv 3) (pv 1) (by with_unfolding_all rfl)) (af Z5 (ae (eM (bK K rfl XW PySem.F.slot_list_remove PySem.F.type_list_remove (EC K rfl hr) (pv 1) (aa (pv 3))))
   (af Z6 (ae (aw (i:=5) eB.nd (b8 mj (pv 0) (aC dA (aC bP (pv 3) ak) (aH aQ rfl T.z_len XR (aa (pv 0)))) (fun _ _=>rfl)))
   (af Z7 (ae (aw (i:=4) eB.nd (aC fv (pv 4) (pv 5)))
   (af Z8 (aj (aw (i:=3) eB.nd (bK K rfl Xz Yt Ys dD (pv 0) (aa (ag bM T.Fy hr (aa (pv 5)))))))))))))))
   (af Z9 (aj (eM (bK K rfl XW YC YB eS (pv 2) (aa (pv 4)))))))))))))
   (af M3 (aj (aI (pv 2))))))))),?_⟩
 obtain ⟨y,rfl,hy,h2,hz,q⟩:=h
 have hs:(1000:Nat)<sizeLine:=by decide
 refine ⟨_,rfl,y,rfl,by lia,_,rfl,by lia,by lia,fun pl S7=>?_⟩
 rw[XN,show (List.range y.length).map (fun (k:Nat)=>V.int (0+(k:Int)))=vE (List.range y.length) from by unfold vE;exact Zv fun k _=>by rw[YV]]
 refine ⟨XI _,fun pf Dw=>?_⟩
 have Mn:pl≠pf:=fun z=>by rw[<-z,ah]at Dw;cases Dw
 have QF:H pf=none:=ay.free (ay.upd S7) Dw
 have s0:ay H (upd (upd H pl (.lst (vE (List.range y.length)))) pf (.lst [])):=(ay.upd S7).trans (ay.upd Dw)
 have iV: ∀{H1:Hp} {xs:List V} {a:Addr},(a=pl\/a=pf)->ay H H1->ay H (upd H1 a (.lst xs)):=fun {H1 xs a} ha s c o e=>by
  rw[ao (fun z=>by rcases ha with g | g<;>rw[z,g]at e<;>simp_all)]
  exact s c o e
 refine ⟨fun m σ H'=> ∃(l:List Nat) (L:List (List Nat)) (v3 v4 v5:Option V),σ=[some (.str (S y)),some (.ref pl),some (.ref pf),v3,v4,v5]/\m=l.length/\pW y l L/\H' pl=some (.lst (vE l))/\H' pf=some (.lst (b0 L))/\ay H H',⟨_,List.range y.length,[],none,none,none,rfl,rfl,pW.start y,by rw[ao Mn,ah],ah,s0⟩,?_⟩
 rintro m σ H2 ⟨l,L,v3,v4,v5,rfl,rfl,hP,vA,VM,s2⟩
 have h_:=hP.h_
 refine ⟨_,rfl,XI _,fun p0 n0=>?_⟩
 have s3:=s2.trans (ay.upd (o:= .lst []) n0)
 have FE:=(ay.upd (o:= .lst []) n0) _ _ vA
 have Jf:=(ay.upd (o:= .lst []) n0) _ _ VM
 have S8:upd H2 p0 (.lst []) p0=some (.lst []):=ah
 generalize upd H2 p0 (.lst [])=H3 at s3 FE Jf S8 ⊢
 refine ⟨.list (ids l), .list [], .lst (a_.of FE) (kY _), .lst (a_.of S8) .nil,⟨sN l,rfl⟩,?_,?_⟩
 ·show PyData.depthAll (ids l)+1<=60
  rw[nS]
  decide
 cases l with
 | nil=>
  refine ⟨_,rfl,dE rfl ?_⟩
  exact ⟨_,rfl,q pf L H3 (hP.done hy) (by simp at h_;lia) QF Jf s3⟩
 | cons i l=>
  refine ⟨_,rfl,iZ rfl ?_⟩
  show AS _ _ _ _ _
  refine Ck fun Dx M4=>?_
  have QG:i∈i::l:=NB
  refine ⟨_,rfl,pl,_,_,_,rfl,rfl,a_.of FE,(dM rfl:mC (vE (i::l)) ((0:Nat):Int)=some (.int i)),?_⟩
  refine ⟨fun m σ H'=> ∃(ft:Nat) (g w:List Nat) (v5:Option V),σ=[some (.str (S y)),some (.ref pl),some (.ref pf),some (.int ft),some (.str (S w)),v5]/\m=g.length/\Fx y (i::l) L i g w ft/\H' pl=some (.lst (vE g))/\H' pf=some (.lst (b0 L))/\ay H H',⟨_,i,i::l,[],_,rfl,rfl,Fx.start hP QG,FE,Jf,s3⟩,?_⟩
  rintro m σ H4 ⟨ft,g,w,v5,rfl,rfl,hR,FF,Jg,s4⟩
  have BL:=hR.lt
  have hsz:=hR.sz
  rw[Xn]at hsz h_
  refine ⟨_,rfl,_,rfl,pl,_,rfl, .inl (a_.of FF),rfl,Dm g,_,rfl,?_⟩
  by_cases z:ft∈g
  ·refine iZ (by rw[sM,decide_eq_true z];rfl) ?_
   show AS _ _ _ _ _
   refine Ck fun Dy VN=>?_
   have hp:(0:Int)<(y.length:Int):=by lia
   have hk:(ft+1)%y.length<y.length:=Zx _ (by lia)
   have M5:mC y (((ft:Int)+1)%(y.length:Int))=some (dt y (y.getD ft 0)):=by
    have:(((ft:Int)+1)%(y.length:Int))=(((ft+1)%y.length:Nat):Int):=by push_cast;rfl
    rw[this,dM (Hz hk)]
    obtain ⟨vC,e2⟩:=fL (dS BL)
    rw[e2]
    congr 2
    rw[oR BL,hy.nd.idxOf_getElem]
   have Fq:dt y (y.getD ft 0)∈y:=fE (dS BL)
   have hT:=hR.turn hy hP QG z
   generalize dt y (y.getD ft 0)=c at M5 Fq hT
   have vB:g.idxOf ft<g.length:=List.idxOf_lt_length_iff.mpr z
   have VO:g[g.idxOf ft]? =some ft:=by rw[Hz vB];exact congrArg some (XT vB)
   refine ⟨_,rfl, .inl ⟨rfl,_,a_.of FF⟩,_,rfl,pl,_,_,ids g, .int ft,g.idxOf ft,rfl,rfl,FF,kY g, .int _,⟨sN g,rfl⟩,by show 0<=60;decide,⟨.int ft,by unfold ids;rw[XC,VO];rfl,by rw[u9,decide_eq_true rfl]⟩,fun m e hm he=>?_,?_⟩
   ·obtain ⟨d,hd,rfl⟩:=Ja he
    rw[u9]
    refine decide_eq_false fun q2=>?_
    have JA:=(Ru.mp hd)
    obtain ⟨JA,VP⟩:=JA
    have:=List.not_of_lt_findIdx (p:=fun x=>x==ft) (xs:=g) (i:=m) hm
    rw[VP,q2]at this
    simp at this
   rw[qV]
   have AI:(g.eraseIdx (g.idxOf ft)).length+1=g.length:=by rw[List.length_eraseIdx_of_lt vB];lia
   have VQ:g.erase ft=g.eraseIdx (g.idxOf ft):=List.erase_eq_eraseIdx_of_idxOf rfl
   rw[VQ]at hT
   generalize g.eraseIdx (g.idxOf ft)=g2 at AI hT ⊢
   refine ⟨_,rfl,_,rfl,_,_,rfl,rfl,_,rfl,y,rfl,by lia,_,_,rfl,rfl,hp,y,_,_,rfl,rfl,by lia,M5,?_⟩
   refine ⟨_,rfl,_,rfl,_,_,rfl,rfl,by show w.length+1<=sizeLine;lia,?_⟩
   refine ⟨_,rfl,rfl,_,rfl,c,rfl,hy.lt c Fq,y,ax c,rfl,rfl,hy.cl c Fq,?_⟩
   refine VN _ _ ⟨g2.length,by lia,_,g2,w++[c],_,rfl,rfl,hT,ah,by rw[ao (Ne.symm Mn)];exact Jg,iV (.inl rfl) s4⟩
  ·refine dE (by rw[sM,decide_eq_false z];rfl) ?_
   obtain ⟨QH,cj⟩:=hR.stop hy hP QG z
   rw[Xn]at cj
   refine ⟨_,rfl, .inl ⟨rfl,_,a_.of Jg⟩,_,rfl,pf,_,_,rfl,rfl,Jg,by rw[bO];lia,?_⟩
   exact M4 _ _ ⟨g.length,cj,g,L++[w],_,_,_,rfl,rfl,QH,by rw[ao Mn];exact FF,by rw[ah,fg],iV (.inr rfl) s4⟩
theorem tm:bp P w K mg base dB 2 f4 d4 ["word"] (jU K):=by
 have cf:=eF (P:=P) (w:=w) (base:=base) T
 refine T.F4.fn.ok gF (fun vs H Q E h=>pQ h) (fun cE A outer s H vs Q E hr h=>?_)
 refine let Z4:TS:=_;let Z3:TS:=_;let Z2:TS:=_;let Z1:TS:=_;let Z0:TS:=_;⟨_,(ae (aw (i:=1) gF.nd (fI eZ))
   (af Z0 (ae (dz PassesOwn.never rfl (g9 (pv 0)) (aG (i:=2) gF.nd rfl (Or.inl rfl)) (af Z1 (aj (cK (PW.pt (q8 (Es K rfl (pv 1)) (mB (aM gp (b8 (bS K rfl) (pv 1) (mT jk ak) (fun _ _=>rfl)) (ag cf T.F0 hr (aa (pv 2))) (aR _))))) (af Z2 (aj (eM (gq K rfl XW ZX ZW Hv (pv 1))))) (af Z3 (aj (eM (bK K rfl XW YC YB eS (pv 1) (aa (pv 2))))))))))
   (af Z4 (aj (aI (bK K rfl Xz YK YJ (fQ K rfl) (gQ [] (by decide+kernel)) (aa (pv 1))))))))),?_⟩
 obtain ⟨l,rfl,hl,hz,q⟩:=h
 have hs:(100000:Nat)<sizeLine:=by decide
 walk_at "rd"
 intro p1 n1
 refine ⟨_,rfl,l,rfl,?_⟩
 refine let iD:Nat->L2.St->Hp->Prop:=(fun i σ H'=> ∃lv,σ=[some (.str (S l)),some (.ref p1),lv]/\H' p1=some (.lst (bw (red (l.take i))))/\b9 p1 H H');mD (xs:=bw l) iD ⟨none,rfl,ah,b9.of (ay.upd n1)⟩ ?_ ?_
 ·rintro i x σ H1 hx ⟨lv,rfl,hp,s1⟩
  obtain ⟨c,hc,rfl⟩:=dN hx
  have hi:i<l.length:=(Ru.mp hc).1
  have h8:c<128:=(hl c (Xo hc)).lt
  have Cy:(red (l.take i)).length<=1000:=XG (fz _) (by rw[Rt];lia)
  have fin: ∀st,st=bT (red (l.take i)) c-> ∃lv,[some (V.str (S l)),some (V.ref p1),some (V.str (S [c]))]=[some (V.str (S l)),some (.ref p1),lv]/\(upd H1 p1 (.lst (bw st))) p1=some (.lst (bw (red (l.take (i+1)))))/\b9 p1 H (upd H1 p1 (.lst (bw st))):=fun st e=>
   ⟨_,rfl,by rw[ah,uH hc,e],fun b o e z=>by rw[ao z];exact s1 b o e z⟩
  refine ⟨_,rfl,p1,_,rfl,a_.of hp,?_⟩
  rcases snoc_cases (red (l.take i)) with e | ⟨m,a,e⟩
  ·rw[e]at hp ⊢
   refine dE rfl ?_
   refine Eh ?_
   refine ⟨_,rfl, .inl ⟨rfl,_,a_.of hp⟩,_,rfl,p1,_,_,rfl,rfl,hp,by rw[aN];exact (by decide:(0:Nat)<sizeLine),?_⟩
   rw[cI]
   refine fin _ ?_
   rw[e]
   unfold bT
   rw[if_neg (by simp)]
  ·rw[e]at hp Cy ⊢
   have JA:m.length<=1000:=by simp at Cy;lia
   rw[<-cI]at hp ⊢
   refine iZ (by simp) ?_
   refine ⟨_,rfl,_,rfl,p1,_,_,_,rfl,rfl,a_.of hp,mX _ _,_,rfl,c,rfl,h8,[a],[ax c],rfl,rfl,_,rfl,gO (fun z=>?_) (fun z=>?_)⟩
   ·have ea:a=ax c:=by simpa using of_decide_eq_true z
    refine ⟨_,rfl, .inl ⟨rfl,_,a_.of hp⟩,p1,_,V.str (S [a]),rfl,rfl,hp,by simp,?_⟩
    rw[XU]
    refine fin _ ?_
    rw[e]
    unfold bT
    rw[if_pos (by simp[ea]),XU]
   ·have ea:a≠ax c:=fun w=>z (decide_eq_true (by rw[w]))
    refine ⟨_,rfl, .inl ⟨rfl,_,a_.of hp⟩,_,rfl,p1,_,_,rfl,rfl,hp,by rw[Jy,aN];show m.length+1<sizeLine;lia,?_⟩
    rw[cI,cI]
    refine fin _ ?_
    rw[e]
    unfold bT
    rw[if_neg (by simpa using ea)]
 ·rintro σ H1 ⟨lv,rfl,hp,s1⟩
  rw[ff]at hp
  refine ⟨rfl,_,rfl,p1,(red l).map fun c=>[c],rfl,rfl,a_.of (by rw[<-cU];exact hp),?_,?_⟩
  ·rw[wB]
   have:=fz l
   lia
  ·rw[nL]
   exact q _ (fun b o e=>s1 b o e (aA e n1))
theorem o8:bp P w K mg base dB 1 f2 d2 ["yard"] (uP K):=by
 refine T.F2.fn.ok Dt (fun vs H Q E h=>z9 h) (fun cE A outer s H vs Q E hr h=>?_)
 refine ⟨_,(aj (aI (bK K rfl Xz YK YJ (fQ K rfl) (gQ [] (by decide+kernel)) (aa (aH (gs K rfl) rfl T.z_sorted boot_sorted (aa (dc ["letter"] [none] (g9 (pv 0)) trivial (fun _ _ _ _=>(aG (i:=0) (by decide+kernel:List.Nodup (["letter"]:List Str)) rfl (Or.inl rfl))) (fun _ _ _ _=>(rA (ji (gq K rfl Xz PySem.F.slot_str_islower PySem.F.type_str_islower m8 (pv 0))))) (fun _ _ _ _=>(pv 0))))))))),?_⟩
 obtain ⟨l,rfl,hl,hz,q⟩:=h
 have hs:(1000:Nat)<sizeLine:=by decide
 refine ⟨rfl,_,rfl,l,rfl,?_⟩
 refine let iD:Nat->List V->Hp->Prop:=(fun i acc H'=>ay H H'/\acc=bw ((l.take i).filter bW));fP (xs:=bw l) iD (by rw[aN];lia) ⟨ay.refl H,rfl⟩ ?_ ?_
 ·rintro i x acc H1 Nx hi hx iE ⟨s1,rfl⟩ nx
  obtain ⟨c,hc,rfl⟩:=dN hx
  have e:=fB (p:=bW) hc
  refine ⟨trivial,?_⟩
  refine ⟨_,rfl,rfl,c,rfl,rfl,hl c (Xo hc),_,rfl,?_⟩
  refine gO (fun z=>?_) (fun z=>?_)
  ·rw[if_pos z]at e
   exact ⟨_,rfl,nx _ _ (by simpa using iE) ⟨s1,by rw[e, <-cI]⟩⟩
  ·rw[if_neg z,XA]at e
   exact nx _ _ (YR iE) ⟨s1,by rw[e]⟩
 ·rintro acc H1 D iE ⟨s1,rfl⟩ hD
  rw[ff,cU]
  have QI:(l.filter bW).length<=l.length:=Y2 _ _
  refine ⟨D,(l.filter bW).map fun c=>[c],rfl,a_.of ah,by rw[WH];lia,fun p ls hp wq FG=>?_⟩
  obtain ⟨l',rfl,pl⟩:=xM wq
  have G2:=pl.length_eq
  refine ⟨p,l'.map fun c=>[c],rfl,rfl,a_.of ah,by rw[wB];lia,?_⟩
  rw[nL]
  exact q l' _ pl (xN FG) ((s1.trans (ay.upd hD)).trans (ay.upd hp))
theorem FH:bp P w K mg base dB 1 JP Kj ["_law_script","_law_k"] (x5 K):=by
 refine T.SO.fn.ok km (fun vs H Q E h=>Cg h) (fun cE A outer s H vs Q E hr h=>?_)
 refine let Z5:TS:=_;let Z4:TS:=_;let Z3:TS:=_;let Z2:TS:=_;let Z1:TS:=_;let Z0:TS:=_;⟨_,(ae (aw (i:=2) km.nd (aC bP (aC gX ak (pv 1)) ak))
   (af Z0 (ae (cK (aM A0 (pv 1) (dU K T.z_len (pv 0)) (aR _)) (af Z1 (aj (aw (i:=2) km.nd (b8 (bS K rfl) (pv 0) (pv 1) (fun _ _=>rfl))))) (af Z2 (aj (cK (aM p7 (dU K T.z_len (pv 0)) ak (aR _)) (af Z3 (aj (aw (i:=2) km.nd (aC bP (pv 2) (aC gX (aC dA (b8 (bS K rfl) (pv 0) (aC dA (pv 1) (dU K T.z_len (pv 0))) (fun _ _=>rfl)) ak) ak))))) bY))))
   (af Z4 (ae (aw (i:=3) km.nd (aC dA (aC AX (aC bP (aC bP (aC dA (pv 2) ak) (aC gX ak (pv 1))) ak) ak) ak))
   (af Z5 (aj (aI (fI (ai (b8 (bS K rfl) (fI (ai ak (aa (pv 2)))) (kG y8 rfl T.z_int boot_int (aa (gm F_ (pv 2) (aC AX ak ak) (aR _)))) (fun _ _=>rfl)) (aa (aC bP (aC dA (pv 3) ak) ak)))))))))))),?_⟩
 obtain ⟨a,ns,k,rfl,hS,hk,q⟩:=h
 have hp:(0:Int)<2147483629:=by decide
 walk_at "rd"
 refine ⟨a,_,rfl, .inl hS,?_⟩
 walk_at "rd"
 refine gO (fun e=>?_) (fun e=>?_)
 ·have e':(k:Int)<((ns.map V.int).length:Nat):=of_decide_eq_true e
  rw[WH]at e'
  obtain ⟨z,hz⟩:=x8 (ns:=ns) (i:=k) (by lia)
  walk_at "rd"
  refine ⟨a,_,k,_,rfl,rfl,hS,dM hz,?_⟩
  walk_at "rd"
  refine fun p1 n1=>?_
  walk_at "rd"
  refine .inr ⟨_,rfl,?_⟩
  obtain ⟨y,hy⟩:=wC _ z
  refine ⟨p1,_,_,_,rfl,rfl,a_.of ah,hy,?_⟩
  walk_at "rd"
  exact fun p2 n2=>q p2 _ (ay.free (ay.upd n1) n2) ⟨_,_,ah⟩ ((ay.upd n1).trans (ay.upd n2))
 ·walk_at "rd"
  refine ⟨a,_,rfl, .inl hS,?_⟩
  walk_at "rd"
  refine gO (fun e2=>?_) (fun e2=>?_)
  ·have e':(0:Int)<((ns.map V.int).length:Nat):=of_decide_eq_true e2
   have hl:(0:Int)<(ns.length:Int):=by rw[WH]at e';exact e'
   have m1:0<=(k:Int)%(ns.length:Int):=Yh _ (by lia)
   have m2:(k:Int)%(ns.length:Int)<(ns.length:Int):=Yc _ hl
   obtain ⟨z,hz⟩:=x8 (ns:=ns) (i:=((k:Int)%(ns.length:Int)).toNat) (by lia)
   have NN:mC (ns.map V.int) ((k:Int)%((ns.map V.int).length:Nat))=some (V.int z):=by
    have:=dM hz
    rw[Qac m1]at this
    rw[WH]
    exact this
   walk_at "rd"
   refine ⟨a,_,rfl, .inl hS,?_⟩
   walk_at "rd"
   refine ⟨a,_,_,_,rfl,rfl,hS,NN,?_⟩
   walk_at "rd"
   refine fun p1 n1=>?_
   walk_at "rd"
   refine .inr ⟨_,rfl,?_⟩
   obtain ⟨y,hy⟩:=wC _ _
   refine ⟨p1,_,_,_,rfl,rfl,a_.of ah,hy,?_⟩
   walk_at "rd"
   exact fun p2 n2=>q p2 _ (ay.free (ay.upd n1) n2) ⟨_,_,ah⟩ ((ay.upd n1).trans (ay.upd n2))
  ·walk_at "rd"
   refine fun p1 n1=>?_
   walk_at "rd"
   refine .inr ⟨_,rfl,?_⟩
   obtain ⟨y,hy⟩:=wC _ _
   refine ⟨p1,_,_,_,rfl,rfl,a_.of ah,hy,?_⟩
   walk_at "rd"
   exact fun p2 n2=>q p2 _ (ay.free (ay.upd n1) n2) ⟨_,_,ah⟩ ((ay.upd n1).trans (ay.upd n2))
theorem vn:bp P w K mg base dB 1 JQ Kk ["_law_box_here","_law_many"] (uC K):=by
 refine T.M0.fn.ok o5 (fun vs H Q E h=>zP h) (fun cE A outer s H vs Q E hr h=>?_)
 refine let Z5:TS:=_;let Z4:TS:=_;let Z3:TS:=_;let Z2:TS:=_;let Z1:TS:=_;let Z0:TS:=_;⟨_,(ae (cK (aM p7 (b8 (bS K rfl) (pv 0) ak (fun _ _=>rfl)) ak (aR _)) (af Z0 (ae (aw (i:=2) o5.nd (aC dA (b8 (bS K rfl) (pv 0) ak (fun _ _=>rfl)) (pv 1)))
   (af Z1 (ae (jj (aC e_ (b8 (bS K rfl) (pv 0) ak (fun _ _=>rfl)) (pv 1)) (AU (pv 0) ak set_list))
   (af Z2 (aj (aI (pv 2)))))))) bY)
   (af Z3 (ae (aw (i:=3) o5.nd (aC dA (aC gX (b8 (bS K rfl) (pv 0) ak (fun _ _=>rfl)) ak) ak))
   (af Z4 (ae (jj (aC bP (aC dA (aC bP (aC gX (pv 3) ak) ak) ak) ak) (AU (pv 0) ak set_list))
   (af Z5 (aj (aI (aC dA (aC e_ (aC bP (aC gX (pv 3) ak) (b8 (bS K rfl) (pv 0) ak (fun _ _=>rfl))) ak) (pv 1)))))))))),?_⟩
 obtain ⟨b,m,rfl,⟨x,y,hb⟩,h1,h2,q⟩:=h
 have fin: ∀(r x' y':Int),0<=r->r<m->Q (.int r) (upd H b (.lst [.int x', .int y'])):=fun r x' y' h3 h4=>by
  have e:r=((r.toNat:Nat):Int):=by lia
  rw[e]
  exact q r.toNat _ (by lia) ⟨x',y',ah⟩ (b9.upd b H _)
 refine ⟨_,rfl,b,_,0,_,rfl,rfl,a_.of hb,rfl,_,_,rfl,rfl,_,rfl,gO (fun e=>?_) (fun e=>?_)⟩
 ·refine ⟨_,rfl,b,_,0,_,rfl,rfl,a_.of hb,rfl,_,rfl,_,_,rfl,rfl,(by lia:0<m),?_⟩
  refine ⟨_,rfl,b,_,0,_,rfl,rfl,a_.of hb,rfl,_,rfl,_,_,rfl,rfl,⟨by lia,by lia⟩,_,rfl,b,_,0,0,rfl,rfl,hb,rfl,_,rfl,?_⟩
  exact fin (x%m) (x / m) y (Yh _ (by lia)) (Yc _ (by lia))
 ·refine ⟨_,rfl,b,_,1,_,rfl,rfl,a_.of hb,rfl,_,_,rfl,rfl, .inr ⟨by decide,by decide⟩,_,_,rfl,rfl,(by decide:(0:Int)<2147483647),?_⟩
  refine ⟨_,rfl,_,_,rfl,rfl, .inr ⟨by decide,by decide⟩,_,_,rfl,rfl,_,_,rfl,rfl,(by decide:(0:Int)<2147483629),_,_,rfl,rfl,_,rfl,b,_,1,1,rfl,rfl,hb,rfl,?_⟩
  refine ⟨_,rfl,_,_,rfl,rfl, .inr ⟨by decide,by decide⟩,_,rfl,b,_,1,_,rfl,rfl,a_.of ah,rfl,_,_,rfl,rfl,_,_,rfl,rfl,⟨by decide,by decide⟩,_,rfl,_,_,rfl,rfl,(by lia:0<m),?_⟩
  exact fin _ _ _ (Yh _ (by lia)) (Yc _ (by lia))
theorem Dz:bp P w K mg base dB 2 JS Km ["_law_box_here","_law_few","_law_top"] (uD K):=by
 have kn:=vn (P:=P) (w:=w) (base:=base) T
 have bM:=cW (P:=P) (w:=w) (base:=base) T
 refine T.SQ.fn.ok eh (fun vs H Q E h=>zQ h) (fun cE A outer s H vs Q E hr h=>?_)
 refine ⟨_,(ae (aw (i:=3) eh.nd (kG (vW rfl) rfl T.z_list boot_list (aa (gQ [97,98,99,100,101,102,103,104,105,106,107,108,109,110,111,112,113,114,115,116,117,118,119,120,121,122] (by decide+kernel)))))
   (ae (aw (i:=4) eh.nd (fI eZ))
   (ae (dz PassesOwn.never rfl (fN rfl T.z_range (aa (aC bP (pv 1) (ag kn T.M0 hr (ai (pv 0) (aa (aC bP (aC c_ (pv 2) (pv 1)) ak))))))) (aG (i:=5) eh.nd rfl (Or.inl rfl)) (ae (aw (i:=6) eh.nd (bK K rfl XW ZX ZW tY (pv 3) (aa (ag kn T.M0 hr (ai (pv 0) (aa (dU K T.z_len (pv 3))))))))
   (aj (aw (i:=4) eh.nd (aC A_ (pv 4) (fI (ai (pv 6) (aa (ag bM T.Fy hr (aa (pv 6)))))))))))
   (ae (aw (i:=7) eh.nd (gQ [] (by decide+kernel)))
   (ae (cJ PassesOwn.never (aM p7 (dU K T.z_len (pv 4)) ak (aR _)) (aj (aw (i:=7) eh.nd (aC fv (pv 7) (bK K rfl XW ZX ZW tY (pv 4) (aa (ag kn T.M0 hr (ai (pv 0) (aa (dU K T.z_len (pv 4)))))))))))
   (aj (aI (pv 7)))))))),?_⟩
 obtain ⟨b,h_,top,rfl,hb,h1,h2,h3,q⟩:=h
 have hs:(100000:Nat)<sizeLine:=by decide
 walk_at "rd"
 intro p1 n1
 walk_at "rd"
 intro p2 n2
 have s1:ay H (upd (upd H p1 (.lst (bw aO))) p2 (.lst [])):=(ay.upd n1).trans (ay.upd n2)
 have N5:p1≠b:=hb.ne n1
 have S9:H p2=none:=ay.free (ay.upd n1) n2
 have VR:p2≠b:=hb.ne S9
 have S_:p1≠p2:=fun z=>by rw[<-z,ah]at n2;cases n2
 walk_at "rd"
 refine ⟨b,_,rfl,hb.same s1,by lia,by lia,fun n H1 hn MH s2=>?_⟩
 walk_at "rd"
 refine let iD:Nat->L2.St->Hp->Prop:=(fun i σ H'=> ∃(pe:Addr) (L E:List Nat) (kv lv:Option V),σ=[some (.ref b),some (.int h_),some (.int top),some (.ref p1),some (.ref pe),kv,lv,none]/\Iw i L E/\H' p1=some (.lst (bw L))/\H' pe=some (.lst (bw E))/\p1≠pe/\H pe=none/\fe H' b/\b9 b H H');eR iD
  ⟨p2,aO,[],none,none,rfl,Iw.start,s2 _ _ (by rw[ao S_,ah];rfl) N5,s2 _ _ ah VR,S_,S9,MH,(b9.of s1).trans s2⟩ ?_ ?_
 ·rintro i σ H2 hi ⟨pe,L,E,kv,lv,rfl,yw,yN,EH,Ta,N6,BC,s3⟩
  show AS _ _ _ _ _
  refine Ck fun Dx M4=>?_
  have EF:i<26:=by simp at hi;lia
  have W6:=yw.ll
  have AI:=yw.el
  refine ⟨_,rfl, .inl ⟨rfl,_,a_.of yN⟩,?_⟩
  walk_at "rd"
  refine ⟨p1,_,rfl, .inl (a_.of yN),b,_,rfl,BC,by rw[aN];lia,by rw[aN];lia,fun r H3 VS M6 s4=>?_⟩
  rw[aN]at VS
  have M7:r<L.length:=by lia
  have QJ:=s4 _ _ yN N5
  have QK:=s4 _ _ EH (hb.ne N6)
  refine ⟨p1,_,_,r,_,rfl,rfl,QJ,by lia,by lia,by rw[aN,seqIndex_of (by lia) (by lia),XN],Ci M7,?_⟩
  rw[qA]
  have cj:Lt L[r]:= .inl (yw.sm _ (YA M7))
  have M8:(upd H3 p1 (.lst (bw (L.eraseIdx r)))) pe=some (.lst (bw E)):=by rw[ao (Ne.symm Ta)];exact QK
  walk_at "rd"
  intro p3 n3
  have e3:pe≠p3:=aA M8 n3
  refine ⟨pe,p3,_,_,rfl,rfl,by rw[ao e3];exact M8,ah,by rw[aN];show E.length+2<=_;lia,fun p4 n4=>?_⟩
  have Tb:H p3=none:=((s3.trans s4).nM n1).none n3 (M6.nM N5 |>.ne n3)
  have Tc:=(M6.nM (o:= .lst (bw (L.eraseIdx r))) N5).nM (o:= .lst [V.str (S [L[r]]),V.str (S [ax L[r]])]) (hb.ne Tb)
  have Td:=((s3.trans s4).nM (o:= .lst (bw (L.eraseIdx r))) n1).nM (o:= .lst [V.str (S [L[r]]),V.str (S [ax L[r]])]) Tb
  have QL:H p4=none:=Td.none n4 (Tc.ne n4)
  have Te:p1≠p4:=fun z=>by rw[<-z]at n4;by_cases z3:p1=p3<;>simp[upd,z3]at n4
  have VT:p1≠p3:=fun z=>by rw[<-z,ah]at n3;cases n3
  refine M4 _ _ ⟨p4,L.eraseIdx r,E++[L[r],ax L[r]],_,_,rfl,yw.turn EF M7,by rw[ao Te,ao VT,ah],?_,Te,QL,Tc.nM (hb.ne QL),Td.nM QL⟩
  rw[ah, <-ET]
  rfl
 ·rintro σ H2 ⟨pe,L,E,kv,lv,rfl,yw,yN,EH,Ta,N6,BC,s3⟩
  have AI:=yw.el
  have DL:=hb.ne N6
  walk_at "rd"
  refine ⟨fun m σ H'=> ∃F E':List Nat,σ=[some (.ref b),some (.int h_),some (.int top),some (.ref p1),some (.ref pe),kv,lv,some (.str (S F))]/\m=E'.length/\(F++E').Perm E/\H' pe=some (.lst (bw E'))/\fe H' b/\b9 b H H',⟨_,[],E,rfl,rfl,ZC _,EH,BC,s3⟩,?_⟩
  rintro m σ H3 ⟨F,E',rfl,rfl,wq,FI,M6,s4⟩
  have hlen:=wq.length_eq
  rw[Jy]at hlen
  have Ii:(h_:Int)+n<=9:=by lia
  have VU:E.length<=100:=by rw[AI];lia
  walk_at "rd"
  refine ⟨pe,_,rfl, .inl (a_.of FI),_,_,rfl,rfl,_,rfl,gO (fun e=>?_) (fun e=>?_)⟩
  ·have e':(0:Int)<((bw E').length:Nat):=of_decide_eq_true e
   rw[aN]at e'
   refine ⟨_,rfl,_,rfl, .inl ⟨rfl,_,a_.of FI⟩,?_⟩
   walk_at "rd"
   refine ⟨pe,_,rfl, .inl (a_.of FI),b,_,rfl,M6,by rw[aN];lia,by rw[aN];lia,fun r H4 M7 VV s5=>?_⟩
   rw[aN]at M7
   have Tf:r<E'.length:=by lia
   refine ⟨pe,_,_,r,_,rfl,rfl,s5 _ _ FI DL,by lia,by lia,by rw[aN,seqIndex_of (by lia) (by lia),XN],Ci Tf,?_⟩
   rw[qA]
   have hp:=jm (Hz Tf)
   have vA:=hp.length_eq
   rw[Xn]at vA
   refine ⟨F,_,rfl,rfl,by show F.length+1<=_;lia,(E'.eraseIdx r).length,by lia,F++[E'[r]],E'.eraseIdx r,rfl,rfl,?_,ah,VV.nM DL,(s4.trans s5).nM N6⟩
   rw[Lu]
   exact (Ye F hp).trans wq
  ·have e':E'=[]:=by
    cases E' with
    | nil=>rfl
    | cons c r=>exact absurd (decide_eq_true (by rw[aN];show (0:Int)<((r.length+1:Nat):Int);lia)) e
   subst e'
   rw[XA]at wq
   have Ge:=wq.length_eq
   refine ⟨_,rfl,q F H3 (yw.yd.perm wq.symm) ?_ ?_ M6 s4⟩
   ·rw[Ge,AI];lia
   ·rw[Ge,AI];lia
theorem Ao:bp P w K mg base dB 1 JT Kn ["_law_yard_here"] (qI K):=by
 refine T.SR.fn.ok Am (fun vs H Q E h=>wN h) (fun cE A outer s H vs Q E hr h=>?_)
 refine ⟨_,(aj (aI (aH (gs K rfl) rfl T.z_sorted boot_sorted (aa (dc ["_law_letter_here"] [none] (g9 (pv 0)) trivial (fun _ _ _ _=>(aG (i:=0) (by decide+kernel:List.Nodup (["_law_letter_here"]:List Str)) rfl (Or.inl rfl))) (fun _ _ _ _=>(rA (aM vX (pv 0) (gQ [97,98,99,100,101,102,103,104,105,106,107,108,109,110,111,112,113,114,115,116,117,118,119,120,121,122] (by decide+kernel)) (by with_unfolding_all rfl)))) (fun _ _ _ _=>(pv 0))))))),?_⟩
 obtain ⟨y,rfl,hz,q⟩:=h
 have hs:(1000:Nat)<sizeLine:=by decide
 refine ⟨_,rfl,y,rfl,?_⟩
 refine let iD:Nat->List V->Hp->Prop:=(fun i acc H'=>ay H H'/\acc=bw ((y.take i).filter fun c=>decide (c∈aO)));fP (xs:=bw y) iD (by rw[aN];lia) ⟨ay.refl H,rfl⟩ ?_ ?_
 ·rintro i x acc H1 Nx hi hx iE ⟨s1,rfl⟩ nx
  obtain ⟨c,hc,rfl⟩:=dN hx
  have e:=fB (p:=fun c=>decide (c∈aO)) hc
  refine ⟨trivial,?_⟩
  refine ⟨_,rfl,c,aO,rfl,rfl,_,rfl,?_⟩
  refine gO (fun z=>?_) (fun z=>?_)
  ·rw[if_pos z]at e
   exact ⟨_,rfl,nx _ _ (by simpa using iE) ⟨s1,by rw[e, <-cI]⟩⟩
  ·rw[if_neg z,XA]at e
   exact nx _ _ (YR iE) ⟨s1,by rw[e]⟩
 ·rintro acc H1 D iE ⟨s1,rfl⟩ hD
  rw[ff,cU]
  have QI:(y.filter fun c=>decide (c∈aO)).length<=y.length:=Y2 _ _
  refine ⟨D,(y.filter fun c=>decide (c∈aO)).map fun c=>[c],rfl,a_.of ah,by rw[WH];lia,fun p ls hp wq FG=>?_⟩
  obtain ⟨l',rfl,pl⟩:=xM wq
  refine q p l' _ (ay.free (ay.trans s1 (ay.upd hD)) hp) (by rw[ah, <-cU]) pl (xN FG) ((s1.trans (ay.upd hD)).trans (ay.upd hp))
theorem xo:bp P w K mg base dB 2 Kb KI ["_law_yard_here","_law_some"] (oQ K):=by
 have bM:=cW (P:=P) (w:=w) (base:=base) T
 refine T.S5.fn.ok xl (fun vs H Q E h=>vb h) (fun cE A outer s H vs Q E hr h=>?_)
 refine ⟨_,(aj (aI (bK K rfl Xz YK YJ (fQ K rfl) (gQ [] (by decide+kernel)) (aa (dc ["_law_letter_here","_law_some"] [none,some 1] (g9 (pv 0)) ⟨⟨rfl,rfl,by first | exact .inl rfl | exact .inr rfl⟩,trivial⟩ (fun _ _ _ _=>(aG (i:=0) (by decide+kernel:List.Nodup (["_law_letter_here","_law_some"]:List Str)) rfl (Or.inl rfl))) (fun _ _ _ _=>(rA (PW.pt (p6 (aM (rH K rfl) (pv 0) (pv 1) (by with_unfolding_all rfl)) (kC (aM (rH K rfl) (ag bM T.Fy hr (aa (pv 0))) (pv 1) (by with_unfolding_all rfl))))))) (fun _ _ _ _=>(pv 0))))))),?_⟩
 obtain ⟨y,p,l,rfl,hy,hz,hp,hl,VW,q⟩:=h
 have hs:(1000:Nat)<sizeLine:=by decide
 refine ⟨rfl,_,rfl,y,rfl,?_⟩
 refine let iD:Nat->List V->Hp->Prop:=(fun i acc H'=>H'=H/\acc=bw ((y.take i).filter fun c=>decide (c∈l)||decide (ax c∈l)));fP (xs:=bw y) iD (by rw[aN];lia) ⟨rfl,rfl⟩ ?_ ?_
 ·rintro i x acc H1 Nx hi hx iE ⟨rfl,rfl⟩ nx
  obtain ⟨c,hc,rfl⟩:=dN hx
  have e:=fB (p:=fun c=>decide (c∈l)||decide (ax c∈l)) hc
  refine ⟨⟨rfl,trivial⟩,?_⟩
  have Fq:=Xo hc
  by_cases z1:c∈l
  ·rw[if_pos (by rw[decide_eq_true z1];rfl)]at e
   refine ⟨_,rfl,_,rfl,p,_,rfl, .inl hp,rfl,nq l,_,rfl,iZ (by rw[mF,decide_eq_true z1];rfl) ?_⟩
   exact iZ rfl ⟨_,rfl,nx _ _ (by simpa using iE) ⟨rfl,by rw[e, <-cI]⟩⟩
  ·refine ⟨_,rfl,_,rfl,p,_,rfl, .inl hp,rfl,nq l,_,rfl,dE (by rw[mF,decide_eq_false z1];rfl) ?_⟩
   refine ⟨_,rfl,c,rfl,hy.lt c Fq,_,rfl,p,_,rfl, .inl hp,rfl,nq l,_,rfl,?_⟩
   by_cases z2:ax c∈l
   ·rw[if_pos (by rw[decide_eq_true z2];exact Bool.or_true _)]at e
    exact iZ (by rw[mF,decide_eq_true z2];rfl) ⟨_,rfl,nx _ _ (by simpa using iE) ⟨rfl,by rw[e, <-cI]⟩⟩
   ·rw[if_neg (by rw[decide_eq_false z1,decide_eq_false z2];decide),XA]at e
    exact dE (by rw[mF,decide_eq_false z2];rfl) (nx _ _ (YR iE) ⟨rfl,by rw[e]⟩)
 ·rintro acc H1 D iE ⟨rfl,rfl⟩ hD
  rw[ff,cU]
  have QI:(y.filter fun c=>decide (c∈l)||decide (ax c∈l)).length<=y.length:=Y2 _ _
  have ek:(y.filter fun c=>decide (c∈l)||decide (ax c∈l))=y.filter (kept l):=Qao fun c hc=>(fA VW (hy.lt c hc)).symm
  refine ⟨D,(y.filter fun c=>decide (c∈l)||decide (ax c∈l)).map fun c=>[c],rfl,rfl,a_.of ah,by rw[wB];lia,?_⟩
  rw[nL,ek]
  exact q _ (ay.upd hD)
theorem Ap:bp P w K mg base dB 2 J6 KA ["_law_word"] (qE K):=by
 have bM:=cW (P:=P) (w:=w) (base:=base) T
 refine T.S3.fn.ok An (fun vs H Q E h=>wG h) (fun cE A outer s H vs Q E hr h=>?_)
 refine ⟨_,(aj (aI (bK K rfl Xz YK YJ (fQ K rfl) (gQ [] (by decide+kernel)) (aa (dc ["_law_letter_here"] [none] (Bo rfl T.z_reversed (aa (pv 0))) trivial (fun _ _ _ _=>(aG (i:=0) (by decide+kernel:List.Nodup (["_law_letter_here"]:List Str)) rfl (Or.inl rfl))) (fun _ _ _ _=>fJ) (fun _ _ _ _=>(ag bM T.Fy hr (aa (pv 0))))))))),?_⟩
 obtain ⟨l,rfl,hc,hz,q⟩:=h
 have hs:(1000:Nat)<sizeLine:=by decide
 refine ⟨rfl,_,rfl,l,rfl,by omega,?_⟩
 rw[x6]
 refine let iD:Nat->List V->Hp->Prop:=(fun i acc H'=>ay H H'/\acc=bw ((l.reverse.take i).map ax));fP (xs:=bw l.reverse) iD (by rw[aN,Xq];omega) ⟨ay.refl H,rfl⟩ ?_ ?_
 ·rintro i x acc H1 Nx hi hx hl ⟨s1,rfl⟩ nx
  obtain ⟨c,o9,rfl⟩:=dN hx
  refine ⟨trivial,eP ⟨_,rfl,c,rfl,hc c (XQ.mp (Xo o9)),nx _ _ (by simpa using hl) ⟨s1,?_⟩⟩⟩
  rw[cI, <-take_snoc o9,XJ]
  rfl
 ·rintro acc H1 D hl ⟨s1,rfl⟩ hD
  refine ⟨D,(bD l).map fun c=>[c],rfl,rfl,a_.of ?_,?_,?_⟩
  ·rw[ah, <-cU,aN,WJ (Rv _),ZL]
   rfl
  ·rw[wB]
   unfold bD
   rw[Xq,WH]
   omega
  ·rw[nL]
   exact q _ (s1.trans (ay.upd hD))
theorem DA:bp P w K mg base dB 5 J9 KD ["_law_word"] (vd K):=by
 have yO:=Dv (P:=P) (w:=w) (base:=base) T
 have DB:=Ap (P:=P) (w:=w) (base:=base) T
 refine T.QA.fn.ok Du (fun vs H Q E h=>Ai h) (fun cE A outer s H vs Q E hr h=>?_)
 refine ⟨_,(aj (aI (aH (nk rfl) rfl T.z_min boot_min (ai (ag yO T.Qz hr (aa (pv 0))) (aa (ag yO T.Qz hr (aa (ag DB T.S3 hr (aa (pv 0)))))))))),?_⟩
 obtain ⟨l,rfl,hl,hz,q⟩:=h
 refine ⟨_,rfl,l,rfl,hl,hz,fun H1 s1=>?_⟩
 refine ⟨_,rfl,l,rfl,hl,hz,fun H2 s2=>?_⟩
 refine ⟨bD l,rfl,kX hl,by rw[cC];exact hz,fun H3 s3=>?_⟩
 exact ⟨_,_,rfl,q _ ((s1.trans s2).trans s3)⟩
theorem DC:bp P w K mg base dB 6 Jd Je ["_law_yard_here"] (ve K):=by
 have DD:=Ao (P:=P) (w:=w) (base:=base) T
 have tp:=vm (P:=P) (w:=w) (base:=base) T
 have Aq:=xo (P:=P) (w:=w) (base:=base) T
 have yP:=DA (P:=P) (w:=w) (base:=base) T
 refine T.VI.ok iC (fun vs H Q E h=>Aj h) (fun cE A outer s H vs Q E hh hr h=>?_)
 refine let Z5:TS:=_;let Z4:TS:=_;let Z3:TS:=_;let Z2:TS:=_;let Z1:TS:=_;let Z0:TS:=_;⟨_,(ae (aw (i:=1) iC.nd (fI eZ))
   (af Z0 (ae (aw (i:=2) iC.nd (ag DD T.SR hr (aa (pv 0))))
   (af Z1 (ae (dz PassesOwn.never rfl (kD rfl T.z_range (ai ak (aa (aC bP (dU K T.z_len (pv 2)) ak)))) (aG (i:=3) iC.nd rfl (Or.inl rfl)) (af Z2 (aj (dz PassesOwn.never rfl (hJ K rfl (ag tp T.QB hr (aa (ag Aq T.S5 hr (ai (pv 0) (aa (br (nj K rfl) (pv 2) b_ (bz (pv 3))))))))) (aG (i:=4) iC.nd rfl (Or.inl rfl)) (af Z3 (aj (cK (aM (Eu K rfl) (ag yP T.QA hr (aa (pv 4))) (pv 1) (by with_unfolding_all rfl)) (af Z4 (aj (eM (bK K rfl XW YC YB eS (pv 1) (aa (ag yP T.QA hr (aa (pv 4)))))))) bY)))))))
   (af Z5 (aj (aI (uz (x:="_law_word") K rfl rfl rfl T.z_sorted boot_sorted (aa (pv 1)) (B9 rfl hh (x4.bm (base:=base) (mg:=mg)) rfl rfl rfl) (uA T.z_len ⟨rfl,rfl,rfl,by decide+kernel,rfl,by decide+kernel,by decide+kernel⟩ rfl rfl (by decide) (by decide) (fun _ _ _ us hl=>match us,hl with | [_],_=>rfl)) (cF.in1 (cF.in1 (hr.mono (by decide))))))))))))),?_⟩
 obtain ⟨y,rfl,hy,h2,h8,hT,q⟩:=h
 have hs:(1000:Nat)<sizeLine:=by decide
 refine ⟨XI _,fun pf Dw=>?_⟩
 refine ⟨_,rfl,y,rfl,by lia,fun pn nm H1 Tg Th wq FG s1=>?_⟩
 have Jh:nm.Perm (y.filter bW):=by
  refine wq.trans (List.Perm.of_eq (Qao fun c hc=>?_))
  rw[iM (hy.lt c hc)]
 have s:=ck.of hy Jh
 have hh:=fo hy
 have M9:=Jh.length_eq
 have QM:H1 pf=some (.lst []):=s1 _ _ ah
 have VX:ay H H1:=(ay.upd Dw).trans s1
 have VY:pn≠pf:=fun e=>by rw[e,ah]at Tg;cases Tg
 refine ⟨_,rfl,pn,_,rfl, .inl (a_.of Th),_,_,rfl,rfl,_,_,rfl,⟨by decide,by decide,by rw[aN];lia,by rw[aN];lia⟩,?_⟩
 have en:(((bw nm).length:Int)+1 - 1).toNat=nm.length:=by rw[aN];lia
 refine let iD:Nat->L2.St->Hp->Prop:=(fun i σ H'=> ∃(ws:List (List Nat)) (cv rv:Option V),σ=[some (.str (S y)),some (.ref pf),some (.ref pn),cv,rv]/\H' pf=some (.lst (b0 ws))/\H' pn=some (.lst (bw nm))/\qW y nm i (fun _=>False) ws/\ws.length<=8*i/\ay H H');eR iD ⟨[],none,none,rfl,QM,Th,⟨Yk,fun w=>⟨fun g=>absurd g Xl,fun g=>g.elim (fun g=>absurd g FL.zero) False.elim⟩⟩,Rv _,VX⟩ ?_ ?_
 ·rintro i σ H2 hi ⟨ws,cv,rv,rfl,hf,hn,hW,hl,s2⟩
  have e1:(1:Int)+(i:Int)=((i+1:Nat):Int):=by lia
  rw[e1]
  have AF:i<nm.length:=by rw[en]at hi;exact hi
  have st:=s.take (i+1)
  have hz:=hy.within st.ph
  have M_:=st.len hy
  rw[Rt,X6 (by lia)]at M_
  refine ⟨_,rfl,_,rfl,_,rfl,_,rfl,pn,_,rfl,a_.of hn,fun p1 n1=>?_⟩
  have ec:tT (bw nm) none (some ((i+1:Nat):Int))=bw (nm.take (i+1)):=by
   show cut (bw nm) none (some ((i+1:Nat):Int))=_
   rw[de]
   unfold bw
   rw[Qae]
  rw[ec]
  have yN:upd H2 p1 (.lst (bw (nm.take (i+1)))) p1=some (.lst (bw (nm.take (i+1)))):=ah
  have s3:=ay.upd (o:= .lst (bw (nm.take (i+1)))) n1
  generalize upd H2 p1 (.lst (bw (nm.take (i+1))))=H3 at yN s3 ⊢
  refine ⟨y,p1,nm.take (i+1),rfl,hy,h8,a_.of yN,by rw[Rt];lia,st.ph,fun H4 s4=>?_⟩
  refine ⟨_,rfl,hz,by lia,by lia,fun p L H5 hP hL np hp s5=>?_⟩
  have hR:=fun v=>FL.succ (v:=v) hy s AF hP
  have Ji: ∀r∈L,(∀c∈r,Lt c)/\r.length<=8:=fun r QN=>by
   obtain ⟨o,bh⟩:=hP.eG r QN
   exact ⟨fun c hc=>hz.lt c (bh c hc),XG (o.nd.length_le_of_subset fun c hc=>bh c hc) (by lia)⟩
  have QO:=(s3.trans s4).trans s5
  have VZ:=QO _ _ hf
  have V0:p≠pf:=fun e=>by rw[e,s4 _ _ (s3 _ _ hf)]at np;cases np
  refine ⟨p,rfl,⟨_,a_.of hp⟩,?_⟩
  refine let DE:Nat->L2.St->Hp->Prop:=(fun j σ H'=> ∃(ws:List (List Nat)) (rv:Option V),σ=[some (.str (S y)),some (.ref pf),some (.ref pn),some (.int ((i+1:Nat):Int)),rv]/\H' pf=some (.lst (b0 ws))/\H' pn=some (.lst (bw nm))/\qW y nm i (fun v=> ∃w∈L.take j,v=aY w) ws/\ws.length<=8*i+j/\H' p=some (.lst (b0 L))/\ay H H');tP (K:=K) (a:=p) (xs:=b0 L) DE ⟨ws,rv,rfl,VZ,QO _ _ hn,hW.congr fun v=>⟨False.elim,fun ⟨w,hw,_⟩=>absurd hw (by simp)⟩,by lia,hp,s2.trans QO⟩ (fun j σ H' _ h=>by obtain ⟨_,_,_,_,_,_,_,g,_⟩:=h;exact a_.of g) ?_ ?_
  ·rintro j x σ H6 hx ⟨ws,rv,rfl,KO,N7,Na,Ti,AL,s6⟩
   obtain ⟨r,Jj,rfl⟩:=iQ hx
   have N8:=Xo Jj
   have hj:=(Ru.mp Jj).1
   have lr:=Ji r N8
   have Tj:r.length<=1000:=by lia
   have ek: ∀v,(v=aY r\/ ∃w∈L.take j,v=aY w)↔ ∃w∈L.take (j+1),v=aY w:=fun v=>by
    rw[<-take_snoc Jj]
    constructor
    ·rintro (e | ⟨w,hw,e⟩)
     ·exact ⟨r,by simp,e⟩
     ·exact ⟨w,Xx _ hw,e⟩
    ·rintro ⟨w,hw,e⟩
     rcases T3.mp hw with g | g
     ·exact .inr ⟨w,g,e⟩
     ·exact .inl (by rw[e,Hy.mp g])
   refine ⟨_,rfl,r,rfl,lr.1,Tj,fun H7 s7=>?_⟩
   refine ⟨_,rfl,pf,_,rfl, .inl (a_.of (s7 _ _ KO)),rfl,Dp _,_,rfl,?_⟩
   by_cases z:aY r∈ws
   ·refine dE (by rw[sE,decide_eq_true z];rfl) ?_
    exact ⟨ws,_,rfl,s7 _ _ KO,s7 _ _ N7,Na.Jb ek z,by lia,s7 _ _ AL,s6.trans s7⟩
   ·refine iZ (by rw[sE,decide_eq_false z];rfl) ?_
    refine ⟨_,rfl, .inl ⟨rfl,_,a_.of (s7 _ _ KO)⟩,_,rfl,r,rfl,lr.1,Tj,fun H8 s8=>?_⟩
    have N9:=s7.trans s8
    refine ⟨pf,_,_,rfl,rfl,N9 _ _ KO,by rw[bO];lia,?_⟩
    refine ⟨ws++[aY r],_,rfl,by rw[ah];exact congrArg _ (congrArg _ (fg _ _)),by rw[ao VY];exact N9 _ _ N7,Na.add ek z,by rw[Jy,Xn,Yp];lia,by rw[ao V0];exact N9 _ _ AL,fun a o ea=>by rw[ao (aA ea Dw)];exact N9 _ _ (s6 a o ea)⟩
  ·rintro σ H6 ⟨ws,rv,rfl,KO,N7,Na,Ti,AL,s6⟩
   rw[bO,Yz]at Na
   rw[bO]at Ti
   exact ⟨ws,_,_,rfl,KO,N7,Na.next hR,by lia,s6⟩
 ·rintro σ H2 ⟨ws,cv,rv,rfl,hf,hn,hW,hl,s2⟩
  rw[en]at hW hl
  have hlen:=hW.len hy s (Rv _) (fun _ h=>h.elim)
  refine ⟨_,rfl,pf,ws,rfl, .lst (a_.of hf),by lia,fun w hw=>by have:=(hlen w hw).2;lia,(hT.same s2).at_ T.iS,fun t H3 us sT QP nt ht pm o=>?_⟩
  exact q t us H3 ((bo.of s2).trans (sT.imp fun b e=>by rw[e];exact T.iS)) (.mk T.iS QP) (ay.free s2 nt) ht (hW.done Jh FG pm o)
theorem vo:bp P w K mg base dB 3 f5 d5 ["word"] (lP K):=by
 have vp:=tm (P:=P) (w:=w) (base:=base) T
 have cf:=eF (P:=P) (w:=w) (base:=base) T
 refine T.F5.fn.ok cV (fun vs H Q E h=>rX h) (fun cE A outer s H vs Q E hr h=>?_)
 refine let Z5:TS:=_;let Z4:TS:=_;let Z3:TS:=_;let Z2:TS:=_;let Z1:TS:=_;let Z0:TS:=_;⟨_,(ae (aw (i:=1) cV.nd (ag vp T.F4 hr (aa (pv 0))))
   (af Z0 (ae (aw (i:=2) cV.nd ak)
   (af Z1 (ae (aw (i:=3) cV.nd (aH aQ rfl T.z_len XR (aa (pv 1))))
   (af Z2 (ae (cJ PassesOwn.never (PW.pt (q8 (aM F_ (aC c_ (pv 3) (pv 2)) ak (aR _)) (mB (aM gp (b8 mj (pv 1) (pv 2) (fun _ _=>rfl)) (ag cf T.F0 hr (aa (b8 mj (pv 1) (aC c_ (pv 3) ak) (fun _ _=>rfl)))) (aR _))))) (af Z3 (ae (vI (i:=2) cV.nd rfl (Or.inl rfl) ak G_)
   (af Z4 (aj (vI (i:=3) cV.nd rfl (Or.inl rfl) ak Ha))))))
   (af Z5 (aj (aI (br jJ (pv 1) (bz (pv 2)) (bz (pv 3))))))))))))),?_⟩
 obtain ⟨l,rfl,hl,hz,q⟩:=h
 have hs:(100000:Nat)<sizeLine:=by decide
 refine ⟨_,rfl,l,rfl,hl,hz,fun H1 s1=>?_⟩
 have QC:=fz l
 have cj:=nO hl
 generalize red l=r at QC cj q ⊢
 have Tn:r.length<=sizeLine:=by lia
 walk_at "rd"
 refine ⟨fun m σ H'=> ∃(a e:Nat),σ=[some (.str (S l)),some (.str (S r)),some (.int a),some (.int e)]/\m=e - a/\a<=e/\e<=r.length/\core (AH r a e)=core r/\H'=H1,⟨_,0,r.length,rfl,rfl,XI _,Rv _,by rw[EY],rfl⟩,?_⟩
 rintro m σ H2 ⟨a,e,rfl,rfl,h1,h2,hc,rfl⟩
 have fin:core (AH r a e)=AH r a e->Q (.str (S (cut r (some (a:Int)) (some (e:Int))))) H2:=fun z=>by
  have e1:cut r (some (a:Int)) (some (e:Int))=AH r a e:=by
   unfold cut AH
   rw[HT.gn,HT.gn]
   have e1:min a r.length=a:=by lia
   have e2:min e r.length=e:=by lia
   rw[e1,e2]
  rw[e1, <-z,hc]
  exact q H2 s1
 walk_at "rd"
 refine gO (fun z=>?_) (fun z=>?_)
 ·have z1:(2:Int)<=(e:Int) - (a:Int):=of_decide_eq_true z
  have ha:a<r.length:=by lia
  have he:e - 1<r.length:=by lia
  have g0:mC r (a:Int)=some r[a]:=dM (Hz ha)
  have g1:mC r ((e:Int) - 1)=some r[e - 1]:=by
   have:(e:Int) - 1=((e - 1:Nat):Int):=by lia
   rw[this];exact dM (Hz he)
  have h8:r[e - 1]<128:=(cj _ (YA he)).lt
  have hw:=Iy (l:=r) (s:=a) (e:=e) (by lia) h2
  refine ⟨_,rfl,_,rfl,r,_,_,rfl,rfl,Tn,g0,?_⟩
  walk_at "rd"
  refine ⟨r,_,_,rfl,rfl,Tn,g1,?_⟩
  walk_at "rd"
  refine gO (fun y=>?_) (fun y=>?_)
  ·have ey:r[a]=ax r[e - 1]:=by simpa using of_decide_eq_true y
   walk_at "rd"
   refine ⟨(e - 1) - (a+1),by lia,a+1,e - 1,?_,rfl,by lia,by lia,?_,rfl⟩
   ·have e1:(a:Int)+1=((a+1:Nat):Int):=by lia
    have e2:(e:Int) - 1=((e - 1:Nat):Int):=by lia
    rw[<-e1, <-e2]
    rfl
   ·rw[<-hc,hw,jS ey]
  ·have ey:r[a]≠ax r[e - 1]:=fun w=>y (decide_eq_true (by rw[w]))
   walk_at "rd"
   exact fin (by rw[hw,dF ey])
 ·have z1: ¬(2:Int)<=(e:Int) - (a:Int):=fun w=>z (decide_eq_true w)
  walk_at "rd"
  exact fin (dG (by rw[EX h2];lia))
theorem yQ:bp P w K mg base dB 4 f6 d6 ["word"] (ye K):=by
 have xp:=vo (P:=P) (w:=w) (base:=base) T
 refine T.F6.fn.ok iT (fun vs H Q E h=>Co h) (fun cE A outer s H vs Q E hr h=>?_)
 refine let Z5:TS:=_;let Z4:TS:=_;let Z3:TS:=_;let Z2:TS:=_;let Z1:TS:=_;let Z0:TS:=_;⟨_,(ae (aw (i:=1) iT.nd (ag xp T.F5 hr (aa (pv 0))))
   (af Z0 (ae (aw (i:=2) iT.nd (pv 1))
   (af Z1 (ae (dz PassesOwn.never rfl (kD rfl T.z_range (ai ak (aa (aH aQ rfl T.z_len XR (aa (pv 1)))))) (aG (i:=3) iT.nd rfl (Or.inl rfl)) (af Z2 (ae (aw (i:=4) iT.nd (aC fv (br jJ (pv 1) (bz (pv 3)) b_) (br jJ (pv 1) b_ (bz (pv 3)))))
   (af Z3 (aj (cK (aM HI (pv 4) (pv 2) (aR _)) (af Z4 (aj (aw (i:=2) iT.nd (pv 4)))) bY))))))
   (af Z5 (aj (aI (pv 2))))))))),?_⟩
 obtain ⟨l,rfl,hl,hz,q⟩:=h
 have hs:(100000:Nat)<sizeLine:=by decide
 refine ⟨_,rfl,l,rfl,hl,hz,fun H1 s1=>?_⟩
 have GI:(core (red l)).length<=1000:=XG (nR _) (XG (fz l) hz)
 unfold aE bX at q
 generalize core (red l)=c at GI q ⊢
 have N4:c.length<=sizeLine:=by lia
 walk_at "rd"
 refine ⟨_,_,rfl,⟨by decide,by decide,by lia,by lia⟩,?_⟩
 refine eR (fun i σ H'=>H'=H1/\ ∃sv bv,σ=[some (.str (S l)),some (.str (S c)),some (.str (S (aU c (gv c i)))),sv,bv]) ⟨rfl,none,none,rfl⟩ ?_ ?_
 ·rintro i σ H2 hi ⟨rfl,sv,bv,rfl⟩
  have e1:(1:Int)+(i:Int)=((i+1:Nat):Int):=by lia
  rw[e1]
  have hlen:(cut c (some ((i+1:Nat):Int)) none).length+(cut c none (some ((i+1:Nat):Int))).length<=sizeLine:=by rw[de,cO,Xi,Rt];lia
  have xm:cut c (some ((i+1:Nat):Int)) none++cut c none (some ((i+1:Nat):Int))=bE c (i+1):=by rw[de,cO];rfl
  walk_at "rd"
  rw[xm]
  refine gO (fun z=>?_) (fun z=>?_)
  ·have z':bE c (i+1)<aU c (gv c i):=of_decide_eq_true z
   have hle:aU c (gv c (i+1))=bE c (i+1):=by rw[qC,gw];unfold aW;rw[if_pos z']
   refine ⟨_,rfl,?_⟩
   rw[hle]
   exact ⟨rfl,_,_,rfl⟩
  ·have z': ¬bE c (i+1)<aU c (gv c i):=fun y=>z (decide_eq_true y)
   have hle:aU c (gv c (i+1))=aU c (gv c i):=by rw[qC,gw];unfold aW;rw[if_neg z']
   rw[hle]
   exact ⟨rfl,_,_,rfl⟩
 ·rintro σ H2 ⟨rfl,sv,bv,rfl⟩
  have e:((c.length:Int) - 1).toNat=c.length - 1:=by lia
  rw[e]
  exact ⟨_,rfl,q _ s1⟩
theorem yR:bp P w K mg base dB 5 JL Kf ["yard"] (yA K):=by
 have tq:=pY (P:=P) (w:=w) (base:=base) T
 have cf:=eF (P:=P) (w:=w) (base:=base) T
 have tu:=yQ (P:=P) (w:=w) (base:=base) T
 refine T.Qw.fn.ok iU (fun vs H Q E h=>CV h) (fun cE A outer s H vs Q E hr h=>?_)
 refine let Z7:TS:=_;let Z6:TS:=_;let Z5:TS:=_;let Z4:TS:=_;let Z3:TS:=_;let Z2:TS:=_;let Z1:TS:=_;let Z0:TS:=_;⟨_,(ae (aw (i:=1) iU.nd ui)
   (af Z0 (ae (aw (i:=2) iU.nd (fI eZ))
   (af Z1 (ae (dz PassesOwn.never rfl (g9 (pv 0)) (aG (i:=3) iU.nd rfl (Or.inl rfl)) (af Z2 (aj (cK (G4 (zu (Bb hr) (pv 3) (pv 1)) (by with_unfolding_all rfl)) (af Z3 (ae (aw (i:=4) iU.nd (ag tq T.SK hr (ai (pv 0) (aa (pv 3)))))
   (af Z4 (ae (dz PassesOwn.never rfl (g9 (pv 4)) (aG (i:=5) iU.nd rfl (Or.inl rfl)) (af Z5 (aj (xP (Bb hr) (pv 1) (ag cf T.F0 hr (aa (pv 5))) i4 rfl))))
   (af Z6 (aj (eM (bK K rfl XW YC YB eS (pv 2) (aa (ag tu T.F6 hr (aa (pv 4)))))))))))) bY))))
   (af Z7 (aj (aI (aH (gs K rfl) rfl T.z_sorted boot_sorted (aa (pv 2))))))))))),?_⟩
 obtain ⟨y,rfl,hy,h2,h8,q⟩:=h
 have hs:(100000:Nat)<sizeLine:=by decide
 walk_at "wk"
 intro d nd
 walk_at "wk"
 intro p np
 have QQ:H d=none:=nd
 have QR:d≠p:=fun z=>by rw[<-z,ah]at np;cases np
 have V1:H p=none:=ay.free (ay.upd nd) np
 refine ⟨_,rfl,y,rfl,?_⟩
 refine let iD:Nat->L2.St->Hp->Prop:=(fun i σ H'=> ∃(ws:List (List Nat)) (aJ:List (Key×V)) (ev wv lv:Option V),σ=[some (.str (S y)),some (.ref d),some (.ref p),ev,wv,lv]/\H' d=some (.dK aJ)/\H' p=some (.lst (b0 (ws.map aE)))/\gL y i ws/\aJ.length<=8*i/\(∀e∈y,((eN aJ (tk e)).isSome=true↔ ∃w∈ws,ax e∈w))/\ay H H');mD (xs:=bw y) iD
  ⟨[],[],none,none,none,rfl,by rw[ao QR,ah],ah,gL.start y,Rv _,fun e _=>⟨fun z=>absurd z (by simp[eN]),fun ⟨_,z,_⟩=>absurd z Xl⟩,(ay.upd nd).trans (ay.upd np)⟩ ?_ ?_
 ·rintro i x σ H1 hx ⟨ws,aJ,ev,wv,lv,rfl,hd,hp,mH,V2,pA,s1⟩
  obtain ⟨e,he,rfl⟩:=dN hx
  have hi:i<y.length:=(Ru.mp he).1
  have QS:=Xo he
  refine ⟨_,rfl,_,rfl,d,_,rfl,BF.k (k:=tk e) hd,?_⟩
  walk_at "wk"
  refine gO (fun z=>?_) (fun z=>?_)
  ·have JJ: ¬ ∃w∈ws,ax e∈w:=fun q=>by
    rw[(pA e QS).mpr q]at z;cases z
   refine ⟨_,rfl,_,rfl,y,e,rfl,hy,QS,by omega,fun w ho Jc N1=>?_⟩
   have GS:w.length<=8:=XG (ho.nd.length_le_of_subset fun c hc=>Jc c hc) h8
   refine ⟨_,rfl,w,rfl,?_⟩
   refine let DE:Nat->L2.St->Hp->Prop:=(fun j σ H'=> ∃(Ar:List (Key×V)) (lv:Option V),σ=[some (.str (S y)),some (.ref d),some (.ref p),some (.str (S [e])),some (.str (S w)),lv]/\H' d=some (.dK Ar)/\H' p=some (.lst (b0 (ws.map aE)))/\Ar.length<=8*i+j/\(∀f∈y,((eN Ar (tk f)).isSome=true↔(∃w∈ws,ax f∈w)\/ ∃c∈w.take j,f=ax c))/\ay H H');mD (xs:=bw w) DE
    ⟨aJ,lv,rfl,hd,hp,by omega,fun f hf=>by rw[pA f hf];simp,s1⟩ ?_ ?_
   ·rintro j x σ H2 NF ⟨Ar,V3,rfl,hd2,B1,Nb,DF,s2⟩
    obtain ⟨c,hc,rfl⟩:=dN NF
    have hj:j<w.length:=(Ru.mp hc).1
    have Fq:=Jc c (Xo hc)
    refine ⟨_,rfl,_,rfl,c,rfl,(hy.lt c Fq).lt,d,_,rfl,zq.k (k:=tk (ax c)) hd2 (by omega),?_⟩
    refine ⟨_,_,rfl,ah,by rw[ao (Ne.symm QR)];exact B1,XG (hU _ _ _) (by omega),fun f hf=>?_,fun a o ea=>by rw[ao (aA ea QQ)];exact s2 a o ea⟩
    rw[BD, <-take_snoc hc]
    by_cases q:f=ax c
    ·rw[if_pos (by rw[q])]
     simp[q]
    ·rw[if_neg (fun q2=>q (IS q2)),DF f hf]
     simp[q]
   ·rintro σ H2 ⟨Ar,V3,rfl,hd2,B1,Nb,DF,s2⟩
    rw[aN]at Nb
    have Jx: ∀c∈w,Lt c:=fun c hc=>hy.lt c (Jc c hc)
    have ze:=mH.h_
    refine ⟨_,rfl, .inl ⟨rfl,_,a_.of B1⟩,_,rfl,w,rfl,Jx,by omega,fun H3 s3=>?_⟩
    refine ⟨p,_,_,rfl,rfl,s3 _ _ B1,by rw[bO,WH];omega,?_⟩
    rw[fg]
    refine ⟨ws++[w],Ar,_,_,_,rfl,by rw[ao QR];exact s3 _ _ hd2,by rw[ah,XJ];rfl,mH.turn hy he JJ ho Jc N1,by omega,fun f hf=>?_,fun a o ea=>by rw[ao (aA ea V1)];exact s3 _ _ (s2 a o ea)⟩
    rw[DF f hf,ff]
    constructor
    ·rintro (⟨u,hu,z2⟩ | ⟨c,hc,z2⟩)
     ·exact ⟨u,Xx _ hu,z2⟩
     ·exact ⟨w,by simp,by rw[z2,aD (Jx c hc)];exact hc⟩
    ·rintro ⟨u,hu,z2⟩
     rcases T3.mp hu with g | g
     ·exact .inl ⟨u,g,z2⟩
     ·rw[Hy.mp g]at z2
      exact .inr ⟨ax f,z2,(aD (hy.lt f hf)).symm⟩
  ·have QT: ∃w∈ws,ax e∈w:=(pA e QS).mp (by
    cases hq:(eN aJ (tk e)).isSome
    ·exact absurd (by rw[hq];rfl) z
    ·rfl)
   exact ⟨ws,aJ,_,_,_,rfl,hd,hp,mH.skip he QT,by omega,pA,s1⟩
 ·rintro σ H1 ⟨ws,aJ,ev,wv,lv,rfl,hd,hp,mH,V2,pA,s1⟩
  rw[aN]at mH
  have ze:=mH.h_
  refine ⟨_,rfl,p,ws.map aE,rfl,a_.of hp,by rw[WH];omega,fun p2 L n2 wq FG=>?_⟩
  exact q p2 L _ ⟨ws,mH.done hy,wq,FG⟩ (ay.free s1 n2) ah (s1.trans (ay.upd n2))
theorem xq:bp P w K mg base dB 6 JM Kg ["yard"] (oE K):=by
 have ko:=o8 (P:=P) (w:=w) (base:=base) T
 have xr:=yR (P:=P) (w:=w) (base:=base) T
 refine T.SM.fn.ok xk (fun vs H Q E h=>uT h) (fun cE A outer s H vs Q E hr h=>?_)
 refine ⟨_,(aj (aI (aC e_ (aC c_ (aC bP (aH aQ rfl T.z_len XR (aa (ag ko T.F2 hr (aa (pv 0))))) ak) (dU K T.z_len (ag xr T.Qw hr (aa (pv 0))))) ak))),?_⟩
 obtain ⟨y,rfl,hy,h2,h8,q⟩:=h
 have hs:(1000:Nat)<sizeLine:=by decide
 have KP: ∀c∈y,c<128:=uE hy.lt
 refine ⟨_,rfl,y,rfl,KP,by omega,fun l' H1 G2 _ s1=>?_⟩
 have hlen:=G2.length_eq
 have hh:=fo hy
 walk_at "wk"
 intro p L H2 hr hp V4 s2
 refine ⟨p,_,rfl, .inl (a_.of V4),_,_,rfl,rfl,_,_,rfl,rfl,⟨by decide,by decide⟩,?_⟩
 have e:(l'.length:Int)=(y.length:Int) / 2:=by omega
 rw[bO,e]
 exact q L _ hr (s1.trans s2)
theorem FJ:bp P w K mg base dB 7 JN Kh ["yard"] (yJ K):=by
 have ko:=o8 (P:=P) (w:=w) (base:=base) T
 have As:=xq (P:=P) (w:=w) (base:=base) T
 refine T.SN.fn.ok FA (fun vs H Q E h=>Dq h) (fun cE A outer s H vs Q E hr h=>?_)
 refine ⟨_,(aj (aI (aC c_ (aC c_ (aC gX ak (aH aQ rfl T.z_len XR (aa (ag ko T.F2 hr (aa (pv 0)))))) ak) (ag As T.SM hr (aa (pv 0)))))),?_⟩
 obtain ⟨y,rfl,hy,h2,h8,q⟩:=h
 have hs:(1000:Nat)<sizeLine:=by decide
 have KP: ∀c∈y,c<128:=uE hy.lt
 refine ⟨_,rfl,y,rfl,KP,by lia,fun l' H1 G2 _ s1=>?_⟩
 have hlen:=G2.length_eq
 have hh:=fo hy
 walk_at "wk"
 intro L H2 hr s2
 have e:(l'.length:Int)=(y.length:Int) / 2:=by lia
 refine ⟨_,_,rfl,rfl,?_⟩
 show Q (.int (2*(l'.length:Int) - 1 - _)) H2
 rw[e]
 exact q L _ hr (s1.trans s2)
theorem Au:bp P w K mg base dB 1 f3 d3 ["yard","some"] (qH K):=by
 refine T.F3.fn.ok Al (fun vs H Q E h=>wM h) (fun cE A outer s H vs Q E hr h=>?_)
 refine ⟨_,(aj (aI (bK K rfl Xz YK YJ (fQ K rfl) (gQ [] (by decide+kernel)) (aa (dc ["letter","some"] [none,some 1] (g9 (pv 0)) ⟨⟨rfl,rfl,by first | exact .inl rfl | exact .inr rfl⟩,trivial⟩ (fun _ _ _ _=>(aG (i:=0) (by decide+kernel:List.Nodup (["letter","some"]:List Str)) rfl (Or.inl rfl))) (fun _ _ _ _=>(rA (aM vX (gq K rfl Xz PySem.F.slot_str_lower PySem.F.type_str_lower ua (pv 0)) (pv 1) (by with_unfolding_all rfl)))) (fun _ _ _ _=>(pv 0))))))),?_⟩
 obtain ⟨y,sm,rfl,hl,hz,q⟩:=h
 have hs:(1000:Nat)<sizeLine:=by decide
 refine ⟨rfl,_,rfl,y,rfl,?_⟩
 refine let iD:Nat->List V->Hp->Prop:=(fun i acc H'=>ay H H'/\acc=bw ((y.take i).filter (kept sm)));fP (xs:=bw y) iD (by rw[aN];omega) ⟨ay.refl H,rfl⟩ ?_ ?_
 ·rintro i x acc H1 Nx hi hx iE ⟨s1,rfl⟩ nx
  obtain ⟨c,hc,rfl⟩:=dN hx
  have e:=fB (p:=kept sm) hc
  rw[show kept sm c=decide (PyProof.Rows.lo1 c∈sm) from rfl]at e
  refine ⟨⟨rfl,trivial⟩,?_⟩
  refine ⟨_,rfl,rfl,c,rfl,rfl,hl c (Xo hc),_,rfl,_,_,rfl,rfl,_,rfl,?_⟩
  refine gO (fun z=>?_) (fun z=>?_)
  ·rw[if_pos z]at e
   exact ⟨_,rfl,nx _ _ (by simpa using iE) ⟨s1,by rw[e, <-cI]⟩⟩
  ·rw[if_neg z,XA]at e
   exact nx _ _ (YR iE) ⟨s1,by rw[e]⟩
 ·rintro acc H1 D iE ⟨s1,rfl⟩ hD
  rw[ff,cU]
  have QI:(y.filter (kept sm)).length<=y.length:=Y2 _ _
  refine ⟨D,(y.filter (kept sm)).map fun c=>[c],rfl,rfl,a_.of ah,by rw[wB];omega,?_⟩
  rw[nL]
  exact q _ (s1.trans (ay.upd hD))
theorem Av:bp P w K mg base dB 2 f1 d1 ["word"] (qy K):=by
 have cf:=eF (P:=P) (w:=w) (base:=base) T
 refine T.F1.fn.ok Ak (fun vs H Q E h=>wA h) (fun cE A outer s H vs Q E hr h=>?_)
 refine ⟨_,(aj (aI (bK K rfl Xz YK YJ (fQ K rfl) (gQ [] (by decide+kernel)) (aa (dc ["letter"] [none] (Bo rfl T.z_reversed (aa (pv 0))) trivial (fun _ _ _ _=>(aG (i:=0) (by decide+kernel:List.Nodup (["letter"]:List Str)) rfl (Or.inl rfl))) (fun _ _ _ _=>fJ) (fun _ _ _ _=>(ag cf T.F0 hr (aa (pv 0))))))))),?_⟩
 obtain ⟨l,rfl,hc,hz,q⟩:=h
 have hs:(1000:Nat)<sizeLine:=by decide
 refine ⟨rfl,_,rfl,l,rfl,by lia,?_⟩
 rw[x6]
 refine let iD:Nat->List V->Hp->Prop:=(fun i acc H'=>ay H H'/\acc=bw ((l.reverse.take i).map ax));fP (xs:=bw l.reverse) iD (by rw[aN,Xq];lia) ⟨ay.refl H,rfl⟩ ?_ ?_
 ·rintro i x acc H1 Nx hi hx hl ⟨s1,rfl⟩ nx
  obtain ⟨c,o9,rfl⟩:=dN hx
  refine ⟨trivial,eP ⟨_,rfl,c,rfl,hc c (XQ.mp (Xo o9)),nx _ _ (by simpa using hl) ⟨s1,?_⟩⟩⟩
  rw[cI, <-take_snoc o9,XJ]
  rfl
 ·rintro acc H1 D hl ⟨s1,rfl⟩ hD
  refine ⟨D,(bD l).map fun c=>[c],rfl,rfl,a_.of ?_,?_,?_⟩
  ·rw[ah, <-cU,aN,WJ (Rv _),ZL]
   rfl
  ·rw[wB]
   unfold bD
   rw[Xq,WH]
   lia
  ·rw[nL]
   exact q _ (s1.trans (ay.upd hD))
theorem FN:bp P w K mg base dB 5 f7 d7 ["word"] (yf K):=by
 have tu:=yQ (P:=P) (w:=w) (base:=base) T
 have DG:=Av (P:=P) (w:=w) (base:=base) T
 refine T.F7.fn.ok Fz (fun vs H Q E h=>Cp h) (fun cE A outer s H vs Q E hr h=>?_)
 refine ⟨_,(aj (aI (aH (nk rfl) rfl T.z_min boot_min (ai (ag tu T.F6 hr (aa (pv 0))) (aa (ag tu T.F6 hr (aa (ag DG T.F1 hr (aa (pv 0)))))))))),?_⟩
 obtain ⟨l,rfl,hl,hz,q⟩:=h
 refine ⟨_,rfl,l,rfl,hl,hz,fun H1 s1=>?_⟩
 refine ⟨_,rfl,l,rfl,uE hl,hz,fun H2 s2=>?_⟩
 refine ⟨bD l,rfl,kX hl,by rw[cC];exact hz,fun H3 s3=>?_⟩
 exact ⟨_,_,rfl,q _ ((s1.trans s2).trans s3)⟩
theorem xt:bp P w K mg base dB 5 f8 d8 ["words"] (oP K):=by
 refine T.L8.ok xj (fun vs H Q E h=>va h) (fun cE A outer s H vs Q E hh hr h=>?_)
 refine ⟨_,(aj (aI (uz (x:="word") K rfl rfl rfl T.z_sorted boot_sorted (aa (pv 0)) (B9 rfl hh (x4.bm (base:=base) (mg:=mg)) rfl rfl rfl) (uA T.z_len ⟨rfl,rfl,rfl,by decide+kernel,rfl,by decide+kernel,by decide+kernel⟩ rfl rfl (by decide) (by decide) (fun _ _ _ us hl=>match us,hl with | [_],_=>rfl)) (cF.in1 (cF.in1 (hr.mono (by decide))))))),?_⟩
 obtain ⟨d,aJ,ws,rfl,hd,hk,hl,hw,hT,q⟩:=h
 refine ⟨_,rfl,d,ws,rfl, .NT aJ hd hk,by lia,fun w hm=>by have:=hw w hm;lia,hT.at_ T.eY,fun t H9 us sT V5 nt ht pw ord=>?_⟩
 exact q t us H9 (sT.imp fun b e=>by rw[e];exact T.eY) (.mk T.eY V5) nt ht pw ord
theorem lZ:bp P w K mg base dB 6 JO Ki ["yard"] (lY K):=by
 have ko:=o8 (P:=P) (w:=w) (base:=base) T
 have xr:=yR (P:=P) (w:=w) (base:=base) T
 have DH:=Au (P:=P) (w:=w) (base:=base) T
 have Jk:=FN (P:=P) (w:=w) (base:=base) T
 have Aw:=xt (P:=P) (w:=w) (base:=base) T
 refine T.KN.fn.ok d_ (fun vs H Q E h=>sO h) (fun cE A outer s H vs Q E hr h=>?_)
 refine let Z4:TS:=_;let Z3:TS:=_;let Z2:TS:=_;let Z1:TS:=_;let Z0:TS:=_;⟨_,(ae (aw (i:=1) d_.nd (ag ko T.F2 hr (aa (pv 0))))
   (af Z0 (ae (aw (i:=2) d_.nd ui)
   (af Z1 (ae (dz PassesOwn.never rfl (kD rfl T.z_range (ai ak (aa (aC bP (aH aQ rfl T.z_len XR (aa (pv 1))) ak)))) (aG (i:=3) d_.nd rfl (Or.inl rfl)) (af Z2 (aj (dz PassesOwn.never rfl (hJ K rfl (ag xr T.Qw hr (aa (ag DH T.F3 hr (ai (pv 0) (aa (br jJ (pv 1) b_ (bz (pv 3))))))))) (aG (i:=4) d_.nd rfl (Or.inl rfl)) (af Z3 (aj (xP (Bb hr) (pv 2) (ag Jk T.F7 hr (aa (pv 4))) i4 rfl)))))))
   (af Z4 (aj (aI (ag Aw T.F8 hr (aa (pv 2))))))))))),?_⟩
 obtain ⟨y,rfl,hy,h2,h8,hT,q⟩:=h
 have hs:(1000:Nat)<sizeLine:=by decide
 have KP: ∀c∈y,c<128:=uE hy.lt
 refine ⟨_,rfl,y,rfl,KP,by lia,fun nm H1 Jh FG s1=>?_⟩
 have s:=ck.of hy Jh
 have hh:=fo hy
 have M9:=Jh.length_eq
 refine fun d nd=>?_
 have QQ:H d=none:=ay.free s1 nd
 refine ⟨_,rfl,nm,rfl,by lia,_,_,rfl,rfl,_,_,rfl,⟨by decide,by decide,by lia,by lia⟩,?_⟩
 have en:((nm.length:Int)+1 - 1).toNat=nm.length:=by lia
 refine let iD:Nat->L2.St->Hp->Prop:=(fun i σ H'=> ∃(aJ:List (Key×V)) (ws:List (List Nat)) (cv rv:Option V),σ=[some (.str (S y)),some (.str (S nm)),some (.ref d),cv,rv]/\H' d=some (.dK aJ)/\(aJ.map (·.1)=ws.map fun l=>Sum.inr (S l))/\qW y nm i (fun _=>False) ws/\ws.length<=8*i/\ay H H');eR iD ⟨[],[],none,none,rfl,ah,rfl,⟨Yk,fun w=>⟨fun g=>absurd g Xl,fun g=>g.elim (fun g=>absurd g FL.zero) False.elim⟩⟩,Rv _,s1.trans (ay.upd nd)⟩ ?_ ?_
 ·rintro i σ H2 hi ⟨aJ,ws,cv,rv,rfl,hd,hk,hW,hl,s2⟩
  have e1:(1:Int)+(i:Int)=((i+1:Nat):Int):=by lia
  rw[e1]
  have AF:i<nm.length:=by lia
  have st:=s.take (i+1)
  have hz:=hy.within st.ph
  have M_:=st.len hy
  rw[Rt,X6 (by lia)]at M_
  have ec:cut nm none (some ((i+1:Nat):Int))=nm.take (i+1):=de nm (i+1)
  refine ⟨_,rfl,_,rfl,_,rfl,_,rfl,nm,rfl,by lia,y,cut nm none (some ((i+1:Nat):Int)),rfl,KP,by lia,fun H3 s3=>?_⟩
  rw[ec]
  refine ⟨_,rfl,hz,by lia,by lia,fun p L H4 hr np hp s4=>?_⟩
  have h_:=hr.h_
  have hR:=fun v=>FL.rims (v:=v) hy s AF hr
  have W7:=hr.lt hz
  have Ji: ∀r∈L, ∀c∈r,Lt c:=fun r QN c hc=>by
   obtain ⟨us,pu,qu,_⟩:=hr
   obtain ⟨u,hu,rfl⟩:=XH.mp (qu.mem_iff.mp QN)
   exact hz.lt c ((pu.eG u hu).2 c (((kg hz (by lia) (pu.eG u hu).1 (pu.eG u hu).2).1 c).mp hc))
  have V6:=s4 _ _ (s3 _ _ hd)
  have pd:p≠d:=fun e=>by rw[e,s3 _ _ hd]at np;cases np
  refine ⟨p,rfl,⟨_,a_.of hp⟩,?_⟩
  refine let DE:Nat->L2.St->Hp->Prop:=(fun j σ H'=> ∃(aJ:List (Key×V)) (ws:List (List Nat)) (rv:Option V),σ=[some (.str (S y)),some (.str (S nm)),some (.ref d),some (.int ((i+1:Nat):Int)),rv]/\H' d=some (.dK aJ)/\(aJ.map (·.1)=ws.map fun l=>Sum.inr (S l))/\qW y nm i (fun v=> ∃w∈L.take j,v=aY w) ws/\ws.length<=8*i+j/\H' p=some (.lst (b0 L))/\ay H H');tP (K:=K) (a:=p) (xs:=b0 L) DE ⟨aJ,ws,rv,rfl,V6,hk,hW.congr fun v=>⟨False.elim,fun ⟨w,hw,_⟩=>absurd hw (by simp)⟩,by lia,hp,(s2.trans s3).trans s4⟩ (fun j σ H' _ h=>by obtain ⟨_,_,_,_,_,_,_,_,g,_⟩:=h;exact a_.of g) ?_ ?_
  ·rintro j x σ H5 hx ⟨aJ,ws,rv,rfl,QU,N_,Nd,To,Nf,s5⟩
   obtain ⟨r,Jj,rfl⟩:=iQ hx
   have N8:=Xo Jj
   have hj:=(Ru.mp Jj).1
   have f1:=h_.1
   refine ⟨_,rfl,_,rfl,r,rfl,Ji r N8,by have:=h_.2 r N8;lia,fun H6 s6=>?_⟩
   obtain ⟨kz,Gf,QV,PV,G2⟩:=Dk N_ Nd.nd (aY r) (.bl true)
   refine ⟨d,_,rfl,zq.k (k:=Sum.inr (S (aY r))) (s6 _ _ QU) (by have:=congrArg List.length N_;rw[WH,WH]at this;lia),?_⟩
   refine ⟨_,kz,_,rfl,ah,Gf,⟨QV,fun v=>?_⟩,by lia,by rw[ao pd];exact s6 _ _ Nf,fun a o ea=>by rw[ao (aA ea QQ)];exact s6 _ _ (s5 a o ea)⟩
   rw[PV,Nd.mem, <-take_snoc Jj,or_assoc]
   refine or_congr_right ⟨?_,?_⟩
   ·rintro (⟨w,hw,e⟩ | e)
    ·exact ⟨w,Xx _ hw,e⟩
    ·exact ⟨r,by simp,e⟩
   ·rintro ⟨w,hw,e⟩
    rcases T3.mp hw with g | g
    ·exact .inl ⟨w,g,e⟩
    ·exact .inr (by rw[e,Hy.mp g])
  ·rintro σ H5 ⟨aJ,ws,rv,rfl,QU,N_,Nd,To,Nf,s5⟩
   rw[bO,Yz]at Nd
   rw[bO]at To
   exact ⟨aJ,ws,_,_,rfl,QU,N_,Nd.next hR,by lia,s5⟩
 ·rintro σ H2 ⟨aJ,ws,cv,rv,rfl,hd,hk,hW,hl,s2⟩
  rw[en]at hW hl
  have hlen:=hW.len hy s (Rv _) (fun _ h=>h.elim)
  refine ⟨_,rfl,d,aJ,ws,rfl,hd,hk,by lia,fun w hw=>by have:=(hlen w hw).2;lia,hT.same s2,fun t us H3 sT QP nt ht pm o=>?_⟩
  exact q t us H3 ((bo.of s2).trans sT) QP (ay.free s2 nt) ht (hW.done Jh FG pm o) (by rw[pm.length_eq];lia)
theorem Ax:bp P w K mg base dB 8 Kc KJ ["_law_yard_here"] (qX K):=by
 have FO:=DC (P:=P) (w:=w) (base:=base) T
 have Jl:=FJ (P:=P) (w:=w) (base:=base) T
 have tp:=vm (P:=P) (w:=w) (base:=base) T
 have dJ:=lZ (P:=P) (w:=w) (base:=base) T
 refine T.S6.fn.ok gc (fun vs H Q E h=>w6 h) (fun cE A outer s H vs Q E hr h=>?_)
 refine let M3:TS:=_;let Z9:TS:=_;let Z8:TS:=_;let Z7:TS:=_;let Z6:TS:=_;let Z5:TS:=_;let Z4:TS:=_;let Z3:TS:=_;let Z2:TS:=_;let Z1:TS:=_;let Z0:TS:=_;⟨_,(ae (aw (i:=1) gc.nd (ag FO T.VG hr (aa (pv 0))))
   (af Z0 (ae (aw (i:=2) gc.nd (aC e_ (aH aQ rfl T.z_len XR (aa (pv 0))) ak))
   (af Z1 (ae (aw (i:=3) gc.nd (ag Jl T.SN hr (aa (pv 0))))
   (af Z2 (ae (cK (PW.pt (p6 (q9 (ji (aH nz rfl T.z_isinstance boot_isinstance (ai (pv 3) (aa (q0 (v:= .ty "int") rfl T.z_int boot_int rfl)))))) (kC (ji (aH nz rfl T.z_isinstance boot_isinstance (ai (pv 3) (aa (q0 (v:= .ty "bool") rfl T.z_bool boot_bool rfl)))))))) (af Z3 (aj (aI i4))) bY)
   (af Z4 (ae (cK (PW.pt (p6 (aM Bs (pv 3) (aC c_ (aC c_ (aC gX ak (pv 2)) ak) (aC e_ (aC c_ (aC bP (pv 2) ak) (dU K T.z_len (ag tp T.QB hr (aa (pv 0))))) ak)) (aR _)) (kC (aM Bs (pv 3) (dU K T.z_len (pv 1)) (aR _))))) (af Z5 (aj (aI i4))) bY)
   (af Z6 (ae (aw (i:=4) gc.nd (ag dJ T.KN hr (aa (pv 0))))
   (af Z7 (ae (cK (PW.pt (p6 (q9 (ji (aH (ud K rfl) rfl T.z_isinstance boot_isinstance (ai (pv 4) (aa (q0 (v:= .ty "list") rfl T.z_list boot_list rfl)))))) (kC (aM (Bx K rfl hr) (pv 4) (pv 1) (aR _))))) (af Z8 (aj (aI i4))) bY)
   (af Z9 (ae (eM (gq K rfl XW PySem.F.slot_list_reverse PySem.F.type_list_reverse vS (pv 4)))
   (af M3 (aj (aI (gm (Bw K rfl hr) (ag dJ T.KN hr (aa (pv 0))) (pv 1) (aR _)))))))))))))))))))),?_⟩
 obtain ⟨y,rfl,hy,h2,h8,V7,V8,q⟩:=h
 have hs:(1000:Nat)<sizeLine:=by decide
 have Oa:cn≠dW:=fun e=>(XD.mp T.tn).1 (by rw[e];exact NB)
 refine ⟨_,rfl,y,rfl,hy,h2,h8,V8,fun td D H1 sf QW W8 V9 hD=>?_⟩
 have QX:=V7.off T.eY T.iS Oa sf
 have V_:bo (FT K) H H1:=sf.imp fun b e=> .inr e
 refine ⟨_,rfl,y,rfl,by lia,_,_,rfl,rfl,⟨by decide,by decide⟩,?_⟩
 refine ⟨_,rfl,y,rfl,hy,h2,h8,fun L H2 hL s2=>?_⟩
 obtain ⟨rs,pr,pe,_⟩:=hL
 have Wa:L.length=rs.length:=by rw[pe.length_eq,WH]
 have hm:=hD.many hy h2 pr
 have hh:=fo hy
 have Wb:=hD.h_ hy h2 h8 pr
 have ev: ∀L:List (List Nat),L.length=rs.length->2*((y.length:Int) / 2) - 1 - (((y.length:Int) / 2+1 - (L.length:Int)) / 2)=(D.length:Int):=fun L e=>by rw[e];lia
 rw[ev L Wa]
 refine ⟨_,rfl,_, .inl ⟨rfl,_,rfl,dE rfl ?_⟩⟩
 refine ⟨_,rfl,_, .inr ⟨rfl,_,rfl,dE rfl ?_⟩⟩
 refine ⟨_,rfl,_,rfl,_,_,rfl,rfl, .inl ⟨by decide,by decide⟩,_,_,rfl,rfl,_,rfl,_,_,rfl,rfl,_,rfl,y,rfl,hy,h2,h8,fun pq L2 H3 QH Wc W9 IE s3=>?_⟩
 have e2:L2.length=rs.length:=by have:=(QH.perm hy h2 pr).length_eq;simpa using this
 refine ⟨pq,_,rfl, .inl (a_.of IE),_,_,rfl,rfl,_,_,rfl,rfl,⟨by decide,by decide⟩,_,_,rfl,rfl,_,_,rfl,rfl,_,rfl,?_⟩
 rw[bO]
 refine dE (by rw[decide_eq_true (show (D.length:Int)=2*((y.length:Int) / 2) - 1 - (((y.length:Int) / 2+1 - (L2.length:Int)) / 2) from (ev L2 e2).symm)];rfl) ?_
 have Ng:=s2.trans s3
 have Jm:=Ng _ _ V9
 refine ⟨_,rfl,_,rfl,td,_,rfl, .inl (a_.of Jm),_,_,rfl,rfl,_,rfl,dE (by rw[bO,decide_eq_true rfl];rfl) ?_⟩
 have Tp:bo (FT K) H H3:=V_.trans (.of Ng)
 refine ⟨_,rfl,y,rfl,hy,h2,h8,QX.same Ng,fun tf F H4 sb QY Tq KQ hF _=>?_⟩
 obtain rfl:=hD.same hy hF
 have QZ:=(QW.same Ng).off T.iS T.eY (Ne.symm Oa) sb
 have Wd:=Tp.trans (sb.imp fun b e=> .inl e)
 have Nh:=sb.get Jm
 refine ⟨_,rfl,tf,_,rfl,KQ,_,rfl,?_⟩
 refine dE rfl ?_
 refine ⟨_,rfl,_,rfl,_,_, .lst (a_.of KQ) (fi _), .lst (a_.of Nh) (fi _),⟨hD.lay hy,hD.lay hy⟩,w4 _,_,rfl,dE (by rw[w5];rfl) ?_⟩
 have Q0:H tf=none:=Tp.free Tq
 have We:td≠tf:=aA Jm Tq
 refine ⟨_,rfl, .inl ⟨rfl,_,a_.of KQ⟩,tf,_,rfl,rfl,KQ,?_⟩
 have Ni:upd H4 tf (.lst (b0 D).reverse) td=some (.lst (b0 D)):=by rw[ao We];exact Nh
 have Tr:bo (FT K) H (upd H4 tf (.lst (b0 D).reverse)):=fun b o e=>by
  have nb:b≠tf:=aA e Q0
  rw[ao nb]
  exact Wd b o e
 have Nj:cb K (upd H4 tf (.lst (b0 D).reverse)):=u_ QY KQ
 have Nk:fc K (upd H4 tf (.lst (b0 D).reverse)):=u_ QZ KQ
 generalize upd H4 tf (.lst (b0 D).reverse)=H5 at Ni Tr Nj Nk ⊢
 refine ⟨_,rfl,y,rfl,hy,h2,h8,Nj,fun tg G H6 sg Q1 W_ Wf hG _=>?_⟩
 obtain rfl:=hD.same hy hG
 have Q2:=Nk.off T.iS T.eY (Ne.symm Oa) sg
 refine ⟨_,rfl,_,_, .lst (a_.of Wf) (fi _), .lst (a_.of (sg.get Ni)) (fi _),⟨hD.lay hy,hD.lay hy⟩,w4 _,?_⟩
 rw[w5]
 exact q H6 (Tr.trans (sg.imp fun b e=> .inl e)) Q1 Q2
theorem FP:bp P w K mg base dB 1 JW Kq ["_law_word","_law_at","_law_way"] (yF K):=by
 refine T.M1.fn.ok FC (fun vs H Q E h=>Df h) (fun cE A outer s H vs Q E hr h=>?_)
 refine ⟨_,(aj (aI (kF (ai (gQ [] (by decide+kernel)) (ai (pv 0) (ai (pv 1) (aa (pv 2)))))))),?_⟩
 obtain ⟨w',i,d,rfl,q⟩:=h
 refine ⟨_,rfl,_,rfl,_,rfl,by show 4<=sizeLine;decide,fun p np=>q p np⟩
theorem xu:bp P w K mg base dB 3 JZ Kt ["_law_one","_law_other_here","_law_k"] (oK K):=by
 have bj:=jx (P:=P) (w:=w) (base:=base) T
 have bM:=cW (P:=P) (w:=w) (base:=base) T
 refine T.N3.fn.ok o6 (fun vs H Q E h=>u6 h) (fun cE A outer s H vs Q E hr h=>?_)
 refine let Z1:TS:=_;let Z0:TS:=_;⟨_,(ae (cJ PassesOwn.never (aM gp (ag bj T.yM hr (ai (pv 0) (aa (pv 2)))) (ag bj T.yM hr (ai (pv 1) (aa (pv 2)))) (aR _)) (af Z0 (aj (aw (i:=2) o6.nd (aC bP (pv 2) ak)))))
   (af Z1 (aj (aI (kF (ai (pv 2) (aa (ag bM T.Fy hr (aa (ag bj T.yM hr (ai (pv 0) (aa (aC c_ (pv 2) ak))))))))))))),?_⟩
 obtain ⟨p,q,w',v,f,g,n,rfl,hp,hq,lw,lv,h0,hd,Qk⟩:=h
 have hs:(100000:Nat)<sizeLine:=by decide
 obtain ⟨_,_,d3,_⟩:=jX f g n 0
 have Xa:0<fD f g n 0:=Nat.pos_of_ne_zero fun z=>hd (by rw[z];exact h0)
 generalize fD f g n 0=D at*
 refine ⟨fun m σ H'=> ∃k:Nat,σ=[some (.ref p),some (.ref q),some (.int k)]/\m=D - k/\k<=D/\H'=H,⟨_,0,rfl,rfl,XI _,rfl⟩,?_⟩
 rintro m σ H2 ⟨k,rfl,rfl,hk,rfl⟩
 refine ⟨_,rfl,_,rfl,p,w',f,k,rfl,hp,lw,_,rfl,_,rfl,q,v,g,k,rfl,hq,lv,_,_,rfl,rfl,_,rfl,?_⟩
 by_cases z:k<D
 ·refine iZ (decide_eq_true (by rw[d3 k (XI _) z])) ?_
  refine ⟨_,rfl,_,_,rfl,rfl,D - (k+1),by omega,k+1,rfl,rfl,z,rfl⟩
 ·have e:k=D:=by omega
  subst e
  refine dE (decide_eq_false fun x=>hd (by simpa using x)) ?_
  refine ⟨_,rfl,_,rfl,_,rfl,_,_,rfl,rfl,p,w',f,k - 1,?_,hp,lw,_,rfl,hp.lt lw _,by show 2<=sizeLine;decide,fun t nt=>?_⟩
  ·show [V.ref p,V.int ((k:Int) - 1)]=_
   rw[show (k:Int) - 1=((k - 1:Nat):Int) by omega]
  ·have:=Qk t nt
   rw[show (k:Int) - 1=((k - 1:Nat):Int) by omega]at this
   exact this
theorem Ay:bp P w K mg base dB 1 JY Ks ["_law_yard_here","_law_x","_law_y","_law_z"] (qK K):=by
 refine T.SV.fn.ok lJ (fun vs H Q E h=>wO h) (fun cE A outer s H vs Q E hr h=>?_)
 refine let Z1:TS:=_;let Z0:TS:=_;⟨_,(ae (aw (i:=4) lJ.nd (bK K rfl Xz Yt Ys dD (pv 0) (aa (pv 1))))
   (af Z0 (ae (aw (i:=5) lJ.nd (aC fv (br jJ (pv 0) (bz (pv 4)) b_) (br jJ (pv 0) b_ (bz (pv 4)))))
   (af Z1 (aj (aI (gm A0 (bK K rfl Xz Yt Ys dD (pv 5) (aa (pv 2))) (bK K rfl Xz Yt Ys dD (pv 5) (aa (pv 3))) (aR _)))))))),?_⟩
 obtain ⟨y,a,b,c,rfl,hn,ha,hb,hc,hz,q⟩:=h
 have hs:(100000:Nat)<sizeLine:=by decide
 have hlen:(cut y (some ((y.idxOf a:Nat):Int)) none).length+(cut y none (some ((y.idxOf a:Nat):Int))).length<=sizeLine:=by rw[de,cO,Xi,Rt];lia
 have xm:cut y (some ((y.idxOf a:Nat):Int)) none++cut y none (some ((y.idxOf a:Nat):Int))=y.drop (y.idxOf a)++y.take (y.idxOf a):=by rw[de,cO]
 have hm: ∀e∈y,e∈y.drop (y.idxOf a)++y.take (y.idxOf a):=fun e he=>XE.mem_iff.mp (by rw[T5];exact he)
 refine ⟨_,rfl,rfl,_,rfl,y,a,rfl,rfl,ha,?_⟩
 refine ⟨_,rfl,_,rfl,_,rfl,y,rfl,by lia,_,rfl,_,rfl,_,rfl,y,rfl,by lia,_,_,rfl,rfl,hlen,?_⟩
 rw[xm]
 refine ⟨_,rfl,rfl,_,rfl,_,b,rfl,rfl,hm b hb,_,rfl,rfl,_,rfl,_,c,rfl,rfl,hm c hc,_,_,rfl,rfl,?_⟩
 rw[<-CH hn ha hb hc]at q
 exact q
theorem Az:bp P w K mg base dB 4 J0 Ku ["_law_yard_here","_law_one","_law_other_here","_law_third"] (qQ K):=by
 have bj:=jx (P:=P) (w:=w) (base:=base) T
 have lL:=xu (P:=P) (w:=w) (base:=base) T
 have DI:=Ay (P:=P) (w:=w) (base:=base) T
 refine T.Qx.fn.ok aZ (fun vs H Q E h=>wX h) (fun cE A outer s H vs Q E hr h=>?_)
 refine let Wg:TS:=_;let Wh:TS:=_;let Wi:TS:=_;let Wj:TS:=_;let M3:TS:=_;let Z9:TS:=_;let Z8:TS:=_;let Z7:TS:=_;let Z6:TS:=_;let Z5:TS:=_;let Z4:TS:=_;let Z3:TS:=_;let Z2:TS:=_;let Z1:TS:=_;let Z0:TS:=_;⟨_,(ae (aw (i:=4) aZ.nd ak)
   (af Z0 (ae (g_ (i:=5) ["_law_ray_here","_law_k"] [none,some 4] aZ.nd rfl (Or.inl rfl) (rG K rfl (kF (ai (pv 1) (ai (pv 2) (aa (pv 3)))))) ⟨⟨rfl,rfl,by first | exact .inl rfl | exact .inr rfl⟩,trivial⟩ (fun _ _ _ _=>(aG (i:=0) (by decide+kernel:List.Nodup (["_law_ray_here","_law_k"]:List Str)) rfl (Or.inl rfl))) (fun _ _ _ _=>fJ) (fun _ _ _ _=>(ag bj T.yM hr (ai (pv 0) (aa (pv 1))))))
   (af Z1 (ae (cJ PassesOwn.never (aM Br (aH uj rfl T.z_len XR (aa (kG (zx K rfl rfl) rfl T.z_set boot_set (aa (pv 5))))) ak (aR _)) (af Z2 (ae (aw (i:=4) aZ.nd (aC bP (pv 4) ak))
   (af Z3 (aj (g_ (i:=5) ["_law_ray_here","_law_k"] [none,some 4] aZ.nd rfl (Or.inl rfl) (rG K rfl (kF (ai (pv 1) (ai (pv 2) (aa (pv 3)))))) ⟨⟨rfl,rfl,by first | exact .inl rfl | exact .inr rfl⟩,trivial⟩ (fun _ _ _ _=>(aG (i:=0) (by decide+kernel:List.Nodup (["_law_ray_here","_law_k"]:List Str)) rfl (Or.inl rfl))) (fun _ _ _ _=>fJ) (fun _ _ _ _=>(ag bj T.yM hr (ai (pv 0) (aa (pv 1)))))))))))
   (af Z4 (ae (jj (pv 5) (EA (n:=3) K rfl rfl (bJ (aG (i:=6) aZ.nd rfl (Or.inl rfl)) (bJ (aG (i:=7) aZ.nd rfl (Or.inl rfl)) (bJ (aG (i:=8) aZ.nd rfl (Or.inl rfl)) iF)))))
   (af Z5 (ae (cK (aM gp (pv 6) (pv 7) (aR _)) (af Z6 (ae (jj (ag lL T.N3 hr (ai (pv 1) (ai (pv 2) (aa (pv 4))))) (jL (n:=2) K rfl rfl (bJ (aG (i:=9) aZ.nd rfl (Or.inl rfl)) (bJ (aG (i:=10) aZ.nd rfl (Or.inl rfl)) iF))))
   (af Z7 (aj (rQ (i:=6) (j:=7) (k:=8) rfl aZ.nd rfl rfl rfl (by decide) rfl rfl rfl (ai (ag bj T.yM hr (ai (pv 1) (aa (pv 9)))) (ai (ag bj T.yM hr (ai (pv 2) (aa (pv 9)))) (aa (pv 10)))) rfl))))) (af Z8 (aj (cK (aM gp (pv 7) (pv 8) (aR _)) (af Z9 (ae (jj (ag lL T.N3 hr (ai (pv 2) (ai (pv 3) (aa (pv 4))))) (jL (n:=2) K rfl rfl (bJ (aG (i:=9) aZ.nd rfl (Or.inl rfl)) (bJ (aG (i:=10) aZ.nd rfl (Or.inl rfl)) iF))))
   (af M3 (aj (rQ (i:=6) (j:=7) (k:=8) rfl aZ.nd rfl rfl rfl (by decide) rfl rfl rfl (ai (pv 10) (ai (ag bj T.yM hr (ai (pv 2) (aa (pv 9)))) (aa (ag bj T.yM hr (ai (pv 3) (aa (pv 9))))))) rfl))))) (af Wj (aj (cK (aM gp (pv 6) (pv 8) (aR _)) (af Wi (ae (jj (ag lL T.N3 hr (ai (pv 1) (ai (pv 3) (aa (pv 4))))) (jL (n:=2) K rfl rfl (bJ (aG (i:=9) aZ.nd rfl (Or.inl rfl)) (bJ (aG (i:=10) aZ.nd rfl (Or.inl rfl)) iF))))
   (af Wh (aj (rQ (i:=6) (j:=7) (k:=8) rfl aZ.nd rfl rfl rfl (by decide) rfl rfl rfl (ai (ag bj T.yM hr (ai (pv 1) (aa (pv 9)))) (ai (pv 10) (aa (ag bj T.yM hr (ai (pv 3) (aa (pv 9))))))) rfl))))) bY)))))))
   (af Wg (aj (aI (ag DI T.SV hr (ai (pv 0) (ai (pv 6) (ai (pv 7) (aa (pv 8)))))))))))))))))),?_⟩
 obtain ⟨y,p,q,r,w',v,u,f,g,h,n,rfl,hy,hz,hp,hq,Wl,lw,lv,lu,fy,gy,Wm,fh,gh,hd,Qk⟩:=h
 have hs:(100000:Nat)<sizeLine:=by decide
 refine ⟨_,rfl,_,rfl,_,rfl,by show 3<=sizeLine;decide,fun t nt=>?_⟩
 have ht:upd H t (.tup [.ref p, .ref q, .ref r]) t=some (.tup [.ref p, .ref q, .ref r]):=ah
 have s1:=ay.upd (o:= .tup [.ref p, .ref q, .ref r]) nt
 generalize upd H t (.tup [.ref p, .ref q, .ref r])=H1 at ht s1 ⊢
 refine ⟨t,rfl,⟨_,me.of ht⟩,?_⟩
 refine let iD:Nat->List V->Hp->Prop:=(fun n acc H'=>H'=H1/\acc=(bw [f 0,g 0,h 0]).take n);ue (K:=K) (a:=t) (xs:=[.ref p, .ref q, .ref r]) iD (by show 3<sizeLine;decide) (fun n acc H' h=>by rw[h.1];exact me.of ht) ⟨rfl,rfl⟩ ?_ ?_
 ·rintro n x acc H5 Nx hn hx iE ⟨rfl,rfl⟩ nx
  refine ⟨⟨rfl,trivial⟩,eP ?_⟩
  have key: ∃(a:Addr) (l:List Nat) (F:Int->Nat),x= .ref a/\iu H5 a l F/\DW l/\(bw [f 0,g 0,h 0])[n]? =some (.str (S [F 0])):=by
   rcases n with _ | _ | _ | n
   ·exact ⟨p,w',f,(WK hx).symm,hp.same s1,lw,rfl⟩
   ·exact ⟨q,v,g,(WK hx).symm,hq.same s1,lv,rfl⟩
   ·exact ⟨r,u,h,(WK hx).symm,Wl.same s1,lu,rfl⟩
   ·exact absurd hn (by show ¬n+1+1+1<3;omega)
  obtain ⟨a,l,F,rfl,ra,la,e⟩:=key
  refine ⟨_,rfl,_,rfl,a,l,F,0,rfl,ra,la,nx _ _ (by simpa using iE) ⟨rfl,?_⟩⟩
  exact take_snoc e
 rintro acc H5 D iE ⟨rfl,rfl⟩ hD
 rw[show (bw [f 0,g 0,h 0]).take [V.ref p,V.ref q,V.ref r].length=bw [f 0,g 0,h 0] from rfl]
 have KR:upd H5 D (.lst (bw [f 0,g 0,h 0])) D=some (.lst (bw [f 0,g 0,h 0])):=ah
 have s2:=s1.trans (ay.upd (o:= .lst (bw [f 0,g 0,h 0])) hD)
 generalize upd H5 D (.lst (bw [f 0,g 0,h 0]))=H6 at KR s2 ⊢
 have Sa:(dd [] ([[f 0],[g 0],[h 0]].map S)).length≠1:=fun z=>by
  have s0: ∀{a b:Nat},S [a]=S [b]->a=b:=fun {a b} e=>by
   have:=congrArg (fun x:Str=>x.cps.toList) e
   simpa [S]using this
  have e:dd [] ([[f 0],[g 0],[h 0]].map S)=dd [] [S [f 0],S [g 0],S [h 0]]:=rfl
  rw[e]at z
  unfold dd at z
  rw[if_neg (by simp)]at z
  unfold dd at z
  by_cases q1:g 0=f 0
  ·rw[if_pos (by rw[q1];simp)]at z
   unfold dd at z
   rw[if_neg (show ¬S [h 0]∈([]++[S [f 0]]:List Str) from fun q=>fh (s0 (Hy.mp q)).symm)]at z
   unfold dd at z
   simp at z
  ·rw[if_neg (show ¬S [g 0]∈([]++[S [f 0]]:List Str) from fun q=>q1 (s0 (Hy.mp q)))]at z
   unfold dd at z
   split at z
   ·unfold dd at z;simp at z
   ·unfold dd at z;simp at z
 refine ⟨fun m σ H'=>m=0/\σ=[some (.str (S y)),some (.ref p),some (.ref q),some (.ref r),some (.int 0),some (.ref D),none,none,none,none,none]/\H'=H6,⟨0,rfl,rfl,rfl⟩,?_⟩
 rintro m σ H7 ⟨rfl,rfl,rfl⟩
 refine ⟨_,rfl,D,[[f 0],[g 0],[h 0]],rfl,a_.of KR,by show 3<=20;decide,fun t2 Q3=>?_⟩
 refine ⟨t2,_,rfl,ah,XG (wc _ _) (by show 0+3<=1000;decide),_,_,rfl,rfl,_,rfl,dE (decide_eq_false (by omega)) ?_⟩
 have s3:=s2.trans (ay.upd (o:=wd t2 (dd [] ([[f 0],[g 0],[h 0]].map S)).length) Q3)
 have Ob:upd H7 t2 (wd t2 (dd [] ([[f 0],[g 0],[h 0]].map S)).length) D=some (.lst (bw [f 0,g 0,h 0])):=(ay.upd Q3) D _ KR
 generalize upd H7 t2 (wd t2 (dd [] ([[f 0],[g 0],[h 0]].map S)).length)=H8 at s3 Ob ⊢
 refine ⟨_,rfl,D,_,rfl,a_.of Ob,rfl,_,_,rfl,_,_,rfl,_,_,rfl,rfl,?_⟩
 by_cases z:f 0=g 0
 ·obtain hd:=hd z
  refine ⟨_,rfl,_,rfl,_,_,rfl,rfl,_,rfl,iZ (decide_eq_true (by rw[z])) ?_⟩
  refine ⟨_,rfl,_,rfl,_,rfl,p,q,w',v,f,g,n,rfl,hp.same s3,hq.same s3,lw,lv,z,hd,fun t3 Ts=>?_⟩
  have s4:=s3.trans (ay.upd (o:= .tup [.int (fD f g n 0:Nat), .str (S [ax (f ((fD f g n 0:Nat) - 1))])]) Ts)
  refine ⟨t3,_,rfl,me.of ah,rfl,_,_,rfl,_,_,rfl,rfl,?_⟩
  generalize upd H8 t3 (.tup [.int (fD f g n 0:Nat), .str (S [ax (f ((fD f g n 0:Nat) - 1))])])=H9 at s4 ⊢
  refine ⟨_,rfl,_,rfl,p,w',f,_,rfl,hp.same s4,lw,_,rfl,_,rfl,q,v,g,_,rfl,hq.same s4,lv,_,rfl,_,_,_,rfl,?_⟩
  refine ⟨_,rfl,_,rfl,_,rfl,_,rfl,y,_,_,_,rfl,hy.nd,fy _,gy _,hy.cl _ (fy _),by omega,?_⟩
  have:=Qk H9 s4
  unfold GR at this
  rw[if_pos z]at this
  exact this
 ·refine ⟨_,rfl,_,rfl,_,_,rfl,rfl,_,rfl,dE (decide_eq_false fun q=>z (by simpa using q)) ?_⟩
  refine ⟨_,rfl,_,rfl,_,_,rfl,rfl,_,rfl,dE (decide_eq_false fun q=>gh (by simpa using q)) ?_⟩
  refine ⟨_,rfl,_,rfl,_,_,rfl,rfl,_,rfl,dE (decide_eq_false fun q=>fh (by simpa using q)) ?_⟩
  refine ⟨_,rfl,_,rfl,_,rfl,_,rfl,y,_,_,_,rfl,hy.nd,fy _,gy _,Wm _,by omega,?_⟩
  have:=Qk H8 s3
  unfold GR at this
  rw[if_neg z]at this
  exact this
theorem AA:bp P w K mg base dB 5 J1 Kv ["_law_yard_here","_law_w","_law_i","_law_v","_law_j"] (qR K):=by
 have tD:=FP (P:=P) (w:=w) (base:=base) T
 have bj:=jx (P:=P) (w:=w) (base:=base) T
 have vq:=Az (P:=P) (w:=w) (base:=base) T
 refine T.SX.fn.ok gb (fun vs H Q E h=>wY h) (fun cE A outer s H vs Q E hr h=>?_)
 refine let Z5:TS:=_;let Z4:TS:=_;let Z3:TS:=_;let Z2:TS:=_;let Z1:TS:=_;let Z0:TS:=_;⟨_,(ae (AW (i:=5) (j:=6) rfl gb.nd rfl rfl (by decide) rfl rfl (ai (ag tD T.M1 hr (ai (pv 1) (ai (pv 2) (aa ak)))) (aa (ag tD T.M1 hr (ai (pv 1) (ai (pv 2) (aa (mT jk ak))))))) rfl)
   (af Z0 (ae (AW (i:=7) (j:=8) rfl gb.nd rfl rfl (by decide) rfl rfl (ai (ag tD T.M1 hr (ai (pv 3) (ai (pv 4) (aa ak)))) (aa (ag tD T.M1 hr (ai (pv 3) (ai (pv 4) (aa (mT jk ak))))))) rfl)
   (af Z1 (ae (g_ (i:=9) ["_law_ray_here"] [none] gb.nd rfl (Or.inl rfl) (rG K rfl (kF (ai (pv 7) (aa (pv 8))))) trivial (fun _ _ _ _=>(aG (i:=0) (by decide+kernel:List.Nodup (["_law_ray_here"]:List Str)) rfl (Or.inl rfl))) (fun _ _ _ _=>fJ) (fun _ _ _ _=>(ag bj T.yM hr (ai (pv 0) (aa ak)))))
   (af Z2 (ae (cK (aM (rH K rfl) (ag bj T.yM hr (ai (pv 6) (aa ak))) (pv 9) (by with_unfolding_all rfl)) (af Z3 (aj (aI i4))) bY)
   (af Z4 (ae (aw (i:=10) gb.nd (ag vq T.Qx hr (ai (pv 0) (ai (pv 5) (ai (pv 7) (aa (pv 6)))))))
   (af Z5 (aj (aI (gm HH (pv 10) (ag vq T.Qx hr (ai (pv 0) (ai (pv 5) (ai (pv 8) (aa (pv 6)))))) (aR _)))))))))))))),?_⟩
 obtain ⟨y,w',v,i,j,rfl,hy,hz,hw,GS,hv,Tt,Qk⟩:=h
 have hs:(100000:Nat)<sizeLine:=by decide
 have lw:DW w':=⟨hw.ne,fun c hc=>hy.lt c (hw.bh c hc),by omega⟩
 have lv:DW v:=⟨hv.ne,fun c hc=>hy.lt c (hv.bh c hc),by omega⟩
 refine ⟨_,rfl,_,rfl,w',i,1,rfl,fun p1 n1=>?_⟩
 have r1:iu (upd H p1 (.tup [.str (S []), .str (S w'), .int i, .int 1])) p1 w' (sq w' i):=⟨i,1,ah, .inl ⟨rfl,rfl⟩⟩
 have s1:=ay.upd (o:= .tup [.str (S []), .str (S w'), .int i, .int 1]) n1
 generalize upd H p1 (.tup [.str (S []), .str (S w'), .int i, .int 1])=H1 at r1 s1 ⊢
 refine ⟨_,rfl,_,rfl,_,rfl,w',i, -1,rfl,fun p2 n2=>?_⟩
 have r2:iu (upd H1 p2 (.tup [.str (S []), .str (S w'), .int i, .int (-1)])) p2 w' (bq w' (i - 1)):=⟨i, -1,ah, .inr ⟨rfl,rfl⟩⟩
 have t2:=ay.upd (o:= .tup [.str (S []), .str (S w'), .int i, .int (-1)]) n2
 generalize upd H1 p2 (.tup [.str (S []), .str (S w'), .int i, .int (-1)])=H2 at r2 t2 ⊢
 refine ⟨_,_,rfl,?_⟩
 refine ⟨_,rfl,_,rfl,v,j,1,rfl,fun p3 n3=>?_⟩
 have r3:iu (upd H2 p3 (.tup [.str (S []), .str (S v), .int j, .int 1])) p3 v (sq v j):=⟨j,1,ah, .inl ⟨rfl,rfl⟩⟩
 have t3:=ay.upd (o:= .tup [.str (S []), .str (S v), .int j, .int 1]) n3
 generalize upd H2 p3 (.tup [.str (S []), .str (S v), .int j, .int 1])=H3 at r3 t3 ⊢
 refine ⟨_,rfl,_,rfl,_,rfl,v,j, -1,rfl,fun p4 n4=>?_⟩
 have r4:iu (upd H3 p4 (.tup [.str (S []), .str (S v), .int j, .int (-1)])) p4 v (bq v (j - 1)):=⟨j, -1,ah, .inr ⟨rfl,rfl⟩⟩
 have t4:=ay.upd (o:= .tup [.str (S []), .str (S v), .int j, .int (-1)]) n4
 generalize upd H3 p4 (.tup [.str (S []), .str (S v), .int j, .int (-1)])=H4 at r4 t4 ⊢
 have s4:=((s1.trans t2).trans t3).trans t4
 replace r1:=((r1.same t2).same t3).same t4
 replace r2:=(r2.same t3).same t4
 replace r3:=r3.same t4
 clear t2 t3 t4 n1 n2 n3 n4
 refine ⟨_,_,rfl,?_⟩
 refine ⟨_,rfl,_,rfl,by show 2<=sizeLine;decide,fun t nt=>?_⟩
 have ht:upd H4 t (.tup [.ref p3, .ref p4]) t=some (.tup [.ref p3, .ref p4]):=ah
 have s5:=ay.upd (o:= .tup [.ref p3, .ref p4]) nt
 generalize upd H4 t (.tup [.ref p3, .ref p4])=H5 at ht s5 ⊢
 refine ⟨t,rfl,⟨_,me.of ht⟩,?_⟩
 have e3:sq v j 0=rd v j:=by unfold sq;rw[Yv]
 have e4:bq v (j - 1) 0=ax (rd v (j - 1)):=by unfold bq;rw[ZT]
 have e1:sq w' i 0=rd w' i:=by unfold sq;rw[Yv]
 have e2:bq w' (i - 1) 0=ax (rd w' (i - 1)):=by unfold bq;rw[ZT]
 refine let iD:Nat->List V->Hp->Prop:=(fun n acc H'=>H'=H5/\acc=(bw [rd v j,ax (rd v (j - 1))]).take n);ue (K:=K) (a:=t) (xs:=[.ref p3, .ref p4]) iD (by show 2<sizeLine;decide) (fun n acc H' h=>by rw[h.1];exact me.of ht) ⟨rfl,rfl⟩ ?_ ?_
 ·rintro n x acc H5 Nx hn hx iE ⟨rfl,rfl⟩ nx
  refine ⟨trivial,eP ?_⟩
  have key: ∃(a:Addr) (F:Int->Nat),x= .ref a/\iu H5 a v F/\(bw [rd v j,ax (rd v (j - 1))])[n]? =some (.str (S [F 0])):=by
   rcases n with _ | _ | n
   ·exact ⟨p3,_,(WK hx).symm,r3.same s5,by rw[e3];rfl⟩
   ·exact ⟨p4,_,(WK hx).symm,r4.same s5,by rw[e4];rfl⟩
   ·exact absurd hn (by show ¬n+1+1<2;omega)
  obtain ⟨a,F,rfl,ra,e⟩:=key
  refine ⟨_,rfl,a,v,F,0,rfl,ra,lv,nx _ _ (by simpa using iE) ⟨rfl,?_⟩⟩
  exact take_snoc e
 rintro acc H5 D iE ⟨rfl,rfl⟩ hD
 rw[show (bw [rd v j,ax (rd v (j - 1))]).take [V.ref p3,V.ref p4].length=bw [rd v j,ax (rd v (j - 1))] from rfl]
 have KR:upd H5 D (.lst (bw [rd v j,ax (rd v (j - 1))])) D=some (.lst (bw [rd v j,ax (rd v (j - 1))])):=ah
 have s6:=(s4.trans s5).trans (ay.upd (o:= .lst (bw [rd v j,ax (rd v (j - 1))])) hD)
 have s7:=s5.trans (ay.upd (o:= .lst (bw [rd v j,ax (rd v (j - 1))])) hD)
 generalize upd H5 D (.lst (bw [rd v j,ax (rd v (j - 1))]))=H6 at KR s6 s7 ⊢
 replace r1:=r1.same s7
 replace r2:=r2.same s7
 replace r3:=r3.same s7
 replace r4:=r4.same s7
 have BR:xI (.str (S [bq w' (i - 1) 0])) (bw [rd v j,ax (rd v (j - 1))])=decide ([bq w' (i - 1) 0]∈[[rd v j],[ax (rd v (j - 1))]]):=sE [bq w' (i - 1) 0] [[rd v j],[ax (rd v (j - 1))]]
 refine ⟨_,rfl,p2,w',_,0,rfl,r2,lw,_,rfl,D,_,rfl, .inl (a_.of KR),rfl,rfl,?_⟩
 refine ⟨_,rfl,?_⟩
 by_cases z:ax (rd w' (i - 1))=rd v j\/ax (rd w' (i - 1))=ax (rd v (j - 1))
 ·refine iZ (by show xI _ _=true;exact BR.trans (decide_eq_true (by rw[e2];rcases z with z | z<;>rw[z]<;>simp))) ?_
  have:=Qk H6 s6
  unfold C6 at this
  rw[if_pos z]at this
  exact this
 ·refine dE (by show xI _ _=false;exact BR.trans (decide_eq_false (by rw[e2];intro q;exact z (by simpa using q)))) ?_
  have z1:ax (rd w' (i - 1))≠rd v j:=fun q=>z (.inl q)
  have z2:ax (rd w' (i - 1))≠ax (rd v (j - 1)):=fun q=>z (.inr q)
  have b1: ∀k,sq w' i k∈y:=fun k=>hw.rd _
  have b2: ∀k,bq w' (i - 1) k∈y:=fun k=>hy.cl _ (hw.rd _)
  have b3: ∀k,sq v j k∈y:=fun k=>hv.rd _
  have b4: ∀k,bq v (j - 1) k∈y:=fun k=>hy.cl _ (hv.rd _)
  have c1:sq w' i 0≠bq w' (i - 1) 0:=by rw[e1,e2];exact hw.red i
  have u3:=iN (f:=sq w' i) (g:=sq v j) hw.ne hv.ne (fun k=>lh w' i k) (fun k=>lh v j k) (fun q=>z2 (congrArg ax q))
  have u4:=iN (f:=sq w' i) (g:=bq v (j - 1)) hw.ne hv.ne (fun k=>lh w' i k) (fun k=>CG v (j - 1) k) (fun q=>z1 (by
   have q1:rd w' (i - 1)=ax (rd v j):=q.trans (by unfold bq;rw[show (j:Int) - 1 - -1=j by omega])
   rw[q1,aD (hy.lt _ (hv.rd j))]))
  refine ⟨_,rfl,_,rfl,_,rfl,_,rfl,y,p1,p3,p2,w',v,w',_,_,_,w'.length+v.length,rfl,hy,hz,r1,r3,r2,lw,lv,lw,b1,b3,b2,c1,by rw[e3,e2];exact Ne.symm z1,fun _=>u3.2,fun H7 s8=>?_⟩
  refine ⟨_,rfl,_,rfl,_,rfl,_,rfl,_,rfl,y,p1,p4,p2,w',v,w',_,_,_,w'.length+v.length,rfl,hy,hz,r1.same s8,r4.same s8,r2.same s8,lw,lv,lw,b1,b4,b2,c1,by rw[e4,e2];exact Ne.symm z2,fun _=>u4.2,fun H8 s9=>?_⟩
  refine ⟨_,_,rfl,rfl,?_⟩
  have:=Qk H8 ((s6.trans s8).trans s9)
  unfold C6 at this
  rw[if_neg z,e2.symm]at this
  refine Eq.mp ?_ this
  congr 2
theorem l_:bp P w K mg base dB 6 J2 Kw ["_law_yard_here","_law_w","_law_v"] (lX K):=by
 have DJ:=AA (P:=P) (w:=w) (base:=base) T
 refine T.Qy.fn.ok fG (fun vs H Q E h=>sI h) (fun cE A outer s H vs Q E hr h=>?_)
 refine let Z2:TS:=_;let Z1:TS:=_;let Z0:TS:=_;⟨_,(ae (aw (i:=3) fG.nd ak)
   (af Z0 (ae (dz PassesOwn.never rfl (fN rfl T.z_range (aa (aH aQ rfl T.z_len XR (aa (pv 1))))) (aG (i:=4) fG.nd rfl (Or.inr rfl)) (af Z1 (aj (aw (i:=3) fG.nd (aC bP (pv 3) (bK K rfl XW PySem.F.slot_list_count PySem.F.type_list_count (zJ K rfl) (dc ["_law_j","_law_yard_here","_law_w","_law_i","_law_v"] [none,some 0,some 1,some 4,some 2] (fN rfl T.z_range (aa (aH aQ rfl T.z_len XR (aa (pv 2))))) ⟨⟨rfl,rfl,by first | exact .inl rfl | exact .inr rfl⟩,⟨⟨rfl,rfl,by first | exact .inl rfl | exact .inr rfl⟩,⟨⟨rfl,rfl,by first | exact .inl rfl | exact .inr rfl⟩,⟨⟨rfl,rfl,by first | exact .inl rfl | exact .inr rfl⟩,trivial⟩⟩⟩⟩ (fun _ _ _ _=>(aG (i:=0) (by decide+kernel:List.Nodup (["_law_j","_law_yard_here","_law_w","_law_i","_law_v"]:List Str)) rfl (Or.inl rfl))) (fun _ _ _ _=>fJ) (fun _ _ _ _=>(ag DJ T.SX hr (ai (pv 1) (ai (pv 2) (ai (pv 3) (ai (pv 4) (aa (pv 0))))))))) (aa i4)))))))
   (af Z2 (aj (aI (pv 3))))))),?_⟩
 obtain ⟨y,w',v,rfl,hy,hz,hw,GS,hv,Tt,Qk⟩:=h
 have hs:(100000:Nat)<sizeLine:=by decide
 refine ⟨_,rfl,w',rfl,by omega,_,rfl,by omega,by omega,?_⟩
 rw[XN]
 refine let iD:Nat->L2.St->Hp->Prop:=(fun i σ H'=>ay H H'/\ ∃(F:Nat) (iv:Option V),(F:Int)=sm i (fun a=>sm v.length fun b=>one (C6 y w' v a b=true))/\σ=[some (.str (S y)),some (.str (S w')),some (.str (S v)),some (.int F),iv]);eR iD ⟨ay.refl H,0,none,rfl,rfl⟩ ?_ ?_
 ·rintro i σ H1 hi ⟨s1,F,iv,hF,rfl⟩
  have AF:i<w'.length:=by omega
  refine ⟨_,rfl,_,rfl,v,rfl,by omega,_,rfl,by omega,by omega,?_⟩
  rw[XN]
  refine let DE:Nat->List V->Hp->Prop:=(fun n acc H'=>ay H H'/\acc=((List.range n).map fun j:Nat=>C6 y w' v i j).map V.bl);uc DE (by omega) ⟨s1,rfl⟩ ?_ ?_
  ·rintro n acc H2 Nx hn iE ⟨s2,rfl⟩ nx
   refine ⟨⟨rfl,rfl,rfl,rfl,trivial⟩,eP ?_⟩
   refine ⟨_,rfl,_,rfl,_,rfl,_,rfl,_,rfl,y,w',v,i,n,?_,hy,hz,hw,GS,hv,Tt,fun H3 s3=>nx _ _ (by simp) ⟨s2.trans s3,?_⟩⟩
   ·show [V.str (S y),V.str (S w'),V.int (0+(i:Int)),V.str (S v),V.int (0+(n:Int))]=_
    rw[YV,YV]
   ·rw[Zf,XJ,XJ]
    rfl
  rintro acc H2 D iE ⟨s2,rfl⟩ hD
  refine ⟨.inl ⟨rfl,_,a_.of ah⟩,D,_,rfl,rfl,ah,?_⟩
  refine ⟨_,_,rfl,rfl,?_⟩
  refine ⟨s2.trans (ay.upd hD),F+(((List.range v.length).map fun j:Nat=>C6 y w' v i j).countP id),_,?_,rfl⟩
  rw[Y1,hF,Dh (fun j=>C6 y w' v i j)]
  rfl
 ·rintro σ H1 ⟨s1,F,iv,hF,rfl⟩
  refine ⟨_,rfl,?_⟩
  exact Qk F H1 s1 (hF.trans (Fo hy hw hv))
theorem FQ:bp P w K mg base dB 7 J3 Kx ["_law_yard_here","_law_w"] (yG K):=by
 have jy:=l_ (P:=P) (w:=w) (base:=base) T
 refine T.SY.fn.ok sZ (fun vs H Q E h=>Dg h) (fun cE A outer s H vs Q E hr h=>?_)
 refine let Z2:TS:=_;let Z1:TS:=_;let Z0:TS:=_;⟨_,(ae (aw (i:=2) sZ.nd ak)
   (af Z0 (ae (cJ PassesOwn.never (aM rF (aC fv (br jJ (pv 1) (bz (pv 2)) b_) (br jJ (pv 1) b_ (bz (pv 2)))) (pv 1) (aR _)) (af Z1 (aj (aw (i:=2) sZ.nd (aC bP (pv 2) ak)))))
   (af Z2 (aj (aI (aC c_ (aC bP (aC e_ (ag jy T.Qy hr (ai (pv 0) (ai (pv 1) (aa (pv 1))))) ak) (aC e_ (aH aQ rfl T.z_len XR (aa (pv 1))) (pv 2))) ak))))))),?_⟩
 obtain ⟨y,w',rfl,hy,hz,hw,GS,Qk⟩:=h
 have hs:(100000:Nat)<sizeLine:=by decide
 have uk:=Xs.mpr hw.ne
 refine ⟨fun m σ H'=> ∃k:Nat,σ=[some (.str (S y)),some (.str (S w')),some (.int k)]/\m=w'.length - k/\1<=k/\k<=w'.length/\(∀d,1<=d->d<k-> ¬fj w' d)/\H'=H,⟨_,1,rfl,rfl,Rv _,uk,fun d h1 h2=>by lia,rfl⟩,?_⟩
 rintro m σ H2 ⟨k,rfl,rfl,xW,vC,JJ,rfl⟩
 have Nl:cut w' (some (k:Int)) none++cut w' none (some (k:Int))=bE w' k:=by rw[de,cO];rfl
 have hl:(cut w' (some (k:Int)) none).length+(cut w' none (some (k:Int))).length<=sizeLine:=by rw[de,cO,Xi,Rt];lia
 refine ⟨_,rfl,_,rfl,_,rfl,w',rfl,by lia,_,rfl,_,rfl,_,rfl,w',rfl,by lia,_,_,rfl,rfl,hl,?_⟩
 refine ⟨_,rfl,_,_,rfl,rfl,_,rfl,?_⟩
 by_cases z:fj w' k
 ·refine dE (by rw[Nl,decide_eq_true (show bE w' k=w' from z)];rfl) ?_
  have hr:=qG (oG hw.ne) (.inr ⟨xW,vC,z,JJ⟩:n5 w' k)
  have Wn:kr w'=((w'.length / k:Nat):Int):=by unfold kr;rw[hr]
  have hk:1<=w'.length / k:=Nat.div_pos vC xW
  refine ⟨_,rfl,_,rfl,_,rfl,y,w',w',rfl,hy,hz,hw,GS,hw,GS,fun n H3 s3 e=>?_⟩
  refine ⟨_,_,rfl,rfl,⟨by decide,by lia⟩,?_⟩
  refine ⟨_,rfl,w',rfl,by lia,_,rfl,_,_,rfl,rfl,⟨by lia,by lia⟩,?_⟩
  refine ⟨_,_,rfl,rfl,_,_,rfl,rfl,?_⟩
  have:=Qk (n / 2+w'.length / k - 1) H3 s3 (by rw[<-e,Wn];lia)
  refine Eq.mp ?_ this
  congr 2
  show _=(n:Int) / 2+(w'.length:Int) / (k:Int) - 1
  rw[<-Int.natCast_ediv]
  lia
 ·refine iZ (by rw[Nl,decide_eq_false (show ¬bE w' k=w' from z)];rfl) ?_
  have cj:k<w'.length:=Qag vC fun q=>z (by rw[q];exact yi w')
  refine ⟨_,rfl,_,_,rfl,rfl,w'.length - (k+1),by lia,k+1,rfl,rfl,by lia,cj,fun d h1 h2=>?_,rfl⟩
  by_cases q:d=k
  ·rw[q];exact z
  ·exact JJ d h1 (by lia)
theorem xv:bp P w K mg base dB 8 J4 Ky ["_law_yard_here","_law_word"] (oM K):=by
 have eE:=gH (P:=P) (w:=w) (base:=base) T
 have Jn:=FQ (P:=P) (w:=w) (base:=base) T
 refine T.S0.fn.ok o7 (fun vs H Q E h=>u7 h) (fun cE A outer s H vs Q E hr h=>?_)
 refine let Z0:TS:=_;⟨_,(ae (aw (i:=2) o7.nd (ag eE T.N2 hr (aa (pv 1))))
   (af Z0 (aj (aI (AR (gm rF (pv 2) (gQ [] (by decide+kernel)) (aR _)) (AQ (gm Br (ag Jn T.SY hr (ai (pv 0) (aa (pv 2)))) ak (aR _)))))))),?_⟩
 obtain ⟨y,w',c,rfl,hy,hz,hc,ev,q⟩:=h
 have hs:(100000:Nat)<sizeLine:=by decide
 have h_:=hc.h_
 refine ⟨_,rfl,w',rfl,hc.lt,by omega,fun H1 s1=>?_⟩
 rw[hc.is]
 refine ⟨_,rfl,_,_,rfl,rfl,_,rfl,?_⟩
 rcases hc.sw with e | HF
 ·refine dE (by rw[decide_eq_true e];rfl) ?_
  have:=q H1 s1
  unfold JI at this
  rw[decide_eq_true e]at this
  exact this
 ·have hn:=HF.ne
  refine iZ (by rw[decide_eq_false (show ¬c=[] from hn)];rfl) ?_
  refine ⟨_,rfl,_,rfl,y,c,rfl,hy,hz,HF,hc.len,fun n H2 s2 e=>?_⟩
  refine ⟨_,_,rfl,rfl,?_⟩
  have ed:decide ((n:Int)=0)=JI y c:=by
   unfold JI Qq
   rw[decide_eq_false (show ¬c=[] from hn)]
   obtain ⟨k,hk⟩:=ev HF
   have Q4:=(C3 (y:=y) hn).1
   unfold mz at hk Q4 ⊢
   exact decide_eq_decide.mpr ⟨fun z=>by omega,fun z=>by omega⟩
  show Q (.bl (decide ((n:Int)=0))) H2
  rw[ed]
  exact q H2 (s1.trans s2)
theorem tE:bp P w K mg base dB 9 J_ KG ["_law_yard_here","_law_words"] (kl K):=by
 have eE:=gH (P:=P) (w:=w) (base:=base) T
 have jy:=l_ (P:=P) (w:=w) (base:=base) T
 have AB:=xv (P:=P) (w:=w) (base:=base) T
 refine T.S4.fn.ok dj (fun vs H Q E h=>pV h) (fun cE A outer s H vs Q E hr h=>?_)
 refine let Z4:TS:=_;let Z3:TS:=_;let Z2:TS:=_;let Z1:TS:=_;let Z0:TS:=_;⟨_,(ae (g_ (i:=2) ["_law_word"] [none] dj.nd rfl (Or.inl rfl) (hJ K rfl (pv 1)) trivial (fun _ _ _ _=>(aG (i:=0) (by decide+kernel:List.Nodup (["_law_word"]:List Str)) rfl (Or.inl rfl))) (fun _ _ _ _=>fJ) (fun _ _ _ _=>(ag eE T.N2 hr (aa (pv 0)))))
   (af Z0 (ae (dz PassesOwn.never rfl (BB K rfl rfl T.z_enumerate (aa (pv 2))) (jL (n:=2) K rfl rfl (bJ (aG (i:=3) dj.nd rfl (Or.inl rfl)) (bJ (aG (i:=4) dj.nd rfl (Or.inr rfl)) iF))) (af Z1 (ae (g_ (i:=5) ["_law_other_here","_law_yard_here","_law_word"] [none,some 0,some 4] dj.nd rfl (Or.inl rfl) (hJ K rfl (br (nj K rfl) (pv 2) b_ (bz (pv 3)))) ⟨⟨rfl,rfl,by first | exact .inl rfl | exact .inr rfl⟩,⟨⟨rfl,rfl,by first | exact .inl rfl | exact .inr rfl⟩,trivial⟩⟩ (fun _ _ _ _=>(aG (i:=0) (by decide+kernel:List.Nodup (["_law_other_here","_law_yard_here","_law_word"]:List Str)) rfl (Or.inl rfl))) (fun _ _ _ _=>fJ) (fun _ _ _ _=>(ag jy T.Qy hr (ai (pv 1) (ai (pv 2) (aa (pv 0)))))))
   (af Z2 (aj (cK (PW.pt (p6 (q9 (ji (ag AB T.S0 hr (ai (pv 0) (aa (pv 4)))))) (kC (aM p7 (aH (zy K rfl rfl) rfl T.z_sum boot_sum (aa (pv 5))) ak (aR _))))) (af Z3 (aj (aI i4))) bY))))))
   (af Z4 (aj (aI i4)))))),?_⟩
 obtain ⟨y,wt,ws,rfl,hy,hz,Tu,hl,hw,Q4,q⟩:=h
 have hs:(100000:Nat)<sizeLine:=by decide
 refine ⟨_,rfl,wt,rfl,⟨_,a_.of Tu⟩,?_⟩
 refine let iD:Nat->List V->Hp->Prop:=(fun i acc H'=>ay H H'/\acc=b0 (ws.take i));kK (K:=K) (a:=wt) (xs:=b0 ws) iD (by rw[bO];lia) (fun i acc H' h=>a_.of (h.1 _ _ Tu)) ⟨ay.refl _,rfl⟩ ?_ ?_
 ·rintro i x acc H1 Nx hi hx iE ⟨s1,rfl⟩ nx
  obtain ⟨w,Tv,rfl⟩:=iQ hx
  have h1:=hw w (Xo Tv)
  have sh:=Di hy h1.1 h1.2.1
  have fw:=sh.h_
  refine ⟨trivial,eP ⟨_,rfl,_,rfl,sh.lt,by lia,fun H2 s2=>?_⟩⟩
  rw[sh.is]
  refine nx _ _ (by simpa using iE) ⟨s1.trans s2,?_⟩
  rw[<-take_snoc Tv]
  exact fg _ _
 ·rintro acc H1 D iE ⟨s1,rfl⟩ hD
  rw[bO,Yz]
  have Gz:upd H1 D (.lst (b0 ws)) D=some (.lst (b0 ws)):=ah
  have s2:=s1.trans (ay.upd (o:= .lst (b0 ws)) hD)
  generalize upd H1 D (.lst (b0 ws))=H2 at Gz s2 ⊢
  refine ⟨_,rfl,D,rfl,⟨_,a_.of Gz⟩,?_⟩
  refine let DE:Nat->L2.St->Hp->Prop:=(fun i σ H'=> ∃v3 v4 v5:Option V,σ=[some (.str (S y)),some (.ref wt),some (.ref D),v3,v4,v5]/\ay H2 H');zp (K:=K) (a:=D) (xs:=b0 ws) DE ⟨none,none,none,rfl,ay.refl _⟩ (fun i σ H' _ ⟨_,_,_,_,h⟩=>a_.of (h _ _ Gz)) ?_ ?_
  ·rintro i x' σ H3 T D5 ⟨v3,v4,v5,rfl,s3⟩ nT
   obtain ⟨r,Tw,rfl⟩:=iQ D5
   have hr:=Xo Tw
   have hi:=(Ru.mp Tw).1
   obtain ⟨r1,r2,r3⟩:=hw r hr
   have s4:=s3.trans (ay.upd (o:= .tup [.int i, .str (S r)]) nT)
   refine ⟨T,_,rfl,me.of ah,rfl,_,_,rfl,_,_,rfl,rfl,?_⟩
   show AS _ _ _ _ _
   refine MG fun Dx M4 Xb=>?_
   generalize upd H3 T (.tup [.int i, .str (S r)])=H4 at s4 ⊢
   refine ⟨_,rfl,_,rfl,_,rfl,D,_,rfl,a_.of (s4 _ _ Gz),fun p1 n1=>?_⟩
   have ec:tT (b0 ws) none (some (i:Int))=b0 (ws.take i):=by
    show cut (b0 ws) none (some (i:Int))=_
    rw[de]
    unfold b0
    rw[Qae]
   rw[ec]
   have s5:=s4.trans (ay.upd (o:= .lst (b0 (ws.take i))) n1)
   have yN:upd H4 p1 (.lst (b0 (ws.take i))) p1=some (.lst (b0 (ws.take i))):=ah
   generalize upd H4 p1 (.lst (b0 (ws.take i)))=H5 at s5 yN ⊢
   have Xc:(ws.take i).length<=100:=by rw[Rt];lia
   refine ⟨p1,rfl,⟨_,a_.of yN⟩,?_⟩
   refine let Wo:Nat->List V->Hp->Prop:=(fun j acc H'=>ay H5 H'/\ ∃ns:List Int,acc=ns.map V.int/\ns.length=j/\ns.sum=0);kK (K:=K) (a:=p1) (xs:=b0 (ws.take i)) Wo (by rw[bO];lia) (fun j acc H' h=>a_.of (h.1 _ _ yN)) ⟨ay.refl _,[],rfl,rfl,rfl⟩ ?_ ?_
   ·rintro j x' acc H6 Nx hj D5 iE ⟨s6,ns,rfl,M9,Gg⟩ nx
    obtain ⟨v,Wq,rfl⟩:=iQ D5
    have hv:=XF (Xo Wq)
    have h2:=hw v hv
    refine ⟨⟨rfl,rfl,trivial⟩,eP ?_⟩
    refine ⟨_,rfl,_,rfl,_,rfl,y,r,v,rfl,hy,hz,r1,r2,h2.1,h2.2.1,fun n H7 s7 e=>?_⟩
    refine nx _ _ (by simp[M9]) ⟨s6.trans s7,ns++[(n:Int)],by rw[XJ];rfl,by rw[Jy,M9];rfl,?_⟩
    rw[List.sum_append,Gg,e,Q4 r hr v hv]
    rfl
   ·rintro acc H6 D2 iE ⟨s6,ns,rfl,M9,Gg⟩ Ob
    have s7:=s5.trans (s6.trans (ay.upd (o:= .lst (ns.map V.int)) Ob))
    have Tx:upd H6 D2 (.lst (ns.map V.int)) D2=some (.lst (ns.map V.int)):=ah
    generalize upd H6 D2 (.lst (ns.map V.int))=H7 at s7 Tx ⊢
    refine ⟨_,rfl,_,rfl,y,r,r,rfl,hy,hz,Di hy r1 r2,fun g=>Dl hy g,fun H8 s8=>?_⟩
    have JC:JI y r=true:=by
     unfold JI Qq
     rw[decide_eq_false (show ¬r=[] from r1.ne),decide_eq_true r3]
     rfl
    refine ⟨_,rfl,dE (by rw[JC];rfl) ?_⟩
    refine ⟨_,rfl,D2,ns,rfl,a_.of (s8 _ _ Tx),_,_,rfl,rfl,_,rfl,dE (by rw[Gg];rfl) ?_⟩
    exact M4 _ _ ⟨_,_,_,rfl,s7.trans s8⟩
  ·rintro σ H3 ⟨v3,v4,v5,rfl,s3⟩
   exact q H3 (s2.trans s3)
theorem Jo:bp P w K mg base dB 10 Kd KL ["_law_script"] (kI K):=by
 have Jp:=FH (P:=P) (w:=w) (base:=base) T
 have FR:=Dz (P:=P) (w:=w) (base:=base) T
 have kn:=vn (P:=P) (w:=w) (base:=base) T
 have DK:=Ax (P:=P) (w:=w) (base:=base) T
 have vt:=tE (P:=P) (w:=w) (base:=base) T
 have dJ:=lZ (P:=P) (w:=w) (base:=base) T
 refine T.VH.fn.ok lK (fun vs H Q E h=>EV h) (fun cE A outer s H vs Q E hr h=>?_)
 refine let Z8:TS:=_;let Z7:TS:=_;let Z6:TS:=_;let Z5:TS:=_;let Z4:TS:=_;let Z3:TS:=_;let Z2:TS:=_;let Z1:TS:=_;let Z0:TS:=_;⟨_,(ae (aw (i:=1) lK.nd (fI eZ))
   (af Z0 (ae (dz PassesOwn.never rfl (fN rfl T.z_range (aa ak)) (aG (i:=2) lK.nd rfl (Or.inl rfl)) (af Z1 (ae (aw (i:=3) lK.nd (ag Jp T.SO hr (ai (pv 0) (aa (pv 2)))))
   (af Z2 (ae (aw (i:=4) lK.nd (ag FR T.SQ hr (ai (pv 3) (ai ak (aa ak)))))
   (af Z3 (ae (aw (i:=5) lK.nd (ag kn T.M0 hr (ai (pv 3) (aa (aH aQ rfl T.z_len XR (aa (pv 4)))))))
   (af Z4 (ae (eM (bK K rfl XW YC YB eS (pv 1) (aa (pv 4))))
   (af Z5 (aj (eM (bK K rfl XW YC YB eS (pv 1) (aa (aC fv (br jJ (pv 4) (bz (pv 5)) b_) (br jJ (pv 4) b_ (bz (pv 5))))))))))))))))))
   (af Z6 (ae (cK (q9 (ji (aH (zm K rfl rfl) rfl T.z_all boot_all (aa (dc ["_law_yard_here"] [none] (hJ K rfl (aC A_ (pv 1) (br (nj K rfl) (pv 1) b_ (bz ak)))) trivial (fun _ _ _ _=>(aG (i:=0) (by decide+kernel:List.Nodup (["_law_yard_here"]:List Str)) rfl (Or.inl rfl))) (fun _ _ _ _=>fJ) (fun _ _ _ _=>(ag DK T.S6 hr (aa (pv 0))))))))) (af Z7 (aj (aI i4))) bY)
   (af Z8 (aj (aI (AR (ag vt T.S4 hr (ai (b8 (bS K rfl) (pv 1) ak (fun _ _=>rfl)) (aa (ag dJ T.KN hr (aa (b8 (bS K rfl) (pv 1) ak (fun _ _=>rfl))))))) (AQ (gm (Bw K rfl hr) (ag dJ T.KN hr (aa (b8 (bS K rfl) (pv 1) ak (fun _ _=>rfl)))) (ag dJ T.KN hr (aa (b8 (bS K rfl) (pv 1) ak (fun _ _=>rfl)))) (aR _)))))))))))),?_⟩
 obtain ⟨a,ns,rfl,hS,hl,hX,q⟩:=h
 have hs:(100000:Nat)<sizeLine:=by decide
 have Q5:cb K H:=hX _ (by unfold iJ;simp) _ _
 have Q6:fc K H:=hX _ (by unfold iJ;simp) _ _
 have Oa:cn≠dW:=fun e=>(XD.mp T.tn).1 (by rw[e];exact NB)
 refine ⟨XI _,fun pf Dw=>?_⟩
 have s1:=ay.upd (o:= .lst []) Dw
 have Wr:upd H pf (.lst []) pf=some (.lst (b0 [])):=ah
 refine ⟨_,rfl,by decide,by decide,?_⟩
 refine let iD:Nat->L2.St->Hp->Prop:=(fun i σ H'=> ∃(ys:List (List Nat)) (v2 v3 v4 v5:Option V),σ=[some (.ref a),some (.ref pf),v2,v3,v4,v5]/\H' pf=some (.lst (b0 ys))/\(∀y∈ys,Yd y/\2<=y.length/\y.length<=8)/\ys.length=2*i/\(0<i-> ∃u v r,ys=(u++v)::(v++u)::r)/\ay H H');eR iD ⟨[],none,none,none,none,rfl,Wr,fun y hy=>absurd hy Xl,rfl,fun z=>absurd z (X_ _),s1⟩ ?_ ?_
 ·rintro i σ H2 hi ⟨ys,v2,v3,v4,v5,rfl,hp,hy,Oc,Gw,s2⟩
  have EF:i<2:=hi
  rw[show (0:Int)+(i:Int)=(i:Int) by lia]
  refine ⟨_,rfl,_,rfl,a,ns,i,rfl,s2.seq hS,by lia,fun b H3 nb bx s3=>?_⟩
  have pb:pf≠b:=aA hp nb
  refine ⟨_,rfl,b,1,4,rfl,bx,by decide,by decide,by decide,fun y H4 Tz Xd Xe Ws s4=>?_⟩
  refine ⟨_,rfl,_,rfl,y,rfl,by lia,b,y.length,rfl,Ws,by lia,by lia,fun r H5 hr Xf s5=>?_⟩
  have TB:=b9.same nb (b9.same nb s3 s4) s5
  have Nf:=TB _ _ hp
  refine ⟨_,rfl, .inl ⟨rfl,_,a_.of Nf⟩,_,rfl,pf,_,_,rfl,rfl,Nf,by rw[bO];lia,?_⟩
  rw[fg]
  have AL:upd H5 pf (.lst (b0 (ys++[y]))) pf=some (.lst (b0 (ys++[y]))):=ah
  have s6:ay H (upd H5 pf (.lst (b0 (ys++[y])))):=fun c o e=>by rw[ao (aA e Dw)];exact TB _ _ (s2 c o e)
  generalize upd H5 pf (.lst (b0 (ys++[y])))=H6 at AL s6 ⊢
  have hlen:(cut y (some (r:Int)) none).length+(cut y none (some (r:Int))).length<=sizeLine:=by rw[de,cO,Xi,Rt];lia
  have xm:cut y (some (r:Int)) none++cut y none (some (r:Int))=y.drop r++y.take r:=by rw[de,cO]
  refine ⟨_,rfl, .inl ⟨rfl,_,a_.of AL⟩,_,rfl,_,rfl,_,rfl,y,rfl,by lia,_,rfl,_,rfl,_,rfl,y,rfl,by lia,_,_,rfl,rfl,hlen,pf,_,_,rfl,rfl,AL,by rw[bO,Jy,Xn,Yp];lia,?_⟩
  rw[xm,fg]
  have Q7:Yd (y.drop r++y.take r):=Yd.bE (by rw[T5];exact Tz)
  have Ge:(y.drop r++y.take r).length=y.length:=by rw[Jy,Xi,Rt];lia
  refine ⟨ys++[y]++[y.drop r++y.take r],_,_,_,_,rfl,ah,fun z hz=>?_,by rw[Jy,Jy,Oc];rfl,fun _=>?_,fun c o e=>by rw[ao (aA e Dw)];exact s6 c o e⟩
  ·rcases T3.mp hz with g | g
   ·rcases T3.mp g with g | g
    ·exact hy z g
    ·rw[Hy.mp g];exact ⟨Tz,by lia,by lia⟩
   ·rw[Hy.mp g,Ge];exact ⟨Q7,by lia,by lia⟩
  ·by_cases z:0<i
   ·obtain ⟨u,v,l,e⟩:=Gw z
    exact ⟨u,v,l++[y]++[y.drop r++y.take r],by rw[e];simp⟩
   ·have e:ys=[]:=YF.mp (by rw[Oc];lia)
    exact ⟨y.take r,y.drop r,[],by rw[e,T5];rfl⟩
 ·rintro σ H2 ⟨ys,v2,v3,v4,v5,rfl,hp,hy,Oc,Gw,s2⟩
  obtain ⟨u,v,r,rfl⟩:=Gw (by decide)
  have Pt:=Q5.same s2
  have HU:=Q6.same s2
  have Wt:((u++v)::(v++u)::r).length<=4:=by rw[Oc];decide
  generalize KS:(u++v)::(v++u)::r=ys at hp hy Wt
  have ec:tT (b0 ys) none (some 1)=b0 [u++v]:=by
   have:tT (b0 ys) none (some ((1:Nat):Int))=b0 (ys.take 1):=by
    show cut (b0 ys) none (some ((1:Nat):Int))=_
    rw[de]
    unfold b0
    rw[Qae]
   rw[<-KS]at this ⊢
   exact this
  refine ⟨_,rfl,_,rfl,_,rfl,pf,_,rfl,a_.of hp,fun p1 n1=>?_⟩
  rw[ec]
  have yN:upd H2 p1 (.lst (b0 [u++v])) p1=some (.lst (b0 [u++v])):=ah
  have s3:=ay.upd (o:= .lst (b0 [u++v])) n1
  generalize upd H2 p1 (.lst (b0 [u++v]))=H3 at yN s3 ⊢
  have Ng:=s2.trans s3
  have TC:=s3 _ _ hp
  have Q8:=Pt.same s3
  have Q9:=HU.same s3
  refine ⟨pf,p1,_,_,rfl,rfl,TC,yN,by rw[bO,bO];show ys.length+1<=sizeLine;lia,fun pc nc=>?_⟩
  have hc:upd H3 pc (.lst (b0 ys++b0 [u++v])) pc=some (.lst (b0 (ys++[u++v]))):=by rw[ah];unfold b0;rw[XJ]
  have s4:=ay.upd (o:= .lst (b0 ys++b0 [u++v])) nc
  generalize upd H3 pc (.lst (b0 ys++b0 [u++v]))=H4 at hc s4 ⊢
  have Q_:=Q8.same s4
  have Ra:=Q9.same s4
  have Wu:=s4 _ _ TC
  have Nz: ∀y∈ys++[u++v],Yd y/\2<=y.length/\y.length<=8:=fun y g=>(T3.mp g).elim (hy y) fun g=>by rw[Hy.mp g];exact hy _ (by rw[<-KS];exact NB)
  have M_:(ys++[u++v]).length<=5:=by rw[Jy,Xn,Yp];lia
  refine ⟨pc,rfl,⟨_,a_.of hc⟩,?_⟩
  generalize ys++[u++v]=zs at hc Nz M_ ⊢
  refine let DE:Nat->List V->Hp->Prop:=(fun i acc H'=>bo (FT K) H4 H'/\cb K H'/\fc K H'/\acc=(List.replicate i true).map V.bl);kK (K:=K) (a:=pc) (xs:=b0 zs) DE (by rw[bO];lia) (fun i acc H' h=>a_.of (h.1.get hc)) ⟨bo.refl _,Q_,Ra,rfl⟩ ?_ ?_
  ·rintro i x acc H5 Nx hi hx iE ⟨s5,Jq,Jr,rfl⟩ nx
   obtain ⟨y,Wv,rfl⟩:=iQ hx
   obtain ⟨y1,y2,y3⟩:=Nz y (Xo Wv)
   refine ⟨trivial,eP ?_⟩
   refine ⟨_,rfl,y,rfl,y1,y2,y3,Jq,Jr,fun H6 s6 FU Js=>?_⟩
   exact nx _ _ (by simpa using iE) ⟨s5.trans s6,FU,Js,Cj _⟩
  ·rintro acc H5 D iE ⟨s5,Jq,Jr,rfl⟩ hD
   refine ⟨D,_,rfl,a_.of ah,?_⟩
   have s6:=ay.upd (o:= .lst ((List.replicate (b0 zs).length true).map V.bl)) hD
   have AL:=s6 _ _ (s5.get Wu)
   have FU:=Jq.same s6
   have Js:=Jr.same s6
   generalize upd H5 D (.lst ((List.replicate (b0 zs).length true).map V.bl))=H6 at AL FU Js ⊢
   rw[EU]
   refine ⟨_,rfl,dE rfl ?_⟩
   obtain ⟨y1,y2,y3⟩:=hy (u++v) (by rw[<-KS];exact NB)
   obtain ⟨z1,z2,z3⟩:=hy (v++u) (by rw[<-KS];exact NA _ NB)
   have a0:mC (b0 ys) (0:Int)=some (.str (S (u++v))):=by rw[<-KS];exact dM (j:=0) rfl
   have a1:mC (b0 ys) (1:Int)=some (.str (S (v++u))):=by rw[<-KS];exact dM (j:=1) rfl
   refine ⟨_,rfl,pf,_,_,_,rfl,rfl,a_.of AL,a0,_,rfl,pf,_,_,_,rfl,rfl,a_.of AL,a0,_,rfl,y1,y2,y3,FU,fun t F H7 sf Rb nt ht hF Ww=>?_⟩
   refine ⟨_,t,F,rfl,y1,y3,ht,Ww,fun w hw=>?_,hF.ss y1,fun H8 s8=>?_⟩
   ·obtain ⟨w1,w2,w3⟩:=hF.sw y1 w hw
    exact ⟨w1,by lia,w3⟩
   have TF:=s8 _ _ (sf.get AL)
   have Rc:=Rb.same s8
   refine ⟨_,rfl,iZ rfl ?_⟩
   refine ⟨_,rfl,pf,_,_,_,rfl,rfl,a_.of TF,a1,_,rfl,z1,z2,z3,Rc,fun t2 G H9 sg Rf Q3 Wx hG Xg=>?_⟩
   have Wy:=sg.get TF
   refine ⟨_,rfl,pf,_,_,_,rfl,rfl,a_.of Wy,a0,_,rfl,y1,y2,y3,Rf,fun t3 F2 Xh Wz WA Ts WB Rg WC=>?_⟩
   obtain rfl:=Rg.one y1 hG
   refine ⟨_,_, .lst (a_.of (Wz.get Wx)) (fi _), .lst (a_.of WB) (fi _),⟨Rg.lay y1,Rg.lay y1⟩,w4 _,?_⟩
   rw[w5]
   exact q _
end
theorem b7 {M:List Value->Prop} (h:M []): ∀us:List Value,us.length=0->M us
 | [],_=>h
theorem aS {M:List Value->Prop} {n:Nat} (h: ∀(a:Value) (us:List Value),us.length=n->M (a::us)): ∀us:List Value,us.length=n+1->M us
 | a::us,e=>h a us (Nat.succ.inj e)
def Dn (K:PySem.W.Frag) (x:Str) (st:Stmt) (f:Addr) (fd:FuncData):Prop:=PySem.W.nsIn K mainGlobals x=some (some (.ref f))/\HA K x x st f fd
theorem dn {K:PySem.W.Frag} {x:Str} {st:Stmt} {f:Addr} {oc:Value} {od an:Option Addr} {tF:Array (Option Value)} {kV doc pm cE ct:Value} (a:PySem.W.nsIn K mainGlobals x=some (some (.ref f))) (l:K.lookup f=some ⟨oc,od, .func (PySem.W.fnOf x x (cQ st) (cA st) (aq st) .none kV doc pm an cE ct),tF⟩) (c:PySem.W.codeIn K cE x=true) (k:PySem.W.keepIn K (.ref f)=true):Dn K x st f (PySem.W.fnOf x x (cQ st) (cA st) (aq st) .none kV doc pm an cE ct):=⟨a,Ba l c k⟩
theorem gi {K:PySem.W.Frag} {h:Heap} {mg:Str->Option Value} {x:Str} {st:Stmt} {f:Addr} {fd:FuncData} {ps:List Str} (X:K.In h) (G:h.Ns mainGlobals mg) (a:Dn K x st f fd) (b: ∀(kV doc pm:Value) (an:Option Addr) (cE ct:Value) (us:List Value),us.length=ps.length->bindArgs (PySem.W.fnOf x x (cQ st) (cA st) (aq st) .none kV doc pm an cE ct) ⟨us,[]⟩=pure (ps.zip us)):aX K mg x st ps f fd:=⟨a.2,PySem.W.mg_of X G a.1,a.2.binds b⟩
def Rh (K:PySem.W.Frag) (x:Str) (st:Stmt) (f:Addr) (fd:FuncData) (t:Addr):Prop:=Dn K x st f fd/\zN K x x st f fd t/\ ∃c,PySem.W.tabIn K x=some (c,t)
theorem dnL {K:PySem.W.Frag} {x:Str} {st:Stmt} {f c t:Addr} {oc cc:Value} {od an oo:Option Addr} {tF ss:Array (Option Value)} {kV doc pm ct:Value} {vs:Array Value} (a:PySem.W.nsIn K mainGlobals x=some (some (.ref f))) (l:K.lookup f=some ⟨oc,od, .func (PySem.W.fnOf x x (cQ st) (cA st) (aq st) .none kV doc pm an (.ref c) ct),tF⟩) (b:PySem.W.codeIn K (.ref c) x=true) (k:PySem.W.keepIn K (.ref f)=true) (v:K.lookup c=some ⟨cc,oo, .fields vs,ss⟩) (e:(vs[11]?: Option Value)=some (.ref t)) (h:PySem.W.codeHdIn K c t=true):Rh K x st f (PySem.W.fnOf x x (cQ st) (cA st) (aq st) .none kV doc pm an (.ref c) ct) t:=
 ⟨⟨a,Ba l b k⟩,ES l b k h,c,by unfold PySem.W.tabIn;rw[a];dsimp only;rw[l];dsimp only;rw[v];dsimp only;rw[e]⟩
theorem all_mk {l:PySem.W.OpenLaw} {w:World} {K:PySem.W.Frag} {h:Heap} {mg:Str->Option Value} {fa f0 f1 f2 f3 f4 f5 f6 f7 f8 f9 JK JL JM JN JO JP JQ JR JS JT JU JV JW JX JY JZ J0 J1 J2 J3 J4 J5 J6 J9 J_ Ka Kb Jd Kc Kd cn dW:Addr} (X:K.In h) (G:h.Ns mainGlobals mg) (NV:mg "law"=some (.ref fa))
  {d0 d1 d2 d3 d4 d5 d6 d7 d8 d9 Ke Kf Kg Kh Ki Kj Kk Kl Km Kn Ko Kp Kq Kr Ks Kt Ku Kv Kw Kx Ky Kz KA KD KG KH KI Je KJ KL:FuncData}
  (a0:Dn K "contrary" js f0 d0)
  (a1:Dn K "turned" oS f1 d1)
  (a2:Dn K "bands" sQ f2 d2)
  (a3:Dn K "within" oT f3 d3)
  (a4:Dn K "shortened" iz f4 d4)
  (a5:Dn K "shortest" jt f5 d5)
  (a6:Dn K "ring" w9 f6 d6)
  (a7:Dn K "loop" w_ f7 d7)
  (a8:Rh K "by_size" iR f8 d8 cn)
  (a9:Dn K "next_end" ju f9 d9)
  (a10:Dn K "rim_behind" gD JK Ke)
  (a11:Dn K "rims" xc JL Kf)
  (a12:Dn K "handles" lD JM Kg)
  (a13:Dn K "most" xf JN Kh)
  (a14:Dn K "full_set" jv JO Ki)
  (a15:Dn K "_law_box" xg JP Kj)
  (a16:Dn K "_law_take" sR JQ Kk)
  (a17:Dn K "_law_other" oU JR Kl)
  (a18:Dn K "_law_yard" sS JS Km)
  (a19:Dn K "_law_bands" oV JT Kn)
  (a20:Dn K "_law_shortened" gE JU Ko)
  (a21:Dn K "_law_shortest" iA JV Kp)
  (a22:Dn K "_law_ray" xh JW Kq)
  (a23:Dn K "_law_letter" lE JX Kr)
  (a24:Dn K "_law_round" oW JY Ks)
  (a25:Dn K "_law_parted" lF JZ Kt)
  (a26:Dn K "_law_sense" oX J0 Ku)
  (a27:Dn K "_law_meets" oY J1 Kv)
  (a28:Dn K "_law_between" jw J2 Kw)
  (a29:Dn K "_law_own" xi J3 Kx)
  (a30:Dn K "_law_is_lone" lG J4 Ky)
  (a31:Dn K "_law_ring" sU J5 Kz)
  (a32:Dn K "_law_about" oZ J6 KA)
  (a33:Dn K "_law_loop" sV J9 KD)
  (a34:Dn K "_law_lie_apart" iB J_ KG)
  (a35:Dn K "_law_rims" sW Ka KH)
  (a36:Dn K "_law_within" lH Kb KI)
  (a37:Rh K "_law_full" mO Jd Je dW)
  (a38:Dn K "_law_right" o3 Kc KJ)
  (a39:Dn K "law" Ds Kd KL)
  (z_all:PySem.W.nsIn K mainGlobals "all"=some none)
  (z_bool:PySem.W.nsIn K mainGlobals "bool"=some none)
  (z_enumerate:PySem.W.nsIn K mainGlobals "enumerate"=some none)
  (z_int:PySem.W.nsIn K mainGlobals "int"=some none)
  (z_isinstance:PySem.W.nsIn K mainGlobals "isinstance"=some none)
  (z_len:PySem.W.nsIn K mainGlobals "len"=some none)
  (z_list:PySem.W.nsIn K mainGlobals "list"=some none)
  (z_max:PySem.W.nsIn K mainGlobals "max"=some none)
  (z_min:PySem.W.nsIn K mainGlobals "min"=some none)
  (z_range:PySem.W.nsIn K mainGlobals "range"=some none)
  (z_reversed:PySem.W.nsIn K mainGlobals "reversed"=some none)
  (z_set:PySem.W.nsIn K mainGlobals "set"=some none)
  (z_sorted:PySem.W.nsIn K mainGlobals "sorted"=some none)
  (z_sum:PySem.W.nsIn K mainGlobals "sum"=some none)
  (tn:([cn,dW]:List Addr).Nodup):
  ∃fd:FuncData,(∀(s:Shared) (v:Value),BindsTo s fd ⟨[v],[]⟩ [("_law_script",v)])/\ ∀base:Heap,K.In base->base.Ns mainGlobals mg->uv base mg->bp l.prog w K mg base dB 10 fa fd ["_law_script"] (kI K):=by
 have e:=NV.symm.trans (PySem.W.mg_of X G a39.1)
 cases e
 obtain ⟨_,_,_,_,_,_,_,_,_,rfl,_⟩:=a39.2.ex
 have T:Txt K mg _ _ _ _ _ _ _ _ _ _ _ _ _ _ _ _ _ _ _ _ _ _ _ _ _ _ _ _ _ _ _ _ _ _ _ _ _ _ _ _ _ _ _ _ _ _ _ _ _ _ _ _ _ _ _ _ _ _ _ _ _ _ _ _ _ _ _ _ _ _ _ _ _ _ _ _ _ _ _ _ _ _:=⟨gi X G a0 fun _ _ _ _ _ _=>aS fun _=>b7 rfl,gi X G a1 fun _ _ _ _ _ _=>aS fun _=>b7 rfl,gi X G a2 fun _ _ _ _ _ _=>aS fun _=>b7 rfl,gi X G a3 fun _ _ _ _ _ _=>aS fun _=>aS fun _=>b7 rfl,gi X G a4 fun _ _ _ _ _ _=>aS fun _=>b7 rfl,gi X G a5 fun _ _ _ _ _ _=>aS fun _=>b7 rfl,gi X G a6 fun _ _ _ _ _ _=>aS fun _=>b7 rfl,gi X G a7 fun _ _ _ _ _ _=>aS fun _=>b7 rfl,gi X G a8.1 fun _ _ _ _ _ _=>aS fun _=>b7 rfl,gi X G a9 fun _ _ _ _ _ _=>aS fun _=>aS fun _=>b7 rfl,gi X G a10 fun _ _ _ _ _ _=>aS fun _=>aS fun _=>b7 rfl,gi X G a11 fun _ _ _ _ _ _=>aS fun _=>b7 rfl,gi X G a12 fun _ _ _ _ _ _=>aS fun _=>b7 rfl,gi X G a13 fun _ _ _ _ _ _=>aS fun _=>b7 rfl,gi X G a14 fun _ _ _ _ _ _=>aS fun _=>b7 rfl,gi X G a15 fun _ _ _ _ _ _=>aS fun _=>aS fun _=>b7 rfl,gi X G a16 fun _ _ _ _ _ _=>aS fun _=>aS fun _=>b7 rfl,gi X G a17 fun _ _ _ _ _ _=>aS fun _=>b7 rfl,gi X G a18 fun _ _ _ _ _ _=>aS fun _=>aS fun _=>aS fun _=>b7 rfl,gi X G a19 fun _ _ _ _ _ _=>aS fun _=>b7 rfl,gi X G a20 fun _ _ _ _ _ _=>aS fun _=>b7 rfl,gi X G a21 fun _ _ _ _ _ _=>aS fun _=>b7 rfl,gi X G a22 fun _ _ _ _ _ _=>aS fun _=>aS fun _=>aS fun _=>b7 rfl,gi X G a23 fun _ _ _ _ _ _=>aS fun _=>aS fun _=>b7 rfl,gi X G a24 fun _ _ _ _ _ _=>aS fun _=>aS fun _=>aS fun _=>aS fun _=>b7 rfl,gi X G a25 fun _ _ _ _ _ _=>aS fun _=>aS fun _=>aS fun _=>b7 rfl,gi X G a26 fun _ _ _ _ _ _=>aS fun _=>aS fun _=>aS fun _=>aS fun _=>b7 rfl,gi X G a27 fun _ _ _ _ _ _=>aS fun _=>aS fun _=>aS fun _=>aS fun _=>aS fun _=>b7 rfl,gi X G a28 fun _ _ _ _ _ _=>aS fun _=>aS fun _=>aS fun _=>b7 rfl,gi X G a29 fun _ _ _ _ _ _=>aS fun _=>aS fun _=>b7 rfl,gi X G a30 fun _ _ _ _ _ _=>aS fun _=>aS fun _=>b7 rfl,gi X G a31 fun _ _ _ _ _ _=>aS fun _=>b7 rfl,gi X G a32 fun _ _ _ _ _ _=>aS fun _=>b7 rfl,gi X G a33 fun _ _ _ _ _ _=>aS fun _=>b7 rfl,gi X G a34 fun _ _ _ _ _ _=>aS fun _=>aS fun _=>b7 rfl,gi X G a35 fun _ _ _ _ _ _=>aS fun _=>b7 rfl,gi X G a36 fun _ _ _ _ _ _=>aS fun _=>aS fun _=>b7 rfl,gi X G a37.1 fun _ _ _ _ _ _=>aS fun _=>b7 rfl,gi X G a38 fun _ _ _ _ _ _=>aS fun _=>b7 rfl,gi X G a39 fun _ _ _ _ _ _=>aS fun _=>b7 rfl,a8.2.1,a8.2.2,a37.2.1,a37.2.2,tn,X3 X G z_all,X3 X G z_bool,X3 X G z_enumerate,X3 X G z_int,X3 X G z_isinstance,X3 X G z_len,X3 X G z_list,X3 X G z_max,X3 X G z_min,X3 X G z_range,X3 X G z_reversed,X3 X G z_set,X3 X G z_sorted,X3 X G z_sum⟩
 exact ⟨_,fun s v=> .of_eq rfl,fun base _ _ bb=>haveI:x4 base mg:=⟨bb⟩;Jo T⟩
theorem walk {l:PySem.W.OpenLaw} {q:Program} {loose:List Str} {XP:(Str->Option Value)->Heap->Prop} {YP:World->Heap->Prop} {d:DefRec} {K:Params->PySem.W.Frag} {ts:List Addr} (hn:l.most=some 63) (Lx:d.params.defaults=[])
  (hY: ∀(w:World) (h:Heap),YP w h->(K w.params).In h/\ ∀r∈ts,h.get? r=some (PySem.W.tabObj #[])) (MC: ∀w:World,PySem.W.noTabs (K w.params)=true) (hC: ∀w:World,ts.all (Cc (K w.params))=true) (hX: ∀w:World,iJ.all (tabOf (K w.params) ts)=true)
  (F: ∀(w:World) (mg:Str->Option Value) (fa:Addr) (h:Heap),(K w.params).In h->h.Ns mainGlobals mg->mg d.name=some (.ref fa)->
   ∃fd:FuncData,(∀(s:Shared) (u:Value),BindsTo s fd ⟨[u],[]⟩ [("_law_script",u)])/\ ∀base:Heap,(K w.params).In base->base.Ns mainGlobals mg->uv base mg->bp l.prog w (K w.params) mg base dB 10 fa fd ["_law_script"] (kI (K w.params))):
  PySem.W.WalkO q loose XP YP l.row.toRowW d [] (fun f vs=>PySem.call f vs):=
 L2.Cd (n:=63) (k:=10) (x:="_law_script") (CX:=dB) (sp:=kI) hn (by decide) Lx ⟨rfl,by decide,by decide,rfl⟩ hY MC hC hX F (fun _ _ a ns hl hX hS=>⟨a,ns,rfl,hS,hl,hX,fun _=>rfl⟩) fun _ _ _ _ z=>z
end My
namespace PySem.W.Fast
def tw10112400297713107387:=Nat
def tw10149285479065204760:=Nat
def tw10306948195332479503:=Nat
def tw10316412103978756251:=Nat
def tw10468842270200427178:=Nat
def tw10488794008626654887:=Nat
def tw1063783395570703753:=Nat
def tw10696952622774207147:=Nat
def tw10742565249507117296:=Nat
def tw1079830402835437464:=Nat
def tw10873841397002641282:=Nat
def tw10907068265912880426:=Nat
def tw11010583186970919785:=Nat
def tw11317180096588643890:=Nat
def tw11336874568417663119:=Nat
def tw11415065129752840096:=Nat
def tw11605508116812083307:=Nat
def tw11773575982676050573:=Nat
def tw11777992316260286518:=Nat
def tw11906817719231791676:=Nat
def tw1193352559778434841:=Nat
def tw11939110002739947889:=Nat
def tw12264629704110137449:=Nat
def tw12305247958430215762:=Nat
def tw12315668919606525252:=Nat
def tw12425862280182927267:=Nat
def tw12501897355298809322:=Nat
def tw12520900738717461999:=Nat
def tw12531569470120308325:=Nat
def tw12729175290330298599:=Nat
def tw12749986148566675020:=Nat
def tw12762093064800174805:=Nat
def tw12882459101466675259:=Nat
def tw12957449702911808075:=Nat
def tw12981201035008429929:=Nat
def tw12984601368022700928:=Nat
def tw12993717898856034280:=Nat
def tw13009630430206787159:=Nat
def tw1310478106684136529:=Nat
def tw13180016318279848543:=Nat
def tw13219481823712080611:=Nat
def tw13238101345676613455:=Nat
def tw1337985101355692378:=Nat
def tw13449657899315950313:=Nat
def tw13631001286343574369:=Nat
def tw1386283340290505997:=Nat
def tw13882372608007429210:=Nat
def tw14043178933230812875:=Nat
def tw14051679887223200705:=Nat
def tw14108557412319076792:=Nat
def tw14227218672655454570:=Nat
def tw14351788061792101376:=Nat
def tw14462833949998537066:=Nat
def tw14470170494333461874:=Nat
def tw14496545083662659462:=Nat
def tw14515499376604327177:=Nat
def tw14530577129665294849:=Nat
def tw14568985679293654852:=Nat
def tw14904628453222334894:=Nat
def tw14950695681788183649:=Nat
def tw14963268668852235605:=Nat
def tw14991061673209065296:=Nat
def tw15025449544064980832:=Nat
def tw15033665695937009262:=Nat
def tw15085316638194371464:=Nat
def tw1513627219175215637:=Nat
def tw1514505853890422127:=Nat
def tw1518085968048883594:=Nat
def tw15196754364242134424:=Nat
def tw15324888199047665253:=Nat
def tw15441030889527369449:=Nat
def tw15481290192616354675:=Nat
def tw15487666695822258911:=Nat
def tw15519223155088295154:=Nat
def tw15758972852424175790:=Nat
def tw15771285388875943991:=Nat
def tw16060942553816844495:=Nat
def tw16083159312689351201:=Nat
def tw16336989197788697417:=Nat
def tw16371997962405040906:=Nat
def tw16400196655974046263:=Nat
def tw16402172656799066439:=Nat
def tw16477640049651449941:=Nat
def tw1654938236543093215:=Nat
def tw16570439714450208286:=Nat
def tw16633303247680899199:=Nat
def tw16636929373905192061:=Nat
def tw16638169392829749949:=Nat
def tw1672660975214705811:=Nat
def tw16847137901790134543:=Nat
def tw16913105291538751462:=Nat
def tw16945226658384533943:=Nat
def tw17002539161716357461:=Nat
def tw17107734528324600652:=Nat
def tw17275104758695530118:=Nat
def tw17294582872335838440:=Nat
def tw17357700850650536890:=Nat
def tw17362368394540060906:=Nat
def tw1749029197196075419:=Nat
def tw1752123085279322697:=Nat
def tw17608690312948248995:=Nat
def tw17627789283152861707:=Nat
def tw17749932289145147889:=Nat
def tw17900915523429876874:=Nat
def tw18030687053132954319:=Nat
def tw18190336250933735840:=Nat
def tw18367442414398797816:=Nat
def tw18416878056900471305:=Nat
def tw1988973908555036432:=Nat
def tw2007674332814774358:=Nat
def tw2038719830655146386:=Nat
def tw204542277907968219:=Nat
def tw2120403270028010073:=Nat
def tw2132076195804100758:=Nat
def tw2189935516845669784:=Nat
def tw2240175363543582102:=Nat
def tw2280959958274147240:=Nat
def tw268209300843723232:=Nat
def tw2800192014922725325:=Nat
def tw2840343870338987759:=Nat
def tw2907384235470473531:=Nat
def tw296207907199703508:=Nat
def tw3035063920234469909:=Nat
def tw330374951665376857:=Nat
def tw3363099805836672887:=Nat
def tw336756975497344980:=Nat
def tw3479102818420729706:=Nat
def tw3563348274946503098:=Nat
def tw3598784386566938308:=Nat
def tw4100794478986385739:=Nat
def tw4350981863873642890:=Nat
def tw4390377739701856338:=Nat
def tw4502914156440274522:=Nat
def tw4569286586712436288:=Nat
def tw4619151054365815692:=Nat
def tw4642676792348421231:=Nat
def tw4662869504978559772:=Nat
def tw4817032985733651550:=Nat
def tw4819831172289978434:=Nat
def tw4822111812785956584:=Nat
def tw4824778989653628787:=Nat
def tw4856152772755275455:=Nat
def tw5192965089296099159:=Nat
def tw5220418551421555307:=Nat
def tw5373279271113642819:=Nat
def tw547152201092677940:=Nat
def tw5471699581674709358:=Nat
def tw5629404997617868469:=Nat
def tw5649835676420161929:=Nat
def tw5848865195829223373:=Nat
def tw5946843308877922166:=Nat
def tw5966486523403984096:=Nat
def tw6014908742689478853:=Nat
def tw6022234523627893530:=Nat
def tw6044053116891821237:=Nat
def tw6166574724006481504:=Nat
def tw6405923202753155924:=Nat
def tw6427889267091253486:=Nat
def tw6495110435185496042:=Nat
def tw6526312229510249663:=Nat
def tw6624372078644478386:=Nat
def tw668318229413683604:=Nat
def tw6977005870810256008:=Nat
def tw7215975808066336018:=Nat
def tw739299519931656453:=Nat
def tw7449877407604156521:=Nat
def tw7562542607123939814:=Nat
def tw7581640721394756298:=Nat
def tw7626552364371723124:=Nat
def tw7706096386095221764:=Nat
def tw7734335103777238731:=Nat
def tw7994266828272968510:=Nat
def tw8060237098163299748:=Nat
def tw8285360753708139788:=Nat
def tw8290018280323105097:=Nat
def tw8315309733007219281:=Nat
def tw8344945726128310969:=Nat
def tw837111897090815098:=Nat
def tw8435744680481632191:=Nat
def tw8481708521960022590:=Nat
def tw8500699310012373328:=Nat
def tw859739700012385660:=Nat
def tw8804794521476902768:=Nat
def tw8879974021775449745:=Nat
def tw8939232430808131932:=Nat
def tw9022569822866862115:=Nat
def tw9059754935361243453:=Nat
def tw917375677573533300:=Nat
def tw9280463204537893138:=Nat
def tw9282048099567754177:=Nat
def tw93268851957061553:=Nat
def tw9331718279240129487:=Nat
def tw9373577979243130539:=Nat
def tw9375915947304651756:=Nat
def tw9547924759319948949:=Nat
def tw9561610630071448264:=Nat
def tw9718485300706265609:=Nat
def tw9764572709534429134:=Nat
def tw988219993188355260:=Nat
def tw9914138869577985397:=Nat
end PySem.W.Fast
open PySem PySem.W PyProof.Rows
set_option maxRecDepth 100000 in
set_option maxHeartbeats 0 in
theorem PySem.Challenge.cw_mustmeet_k42_most_and_full_sets_holds : PySem.Challenge.rw_mustmeet_k42_most_and_full_sets.Holds := by
 w_on;o_law;k_head;(case hw=>w_witness2)
 k_fill
 refine My.walk (l:=PySem.Challenge.rw_mustmeet_k42_most_and_full_sets) rfl rfl (fun w h Y=>⟨PySem.W.km_in_of Y,PySem.W.km_tabs_of Y⟩) ?KT ?KC ?KX ?F
 (case KT=>intro w;kernel_rfl)
 (case KC=>intro w;kernel_rfl)
 (case KX=>intro w;kernel_rfl)
 case F=>
  intro w mg fa h KX G hmg
  refine' My.all_mk KX G hmg (My.dn ?a0 ?l0 ?c0 ?k0) (My.dn ?a1 ?l1 ?c1 ?k1) (My.dn ?a2 ?l2 ?c2 ?k2) (My.dn ?a3 ?l3 ?c3 ?k3) (My.dn ?a4 ?l4 ?c4 ?k4) (My.dn ?a5 ?l5 ?c5 ?k5) (My.dn ?a6 ?l6 ?c6 ?k6) (My.dn ?a7 ?l7 ?c7 ?k7) (My.dnL ?a8 ?l8 ?c8 ?k8 ?v8 ?e8 ?h8) (My.dn ?a9 ?l9 ?c9 ?k9) (My.dn ?a10 ?l10 ?c10 ?k10) (My.dn ?a11 ?l11 ?c11 ?k11) (My.dn ?a12 ?l12 ?c12 ?k12) (My.dn ?a13 ?l13 ?c13 ?k13) (My.dn ?a14 ?l14 ?c14 ?k14) (My.dn ?a15 ?l15 ?c15 ?k15) (My.dn ?a16 ?l16 ?c16 ?k16) (My.dn ?a17 ?l17 ?c17 ?k17) (My.dn ?a18 ?l18 ?c18 ?k18) (My.dn ?a19 ?l19 ?c19 ?k19) (My.dn ?a20 ?l20 ?c20 ?k20) (My.dn ?a21 ?l21 ?c21 ?k21) (My.dn ?a22 ?l22 ?c22 ?k22) (My.dn ?a23 ?l23 ?c23 ?k23) (My.dn ?a24 ?l24 ?c24 ?k24) (My.dn ?a25 ?l25 ?c25 ?k25) (My.dn ?a26 ?l26 ?c26 ?k26) (My.dn ?a27 ?l27 ?c27 ?k27) (My.dn ?a28 ?l28 ?c28 ?k28) (My.dn ?a29 ?l29 ?c29 ?k29) (My.dn ?a30 ?l30 ?c30 ?k30) (My.dn ?a31 ?l31 ?c31 ?k31) (My.dn ?a32 ?l32 ?c32 ?k32) (My.dn ?a33 ?l33 ?c33 ?k33) (My.dn ?a34 ?l34 ?c34 ?k34) (My.dn ?a35 ?l35 ?c35 ?k35) (My.dn ?a36 ?l36 ?c36 ?k36) (My.dnL ?a37 ?l37 ?c37 ?k37 ?v37 ?e37 ?h37) (My.dn ?a38 ?l38 ?c38 ?k38) (My.dn ?a39 ?l39 ?c39 ?k39) ?z_all ?z_bool ?z_enumerate ?z_int ?z_isinstance ?z_len ?z_list ?z_max ?z_min ?z_range ?z_reversed ?z_set ?z_sorted ?z_sum ?tn
  case a0|l0|c0|k0|a1|l1|c1|k1|a2|l2|c2|k2|a3|l3|c3|k3|a4|l4|c4|k4|a5|l5|c5|k5|a6|l6|c6|k6|a7|l7|c7|k7|a8|l8|c8|k8|v8=>k_is
  (case e8=>rfl)
  (case h8=>kernel_rfl)
  case a9|l9|c9|k9|a10|l10|c10|k10|a11|l11|c11|k11|a12|l12|c12|k12|a13|l13|c13|k13|a14|l14|c14|k14|a15|l15|c15|k15|a16|l16|c16|k16|a17|l17|c17|k17|a18|l18|c18|k18|a19|l19|c19|k19|a20|l20|c20|k20|a21|l21|c21|k21|a22|l22|c22|k22|a23|l23|c23|k23|a24|l24|c24|k24|a25|l25|c25|k25|a26|l26|c26|k26|a27|l27|c27|k27|a28|l28|c28|k28|a29|l29|c29|k29|a30|l30|c30|k30|a31|l31|c31|k31|a32|l32|c32|k32|a33|l33|c33|k33|a34|l34|c34|k34|a35|l35|c35|k35|a36|l36|c36|k36|a37|l37|c37|k37|v37=>k_is
  (case e37=>rfl)
  (case h37=>kernel_rfl)
  case a38|l38|c38|k38|a39|l39|c39|k39|z_all|z_bool|z_enumerate|z_int|z_isinstance|z_len|z_list|z_max|z_min|z_range|z_reversed|z_set|z_sorted|z_sum=>k_is
  (case tn=>decide)
