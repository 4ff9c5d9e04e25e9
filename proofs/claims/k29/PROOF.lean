import PyProof.Rows.All
import Wide.All
import OpenK.AllK
import Wide.FinOn
import Lean
import PyProof.EqAt
import PyProof.EqKinds
import PyProof.TupleCall
import PySem.Challenge.RW_mustmeet_k29_whole_told_otherwise
set_option Elab.async false
set_option linter.all false
set_option maxRecDepth 100000
open List renaming getElem?_eq_getElem→Iw,getElem?_eq_some_iff→Iy,length_map→Kw,mem_singleton→Sz,idxOf_lt_length_of_mem→SA,length_pos_iff→SD,length_append→UD,mem_cons→UE,map_append→UH,getD_eq_getElem?_getD→UI,size_toArray→WM,mem_cons_of_mem→WN,mem_of_getElem?→WQ,length_take→Xm,mem_append→Xn,getElem?_map→Xo,mem_cons_self→Xp,not_mem_nil→Xu,map_cons→Xw,length_drop→Xx,take_of_length_le→Xz,mem_map→XA,length_reverse→XB,mem_append_right→XC,filter_cons_of_neg→XE,getElem_mem→XF,nodup_cons→XH,mem_filter→XI,filter_cons_of_pos→XQ,length_cons→XR,flatMap_cons→XS,getElem?_append_left→XT,mem_flatMap→XW,lookup_cons→XX,append_nil→XZ,take_append_drop→X3,map_map→X4,flatMap_append→X5,length_eq_zero_iff→X7,drop_eq_getElem_cons→X_,getElem_idxOf→Ya,pairwise_map→Yc,nodup_append→Ye,getElem?_append_right→Yf,append_assoc→Yj,getElem?_eq_none→Yl,filter_append→Yo,take_length→Yq,mem_append_left→Yr,mem_range→Yt,drop_of_length_le→Yu,range_succ→Yv,getElem?_drop→Yw,any_cons→Yx,mem_reverse→YA,pairwise_cons→YB,pairwise_iff_getElem→YC,find?_cons→YD,pairwise_append→YF,sum_cons→YG,map_congr_left→YH,map_reverse→YI,getElem?_reverse→YS,flatten_cons→YU,mem_of_mem_take→YV,getLast?_eq_getElem?→YY,getElem?_take→Y2,eraseIdx_cons_succ→Y4,nodup_nil→Y6,lt_irrefl→Y7,flatMap_singleton→Y8,drop_eq_nil_of_le→Y9,length_filter_le→Y_,mem_of_mem_drop→Zb,eq_nil_of_length_eq_zero→Zc,forIn_cons→Zg,foldl_cons→Zh,getElem_of_mem→Zj,reverse_perm→Zq,map_id→Zr,length_range→Zs,idxOf_append→Zt,ext_getElem?→Zu,getElem_map→Zz,sum_replicate_nat→ZM,head?_eq_getElem?→ZN,idxOf_cons→ZT,perm_append_comm→ZW,cons_lt_cons_iff→ZX,dropLast_concat→ZZ,replicate_succ→Z0,filterMap_cons→Z1,map_take→Z5,map_drop→Z6,take_add_one→Qab,filter_congr→Qac,any_eq_false→Qad,perm_middle→Qai,flatMap_nil→Qaj,all_eq_true→Qak,of_mem_zip→Qam
open Nat renaming le_refl→OS,zero_le→WO,ne_of_lt→Xy,lt_of_lt_of_le→XD,le_trans→XM,lt_of_le_of_lt→XN,le_of_lt→XU,lt_irrefl→XY,min_eq_left→Yg,min_eq_right→Yi,succ_le_succ→Yp,mod_eq_of_lt→Yy,lt_succ_self→Yz,mul_comm→YE,le_succ→YJ,lt_or_gt_of_ne→YK,max_eq_left→YO,lt_succ_of_lt→YT,max_eq_right→YW,lt_trans→YX,mod_lt→Y1,dvd_of_mod_eq_zero→Y5,succ_ne_zero→Za,div_add_mod→Zf,succ_mul→Zk,lt_asymm→Zl,le_succ_of_le→Zp,succ_ne_self→Zy,zero_add→ZJ,ne_of_gt→ZK,add_comm→ZL,not_lt_zero→ZQ,mod_add_div→ZR,le_antisymm→ZS,le_of_ble_eq_true→ZU,div_lt_iff_lt_mul→ZV,le_of_dvd→Z4,mod_eq_sub_mod→Z_,add_zero→Qaa,le_of_not_lt→Qah
open PySem.Heap renaming get?_push_of_some→Sy,get?_push_size→Xq,lt_size→Xs,get?_update_other→XO,get?_update_self→X9,size_push→Ze
open Int renaming toNat_natCast→UG,emod_eq_of_lt→XJ,natCast_add→X6,emod_lt_of_pos→Yb,emod_nonneg→Yh,zero_add→YL,add_emod_right→YM,emod_emod_of_dvd→Zd,sub_zero→Zm,add_mul_emod_self_left→Zo,add_assoc→Zx,natCast_emod→ZA,natCast_ediv→ZC,add_zero→ZO,emod_add_mul_ediv→ZY,natCast_nonneg→kb,sub_emod→Qaf,emod_add_emod→Qag,natCast_mul→Qan
open PySem renaming boot_len→Xl,mem_of_lookup→YZ
open Option.some renaming inj→Xr
open PySem.F renaming plainAttrs_str→Xt,plainAttrs_list→XG,slot_str_join→X2,type_str_join→Yk,type_list_append→Ym,slot_list_append→Yn,plain_max_loop→Ys,type_list_pop→YQ,slot_list_pop→YR,plain_list_iadd→Y3,type_str_islower→Zv,slot_str_islower→Zw,type_str_lower→ZE,type_str_index→ZF,slot_str_lower→ZG,slot_str_index→ZH,entry_max_loop→ZI
open Bool renaming false_ne_true→Xv,and_eq_true→X8,false_eq_true→YN,eq_iff_iff→Zi,or_false→Z7,not_true→Z8,false_or→Z9,decide_and→Qao
open PySem.W renaming mg_none_of→X0,callWith_K→Zn,mg_of→Z3
open PyProof.Rows renaming callWith_type1→X1
open List.Pairwise renaming imp_of_mem→Y0,imp→Qae
open Array renaming toList_inj→ZD
open Option renaming map_some→ZP
open PySem.Calls renaming callWith_builtin→Z2
open PySem.Heap.SameBut renaming update→Qal
namespace L2
open PySem PySem.Spec PyProof.Rows
abbrev Key:=Sum Int Str
noncomputable def qA:Key->Value->Bool
 | .inl k,v=>Value.isInt k v
 | .inr x,v=>Value.isStrOf x v
noncomputable def P0 (w:World):Key->Int
 | .inl k=>hashInt k
 | .inr x=>hashStr w x
theorem b7: ∀{k:Key} {v:Value},qA k v=true->(∃i t,k=Sum.inl i/\v=Value.int i t)\/(∃x t,k=Sum.inr x/\v=Value.str x t)
 | .inl i,v,h=>by
  obtain ⟨t,e⟩:=Value.isInt_shape (k:=i) (v:=v) h
  exact .inl ⟨i,t,rfl,e⟩
 | .inr x,v,h=>by
  obtain ⟨t,e⟩:=Value.isStrOf_shape (x:=x) (v:=v) h
  exact .inr ⟨x,t,rfl,e⟩
theorem zY (i:Int) (t:Tok):qA (.inl i) (.int i t)=true:=by simp[qA,Value.isInt]
theorem zZ (x:Str) (t:Tok):qA (.inr x) (.str x t)=true:=by simp[qA,Value.isStrOf]
theorem HD (a b:Int):decide ((Sum.inl a:Key)=Sum.inl b)=(a==b):=by
 by_cases e:a=b
 ·subst e;simp
 ·have h: ¬(Sum.inl a:Key)=Sum.inl b:=fun q=>e (Sum.inl.inj q)
  rw[decide_eq_false h]
  exact (beq_eq_false_iff_ne.mpr e).symm
theorem HE (a b:Str):decide ((Sum.inr a:Key)=Sum.inr b)=decide (a=b):=by
 by_cases e:a=b
 ·subst e;simp
 ·have h: ¬(Sum.inr a:Key)=Sum.inr b:=fun q=>e (Sum.inr.inj q)
  rw[decide_eq_false h,decide_eq_false e]
theorem HF (a:Int) (b:Str):decide ((Sum.inl a:Key)=Sum.inr b)=false:=decide_eq_false (fun q=>nomatch q)
theorem HG (a:Str) (b:Int):decide ((Sum.inr a:Key)=Sum.inl b)=false:=decide_eq_false (fun q=>nomatch q)
noncomputable def cA (prog:Program) (w:World):PySem.KeyKind prog w Key where
 is:=qA
 hash:=P0 w
 inj:=fun v a b ha hb=>by
  rcases b7 ha with ⟨i,t,rfl,rfl⟩ | ⟨x,t,rfl,rfl⟩
  ·rcases b7 hb with ⟨j,u,rfl,e⟩ | ⟨y,u,rfl,e⟩
   ·injection e with e1 _;rw[e1]
   ·exact nomatch e
  ·rcases b7 hb with ⟨j,u,rfl,e⟩ | ⟨y,u,rfl,e⟩
   ·exact nomatch e
   ·injection e with e1 _;rw[e1]
 byValue:=fun k v h=>by
  rcases b7 h with ⟨i,t,rfl,rfl⟩ | ⟨x,t,rfl,rfl⟩<;>rfl
 pyHash:=fun hv h=>by
  rcases b7 hv with ⟨i,t,rfl,rfl⟩ | ⟨x,t,rfl,rfl⟩
  ·exact wpAny_pyHash_int h
  ·exact wpAny_pyHash_str h
 eqBool:=fun hu hv h=>by
  rcases b7 hu with ⟨i,t,rfl,rfl⟩ | ⟨x,t,rfl,rfl⟩
  ·rcases b7 hv with ⟨j,u,rfl,rfl⟩ | ⟨y,u,rfl,rfl⟩
   ·rw[HD]at h;exact wpAny_eqBool_int h
   ·rw[HF]at h;exact SeqAt.EqAt.int_str i t y u _ _ _ _ h
  ·rcases b7 hv with ⟨j,u,rfl,rfl⟩ | ⟨y,u,rfl,rfl⟩
   ·rw[HG]at h;exact SeqAt.EqAt.str_int x t j u _ _ _ _ h
   ·rw[HE]at h;exact wpAny_eqBool_str h
 «strs» :=fun k x t v h=>by
  rcases b7 h with ⟨i,u,rfl,e⟩ | ⟨y,u,rfl,e⟩
  ·exact nomatch e
  ·injection e with e1 _
   subst e1
   cases v<;>rfl
theorem uI (prog:Program) (w:World) (i:Int) (t:Tok):(cA prog w).is (.inl i) (.int i t)=true:=zY i t
theorem uJ (prog:Program) (w:World) (x:Str) (t:Tok):(cA prog w).is (.inr x) (.str x t)=true:=zZ x t
inductive V where
 | fB | bl (b:Bool) | int (i:Int) | str (x:Str) | yB (b:Array UInt8) | OE (b:UInt64) | ref (a:Addr) | ty (n:String)
 deriving DecidableEq
def RelV:V->Value->Prop
 | .fB,u=>u=Value.none
 | .bl b,u=>u=Value.bool b
 | .int i,u=> ∃t,u=Value.int i t
 | .str x,u=> ∃t,u=Value.str x t
 | .yB b,u=> ∃t,u=Value.bytes b t
 | .OE b,u=> ∃t,u=Value.float b t
 | .ref a,u=>u=Value.ref a
 | .ty n,u=>u=Value.type n
abbrev Vals:List V->List Value->Prop:=Paired RelV
theorem Vals.length {xs:List V} {us:List Value} (r:Vals xs us):xs.length=us.length:=Paired.length r
theorem Vals.get: ∀{xs:List V} {us:List Value} {i:Nat} {x:V},Vals xs us->xs[i]? =some x-> ∃u,us[i]? =some u/\RelV x u
 | _,_,_,_, .nil,e=>by simp at e
 | _,_,0,_, .cons r _,e=>by simp at e;subst e;exact ⟨_,rfl,r⟩
 | _,_,i+1,x, .cons _ t,e=>by
  obtain ⟨u,h1,h2⟩:=Vals.get (i:=i) (x:=x) t (by simpa using e)
  exact ⟨u,by simpa using h1,h2⟩
theorem Vals.set {x:V} {u:Value} (r:RelV x u): ∀{xs:List V} {us:List Value} (i:Nat),Vals xs us->Vals (xs.set i x) (us.set i u)
 | _,_,_, .nil=> .nil
 | _,_,0, .cons _ t=> .cons r t
 | _,_,i+1, .cons q t=> .cons q (Vals.set r i t)
theorem Vals.append: ∀{xs ys:List V} {us ws:List Value},Vals xs us->Vals ys ws->Vals (xs++ys) (us++ws)
 | _,_,_,_, .nil,s=>s
 | _,_,_,_, .cons r t,s=> .cons r (Vals.append t s)
theorem Vals.take: ∀{xs:List V} {us:List Value} (n:Nat),Vals xs us->Vals (xs.take n) (us.take n)
 | _,_,0,_=> .nil
 | _,_,_+1, .nil=> .nil
 | _,_,n+1, .cons r t=> .cons r (Vals.take n t)
theorem Vals.drop: ∀{xs:List V} {us:List Value} (n:Nat),Vals xs us->Vals (xs.drop n) (us.drop n)
 | _,_,0,r=>r
 | _,_,_+1, .nil=> .nil
 | _,_,n+1, .cons _ t=>Vals.drop n t
def lN:Option V->Option Value->Prop
 | some v,some u=>RelV v u
 | none,none=>True
 | _,_=>False
def KV {κ:Type}:List (κ×V)->List (κ×Value)->Prop:=Paired fun (p:κ×V) (q:κ×Value)=>p.1=q.1/\RelV p.2 q.2
noncomputable def kV:Key->V
 | .inl i=> .int i
 | .inr x=> .str x
inductive HO where
  | lst (xs:List V)
  | tup (xs:List V)
  | dK (aP:List (Key×V)) | dT (aP:List (List Key×V))
  | set (S:Int->Bool) (n:Nat)
  | ins (C dx:Addr) (fs:List (Str×V))
  | own (x:Addr)
  | xd (fs:List (Str×V))
  | met (f x:Addr)
  | P4 (lo hi:Int)
  | Eg (o:Obj) (u:HO)
  | HH (ps:Array Value)
  | ext (φ:Heap->Prop)
abbrev Hp:=Addr->Option HO
noncomputable def upd (H:Hp) (a:Addr) (o:HO):Hp:=fun b=>if b=a then some o else H b
theorem ah {H:Hp} {a:Addr} {o:HO}:upd H a o a=some o:=by unfold upd;rw[if_pos rfl]
theorem au {H:Hp} {a b:Addr} {o:HO} (h:b≠a):upd H a o b=H b:=by unfold upd;rw[if_neg h]
theorem Mc {H:Hp} {a b:Addr} {o u:HO} (h:H a=some o) (h':H b=some u) (d:o≠u):a≠b:=by
 intro e;subst e;rw[h]at h';exact d (Xr h')
theorem ay {H:Hp} {a b:Addr} {o:HO} (h:H a=some o) (h':H b=none):a≠b:=by
 intro e;subst e;rw[h]at h';cases h'
section
variable (P:Program) (w:World)
def cR (H:Hp) (h:Heap) (a:Addr):HO->Prop
 | .lst xs=>xs.length<=sizeLine/\ ∃(aJ:List Value) (n:Nat),Vals xs aJ/\h.get? a=some { cls:= .type "list",data:= .seq aJ.toArray n }
 | .tup xs=>xs.length<=sizeLine/\ ∃aJ:List Value,Vals xs aJ/\IsTup h a aJ.toArray
 | .dK aP=>aP.length<=sizeLine/\(a==sysModules)=false/\ ∃vs,KV aP vs/\h.DictOf (cA P w) a vs
 | .dT aP=>aP.length<=sizeLine/\(a==sysModules)=false/\ ∃xs:List (List Key×Addr×Value),
   Paired (fun (p:List Key×V) (q:List Key×Addr×Value)=>p.1=q.1/\H q.2.1=some (.tup (p.1.map kV))/\RelV p.2 q.2.2) aP xs/\
   ∃o es ep,h.get? a=some o/\o.ExactDict/\o.data= .dict es ep/\es.toList=xs.map (entryOfKey (tupleKind (cA P w)))/\(xs.map (·.1)).Nodup
 | .set S n=>h.SetOf (intKind P w) a S n
 | .ins C dx fs=>H dx=some (.own a)/\fs.length<=1000/\dx≠a/\h.get? a=some (PySem.W.instObj C dx)/\
   ∃mA,h.Ns1 dx mA/\(∀f,lN (fs.lookup f) (mA f))/\PySem.Within mA (fs.map (·.1))
 | .own _=> ∃o,h.get? a=some o
 | .xd fs=> ∃mA,h.Ns1 a mA/\ ∀f,lN (fs.lookup f) (mA f)
 | .P4 lo hi=> ∃t u v,h.get? a=some { cls:= .type "range",data:= .fields #[.int lo t, .int hi u, .int 1 v] }
 | .Eg o u=>h.get? a=some o/\cR H h a u
 | .HH ps=>h.get? a=some { cls:= .none,data:= .fields ps }
 | .met f x=>h.get? a=some (PySem.W.methodObj (.ref f) (.ref x))
 | .ext φ=>φ h/\(∃o,h.get? a=some o)/\ ∀h1 h2:Heap,φ h1->(∀o,h1.get? a=some o->h2.get? a=some o)->φ h2
def jU (H:Hp) (h:Heap):Prop:= ∀a o,H a=some o->cR P w H h a o
end
section
variable {P:Program} {w:World} {H H':Hp} {h h':Heap} {a:Addr} {o:HO}
theorem cR.lt (x:cR P w H h a o):a<h.objs.size:=by
 cases o with
 | lst xs=>obtain ⟨_,_,_,_,e⟩:=x;exact Xs e
 | tup xs=>obtain ⟨_,_,_,p⟩:=x;exact p.lt
 | dK aP=>obtain ⟨_,_,_,_,o,_,_,e,_⟩:=x;exact Xs e
 | dT aP=>obtain ⟨_,_,_,_,o,_,_,e,_⟩:=x;exact Xs e
 | set S n=>obtain ⟨o,_,_,_,e,_⟩:=x;exact Xs e
 | ins C dx fs=>obtain ⟨_,_,_,e,_⟩:=x;exact Xs e
 | own y=>obtain ⟨_,e⟩:=x;exact Xs e
 | xd fs=>obtain ⟨_,⟨_,_,_,e,_⟩,_⟩:=x;exact Xs e
 | P4 lo hi=>obtain ⟨_,_,_,e⟩:=x;exact Xs e
 | Eg ob u=>obtain ⟨e,_⟩:=x;exact Xs e
 | HH ps=>exact Xs (show h.get? a=some _ from x)
 | met f y=>exact Xs (show h.get? a=some _ from x)
 | ext φ=>obtain ⟨_,⟨_,e⟩,_⟩:=x;exact Xs e
theorem Paired.HI {α β:Type} {F G:α->β->Prop}: ∀{l₁:List α} {l₂:List β},Paired F l₁ l₂->(∀a b,F a b->G a b)->Paired G l₁ l₂
 | _,_, .nil,_=> .nil
 | _,_, .cons r t,f=> .cons (f _ _ r) (Paired.HI t f)
theorem cR.uK (x:cR P w H h a o) (k: ∀b u,(b=a\/H b=some (.own a))->h.get? b=some u->h'.get? b=some u)
  (ho: ∀b,H b=some (.own a)->H' b=some (.own a)) (ht: ∀b xs,H b=some (.tup xs)->H' b=some (.tup xs)):cR P w H' h' a o:=by
 induction o with
 | lst xs=>obtain ⟨z,aJ,n,r,e⟩:=x;exact ⟨z,aJ,n,r,k _ _ (.inl rfl) e⟩
 | tup xs=>obtain ⟨z,aJ,r,ob,e,c⟩:=x;exact ⟨z,aJ,r,ob,k _ _ (.inl rfl) e,c⟩
 | dK aP=>obtain ⟨z,y,vs,r,ob,es,ep,e,c⟩:=x;exact ⟨z,y,vs,r,ob,es,ep,k _ _ (.inl rfl) e,c⟩
 | dT aP=>
  obtain ⟨z,y,xs,r,ob,es,ep,e,c⟩:=x
  exact ⟨z,y,xs,Paired.HI r fun p q z=>⟨z.1,ht _ _ z.2.1,z.2.2⟩,ob,es,ep,k _ _ (.inl rfl) e,c⟩
 | set S n=>obtain ⟨ob,es,ep,t,e,c⟩:=x;exact ⟨ob,es,ep,t,k _ _ (.inl rfl) e,c⟩
 | ins C dx fs=>
  obtain ⟨d,z,ne,e,mA,⟨od,es,ep,e2,c⟩,r⟩:=x
  exact ⟨ho _ d,z,ne,k _ _ (.inl rfl) e,mA,⟨od,es,ep,k _ _ (.inr d) e2,c⟩,r⟩
 | own y=>obtain ⟨ob,e⟩:=x;exact ⟨ob,k _ _ (.inl rfl) e⟩
 | xd fs=>obtain ⟨mA,⟨od,es,ep,e,c⟩,r⟩:=x;exact ⟨mA,⟨od,es,ep,k _ _ (.inl rfl) e,c⟩,r⟩
 | P4 lo hi=>obtain ⟨t,u,v,e⟩:=x;exact ⟨t,u,v,k _ _ (.inl rfl) e⟩
 | Eg ob u ih=>obtain ⟨e,q⟩:=x;exact ⟨k _ _ (.inl rfl) e,ih q⟩
 | HH ps=>
  have e:h.get? a=some { cls:= .none,data:= .fields ps }:=x
  show h'.get? a=some { cls:= .none,data:= .fields ps }
  exact k a _ (.inl rfl) e
 | met f y=>
  have e:h.get? a=some (PySem.W.methodObj (.ref f) (.ref y)):=x
  show h'.get? a=some (PySem.W.methodObj (.ref f) (.ref y))
  exact k a _ (.inl rfl) e
 | ext φ=>obtain ⟨p,⟨o,e⟩,st⟩:=x;exact ⟨st _ _ p fun o q=>k _ _ (.inl rfl) q,⟨o,k _ _ (.inl rfl) e⟩,st⟩
theorem jU.lt (x:jU P w H h) (e:H a=some o):a<h.objs.size:=(x a o e).lt
theorem jU.fresh (x:jU P w H h) (e:h.objs.size<=a):H a=none:=by
 cases q:H a with
 | none=>rfl
 | some u=>exact absurd (XD (x.lt q) e) (XY _)
theorem jU.kept (x:jU P w H h) (k: ∀b u,h.get? b=some u->h'.get? b=some u):jU P w H h':=fun a o e=>
 (x a o e).uK (fun b u _ q=>k b u q) (fun _ q=>q) fun _ _ q=>q
theorem jU.laid (x:jU P w H h) (k: ∀b u,h.get? b=some u->h'.get? b=some u) (hp:h.objs.size<=a) (new:cR P w (upd H a o) h' a o):jU P w (upd H a o) h':=fun b u e=>by
 have hn:=x.fresh hp
 by_cases hb:b=a
 ·subst hb;rw[ah]at e;cases e;exact new
 ·rw[au hb]at e
  exact (x b u e).uK (fun c v _ q=>k c v q) (fun c q=>by rw[au (ay q hn)];exact q) fun c xs q=>by rw[au (ay q hn)];exact q
end
def Rd (H:Hp) (a:Addr) (u:HO):Prop:=H a=some u\/ ∃o,H a=some (.Eg o u)
theorem Rd.ok {P:Program} {w:World} {H:Hp} {h:Heap} {a:Addr} {u:HO} (r:Rd H a u) (x:jU P w H h):cR P w H h a u:=by
 rcases r with r | ⟨o,r⟩
 ·exact x a u r
 ·obtain ⟨_,q⟩:=x a _ r
  exact q
def Md:Option HO->Prop
 | some (.lst _)=>True
 | some (.dK _)=>True
 | some (.dT _)=>True
 | some (.set _ _)=>True
 | some (.ins _ _ _)=>True
 | some (.ext _)=>True
 | _=>False
section
variable {P:Program} {w:World} {H:Hp} {h h':Heap} {x e:Addr} {o':HO}
theorem jU.write (ok:jU P w H h) (mu:Md (H x)) (he:e=x\/H e=some (.own x)) (k: ∀b u,b≠e->h.get? b=some u->h'.get? b=some u) (Kq: ∃u,h'.get? e=some u)
  (new:cR P w (upd H x o') h' x o'):jU P w (upd H x o') h':=fun b u q=>by
 have Me: ∀c y,H c=some (.own y)->c≠x:=fun c y r z=>by subst z;rw[r]at mu;exact mu
 have P5: ∀c xs,H c=some (.tup xs)->c≠x:=fun c xs r z=>by subst z;rw[r]at mu;exact mu
 by_cases hb:b=x
 ·subst hb;rw[ah]at q;cases q;exact new
 ·rw[au hb]at q
  by_cases Eh:b=e
  ·have q':H b=some (.own x):=by
    rcases he with z | z
    ·exact absurd (Eh.trans z) hb
    ·rw[Eh];exact z
   rw[q]at q';cases q'
   obtain ⟨v,hv⟩:=Kq
   exact ⟨v,by rw[Eh];exact hv⟩
  ·refine (ok b u q).uK (fun c v hc r=>k c v ?_ r) (fun c r=>by rw[au (Me c b r)];exact r) fun c xs r=>by rw[au (P5 c xs r)];exact r
   rcases hc with rfl | hc
   ·exact Eh
   ·rintro rfl
    rcases he with z | z
    ·exact Me c b hc z
    ·rw[hc]at z;cases z;exact hb rfl
end
structure Un (fs ex:List Addr) (H H':Hp) (h h':Heap):Prop where
 keep: ∀b o,h.get? b=some o->H b=none->b∉fs->b∉ex->h'.get? b=some o
 slot: ∀b o,h.get? b=some o->H b=none->b∈fs->b∉ex-> ∃sl,h'.get? b=some { o with slots:=sl }
 free: ∀b o,h.get? b=some o->H b=none->b∉ex->H' b=none
 there: ∀b o,h.get? b=some o->b∉ex-> ∃o',h'.get? b=some o'
 qa: ∀b xs,H b=some (.tup xs)->H' b=some (.tup xs)
 n5: ∀b o u,H b=some (.Eg o u)->H' b=some (.Eg o u)
 rX: ∀b ps,H b=some (.HH ps)-> ∃more,H' b=some (.HH (ps++more))
section
variable {fs Uj ex WG:List Addr} {H H1 H2:Hp} {h h1 h2 h':Heap} {a x e:Addr} {o:HO}
theorem Un.any (u:Un fs ex H H1 h h1) {b:Addr} {ob:Obj} (q:h.get? b=some ob) (n:H b=none) (hx:b∉ex): ∃sl,h1.get? b=some { ob with slots:=sl }:=by
 by_cases hb:b∈fs
 ·exact u.slot b ob q n hb hx
 ·exact ⟨ob.slots,u.keep b ob q n hb hx⟩
theorem Un.kept (k: ∀b u,h.get? b=some u->h'.get? b=some u):Un fs ex H H h h':=
 ⟨fun b ob q _ _ _=>k b ob q,fun b ob q _ _ _=>⟨ob.slots,k b ob q⟩,fun _ _ _ n _=>n,fun b ob q _=>⟨ob,k b ob q⟩,fun _ _ q=>q,fun _ _ _ q=>q,fun _ ps q=>⟨#[],by rw[q];simp⟩⟩
theorem Un.refl:Un fs ex H H h h:=Un.kept fun _ _ q=>q
theorem Un.laid (k: ∀b u,h.get? b=some u->h'.get? b=some u) (hp:h.objs.size<=a) (hn:H a=none):Un fs ex H (upd H a o) h h' where
 keep:=fun b u q _ _ _=>k b u q
 slot:=fun b u q _ _ _=>⟨u.slots,k b u q⟩
 free:=fun b u q n _=>by rw[au (Xy (XD (Xs q) hp))];exact n
 there:=fun b u q _=>⟨u,k b u q⟩
 qa:=fun b xs q=>by rw[au (ay q hn)];exact q
 n5:=fun b u xs q=>by rw[au (ay q hn)];exact q
 rX:=fun b ps q=>⟨#[],by rw[au (ay q hn),q];simp⟩
theorem Un.write (mu:Md (H x)) (he:e=x\/H e=some (.own x)) (k: ∀b u,b≠e->h.get? b=some u->h'.get? b=some u) (Kq: ∃u,h'.get? e=some u):Un fs ex H (upd H x o) h h':=by
 have hx: ∀b,H b=none->b≠x:=fun b n z=>by subst z;rw[n]at mu;exact mu
 have hb: ∀b,H b=none->b≠e:=fun b n z=>by
  subst z
  rcases he with r | r
  ·exact hx b n r
  ·rw[n]at r;cases r
 have hm: ∀b u,H b=some u-> ¬Md (some u)->b≠x:=fun b u q nm z=>by subst z;rw[q]at mu;exact nm mu
 refine ⟨fun b u q n _ _=>k b u (hb b n) q,fun b u q n _ _=>⟨u.slots,k b u (hb b n) q⟩,fun b u q n _=>by rw[au (hx b n)];exact n,fun b u q _=>?_,
  fun b xs q=>by rw[au (hm b _ q fun z=>z)];exact q,fun b u xs q=>by rw[au (hm b _ q fun z=>z)];exact q,fun b ps q=>⟨#[],by rw[au (hm b _ q fun z=>z),q];simp⟩⟩
 by_cases Eh:b=e
 ·subst Eh;exact Kq
 ·exact ⟨u,k b u Eh q⟩
end
noncomputable def OF (h:Heap) (H:Hp):List Addr:=(List.range h.objs.size).filter fun a=>(H a).isSome
noncomputable def rY (h:Heap) (H:Hp):Heap:=PySem.W.hideAll h (OF h H)
theorem z4 (h:Heap) (H:Hp):(rY h H).objs.size=h.objs.size:=PySem.W.hideAll_size _ _
theorem BA {h:Heap} {H:Hp} {b:Addr} {o:Obj} (e:h.get? b=some o) (n:H b=none):(rY h H).get? b=some o:=
 PySem.W.hideAll_get _ e fun hm=>by
  have q:(H b).isSome=true:=(XI.mp hm).2
  rw[n]at q;simp at q
theorem EF {h:Heap} {H:Hp} {b:Addr} {o:Obj} (e:(rY h H).get? b=some o):h.get? b=some o/\H b=none:=by
 have e':h.get? b=some o:=PySem.W.of_hideAll (OF h H) e
 refine ⟨e',?_⟩
 cases q:H b with
 | none=>rfl
 | some x=>
  have hm:b∈OF h H:=XI.mpr ⟨Yt.mpr (Xs e'),by simp[q]⟩
  have z:(rY h H).get? b=none:=PySem.W.hideAll_none (OF h H) hm
  rw[z]at e;cases e
structure Mod (K:PySem.W.Frag) (mg:Str->Option Value) (base:Heap):Prop where
 Kr:K.In base
 glob:base.Ns mainGlobals mg
 blt: ∃mb,base.Ns builtinsNs mb/\ ∀x:Str,x≠"__name__"->mb x=bootBuiltins x
 nolimit:base.NoLimit
structure Cx where
 prog:Program
 w:World
 K:PySem.W.Frag
 mg:Str->Option Value
 base:Heap
 A:Around
 N:List Str
 s₀:Shared
 H₀:Hp
 env:Env
 outer:List Env
 stack:List Env
 ex:List Addr
 fn:Str->Bool
 calm:Bool
 pn:List (Addr×Obj)
 xe:Value->Shared->Prop
noncomputable def yC (l:List Env):List Addr:=l.filterMap (·.frame)
noncomputable abbrev Cx.fs (X:Cx):List Addr:=yC X.outer
def Mf (sc:Scope) (x:Str):Prop:=sc.names.lookup x=some .local\/sc.names.lookup x=some .cell\/sc.names.lookup x=some .free
def Loc (sc:Scope) (x:Str):Prop:=sc.names.lookup x=some .local\/sc.names.lookup x=some .cell
def Look (env:Env) (h:Heap) (m:Str->Option Value) (x:Str) (u:Value):Prop:=
 (env.kindOf x=some .local/\m x=some u)\/((env.kindOf x=some .cell\/env.kindOf x=some .free)/\ ∃c,env.cells.lookup x=some c/\h.IsCell c (some u))
structure Cx.Ok (X:Cx):Prop where
 mod:Mod X.K X.mg X.base
 kind:X.env.scope.kind= .function
 glob:X.env.globals=mainGlobals
 blt:X.env.builtins=builtinsNs
 above:X.s₀.heap.objs.size<=X.env.locals
 inj: ∀x y c,X.env.cells.lookup x=some c->X.env.cells.lookup y=some c->x=y
 has: ∀x,(X.env.kindOf x=some .cell\/X.env.kindOf x=some .free)-> ∃c,X.env.cells.lookup x=some c
 Mg: ∀x c,X.fn x=true->X.env.cells.lookup x=some c->X.s₀.heap.objs.size<=c
 hd:X.calm=true->X.A.handled=none
 frames:X.A.frames=some X.stack
 OG:X.stack=X.outer\/(X.stack=X.env::X.outer/\X.env.frame=some X.env.locals)
 Si: ∀b∈X.ex,b≠X.env.locals/\ ∀x c,X.env.cells.lookup x=some c->c≠b
 bs: ∀b o,X.base.get? b=some o->X.s₀.heap.get? b=some o/\X.H₀ b=none
 EG:X.base.objs.size<=X.s₀.heap.objs.size
 BB: ∀b o,X.base.get? b=some o->b∉X.ex
 EH: ∀b∈X.ex,b∉X.fs
 mZ:X.s₀.heap.FunFrames X.base X.outer
 HJ: ∀b∈X.fs,X.H₀ b=none
structure Inv (X:Cx) (pins:List (Addr×Obj)) (σ:List (Option V)) (H:Hp) (s:Shared):Prop where
 ok:X.Ok
 os:s.os=X.s₀.os
 bare:AllBare s.gens
 base:Un X.fs X.ex X.H₀ H X.s₀.heap s.heap
 loc: ∃m,s.heap.Ns X.env.locals m/\ ∀(i:Nat) (x:Str) (v:V),X.N[i]? =some x->σ[i]? =some (some v)->Mf X.env.scope x-> ∃u,RelV v u/\Look X.env s.heap m x u
 cell: ∀x c,X.env.cells.lookup x=some c-> ∃v,s.heap.IsCell c v
 free:H X.env.locals=none
 iH: ∀x c,X.env.cells.lookup x=some c->H c=none
 pin: ∀p∈X.pn++pins,s.heap.get? p.1=some p.2/\H p.1=none/\p.1≠X.env.locals/\p.1∉X.fs/\ ∀v,p.2.data≠ .cell v
 bX:jU X.prog X.w H s.heap
 len:σ.length=X.N.length
section
variable {X:Cx} {pins:List (Addr×Obj)} {σ:List (Option V)} {H H':Hp} {s:Shared} {h':Heap}
theorem Cx.Ok.P6 (ok:X.Ok) {b:Addr} {o:Obj} (e:X.base.get? b=some o):b∉X.fs:=fun hb=>by
 have:=(ok.mZ.mem hb).1
 rw[e]at this;cases this
theorem Inv.bs (I:Inv X pins σ H s): ∀b o,X.base.get? b=some o->s.heap.get? b=some o/\H b=none:=fun b o e=>
 ⟨I.base.keep b o (I.ok.bs b o e).1 (I.ok.bs b o e).2 (I.ok.P6 e) (I.ok.BB b o e),I.base.free b o (I.ok.bs b o e).1 (I.ok.bs b o e).2 (I.ok.BB b o e)⟩
theorem Inv.bk (I:Inv X pins σ H s): ∀b o,X.base.get? b=some o->s.heap.get? b=some o:=fun b o e=>(I.bs b o e).1
theorem Inv.mod (I:Inv X pins σ H s):Mod X.K X.mg X.base:=I.ok.mod
theorem Inv.z5 (I:Inv X pins σ H s):X.K.In s.heap:=I.ok.mod.Kr.keeps I.bk
theorem Inv.lt (I:Inv X pins σ H s):X.env.locals<s.heap.objs.size:=let ⟨_,hn,_⟩:=I.loc;hn.lt
theorem Inv.sz (I:Inv X pins σ H s):X.s₀.heap.objs.size<=s.heap.objs.size:=XM I.ok.above (XU I.lt)
theorem Inv.HK (I:Inv X pins σ H s) {a:Addr} (h:s.heap.objs.size<=a):a∉X.fs:=fun hb=>by
 obtain ⟨_,o,ho,_⟩:=I.ok.mZ.mem hb
 exact absurd (XD (Xs ho) (XM I.sz h)) (XY _)
theorem Inv.HL (I:Inv X pins σ H s): ∀x c,X.env.cells.lookup x=some c->c≠X.env.locals:=fun x c e z=>by
 obtain ⟨v,o,ho,hd⟩:=I.cell x c e
 obtain ⟨m,⟨o',es,ep,EI,P7,_⟩,_⟩:=I.loc
 rw[z,EI]at ho;cases ho;rw[P7]at hd;cases hd
theorem Inv.mZ (I:Inv X pins σ H s):s.heap.FunFrames X.base X.outer:=by
 have all: ∀(l:List Env),(∀b∈yC l,b∈X.fs)->X.s₀.heap.FunFrames X.base l->s.heap.FunFrames X.base l:=by
  intro l
  induction l with
  | nil=>intro _ _;trivial
  | cons env r ih=>
   intro hs hl
   obtain ⟨hk,⟨L,o,hf,hn,ho,hd⟩,hr⟩:=hl
   have hL:L∈X.fs:=hs L (by unfold yC;rw[Z1,hf];exact Xp)
   obtain ⟨sl,e⟩:=I.base.slot L o ho (I.ok.HJ L hL) hL fun z=>I.ok.EH L z hL
   exact ⟨hk,⟨L,_,hf,hn,e,hd⟩,ih (fun b hb=>hs b (by unfold yC;rw[Z1,hf];exact WN _ hb)) hr⟩
 exact all X.outer (fun _ hb=>hb) I.ok.mZ
theorem Inv.stack (I:Inv X pins σ H s):s.heap.FunFrames X.base X.stack:=by
 rcases I.ok.OG with e | ⟨e,hf⟩
 ·rw[e];exact I.mZ
 ·rw[e]
  obtain ⟨m,hn,_⟩:=I.loc
  refine .cons (by rw[I.ok.kind];decide) hf hn ?_ I.mZ
  exact Heap.get?_none_of_le (XM I.ok.EG I.ok.above)
theorem Inv.n6 (I:Inv X pins σ H s): ∀b∈yC X.stack,b∈X.env.locals::X.fs:=fun b hb=>by
 rcases I.ok.OG with e | ⟨e,hf⟩
 ·rw[e]at hb;exact WN _ hb
 ·rw[e]at hb
  unfold yC at hb
  rw[Z1,hf]at hb
  exact hb
theorem Inv.yD (I:Inv X pins σ H s): ∀b∈yC X.stack,H b=none:=fun b hb=>by
 rcases UE.mp (I.n6 b hb) with e | hb
 ·rw[e];exact I.free
 ·obtain ⟨_,o,ho,_⟩:=I.ok.mZ.mem hb
  exact I.base.free b o ho (I.ok.HJ b hb) fun z=>I.ok.EH b z hb
theorem Inv.step {g':Array GenState} {t':Nat} {d':Drawn} {ch:List Addr} (I:Inv X pins σ H s)
  (Ei: ∀b∈ch,(b∈X.ex\/X.s₀.heap.objs.size<=b)/\b≠X.env.locals/\(∀x c,X.env.cells.lookup x=some c->c≠b)/\ ∀p∈X.pn++pins,p.1≠b)
  (keep: ∀b o,b≠X.env.locals->b∉X.fs->b∉ch->s.heap.get? b=some o->H b=none->h'.get? b=some o)
  (slot: ∀b o,b≠X.env.locals->b∈X.fs->b∉ch->s.heap.get? b=some o->H b=none-> ∃sl,h'.get? b=some { o with slots:=sl }) (free: ∀b o,b∉ch->s.heap.get? b=some o->H b=none->H' b=none)
  (there: ∀b o,b∉ch->s.heap.get? b=some o-> ∃o',h'.get? b=some o')
  (qa: ∀b xs,H b=some (.tup xs)->H' b=some (.tup xs)) (n5: ∀b o u,H b=some (.Eg o u)->H' b=some (.Eg o u)) (rX: ∀b ps,H b=some (.HH ps)-> ∃more,H' b=some (.HH (ps++more)))
  (ns: ∀m,s.heap.Ns X.env.locals m->h'.Ns X.env.locals m) (bX:jU X.prog X.w H' h') (hg:AllBare g'):
  Inv X pins σ H' { s with heap:=h',gens:=g',drawn:=d',toks:=t' }:=by
 have Sj: ∀b o,X.s₀.heap.get? b=some o->b≠X.env.locals:=fun b o e=>Xy (XD (Xs e) I.ok.above)
 have HM: ∀b o,X.s₀.heap.get? b=some o->b∉X.ex->b∉ch:=fun b o e hx hb=>by
  rcases (Ei b hb).1 with z | z
  ·exact hx z
  ·exact absurd (XD (Xs e) z) (XY _)
 have cellK: ∀x c,X.env.cells.lookup x=some c-> ∀v,s.heap.IsCell c v->h'.IsCell c v:=fun x c e v ⟨o,ho,hd⟩=>by
  have Mh:c∉ch:=fun z=>(Ei c z).2.2.1 x c e rfl
  by_cases hc:c∈X.fs
  ·obtain ⟨sl,q⟩:=slot c o (I.HL x c e) hc Mh ho (I.iH x c e)
   exact ⟨_,q,hd⟩
  ·exact ⟨o,keep c o (I.HL x c e) hc Mh ho (I.iH x c e),hd⟩
 refine ⟨I.ok,I.os,hg,⟨fun b o e n hb hx=>?_,fun b o e n hb hx=>?_,fun b o e n hx=>?_,fun b o e hx=>?_,fun b xs e=>qa b xs (I.base.qa b xs e),fun b o xs e=>n5 b o xs (I.base.n5 b o xs e),fun b ps e=>?_⟩,?_,fun x c e=>?_,?_,fun x c e=>?_,fun p hp=>?_,bX,I.len⟩
 ·exact keep b o (Sj b o e) hb (HM b o e hx) (I.base.keep b o e n hb hx) (I.base.free b o e n hx)
 ·obtain ⟨sl,e1⟩:=I.base.slot b o e n hb hx
  obtain ⟨Uk,e2⟩:=slot b _ (Sj b o e) hb (HM b o e hx) e1 (I.base.free b o e n hx)
  exact ⟨Uk,e2⟩
 ·obtain ⟨o',e1⟩:=I.base.there b o e hx
  exact free b o' (HM b o e hx) e1 (I.base.free b o e n hx)
 ·obtain ⟨o',e1⟩:=I.base.there b o e hx
  exact there b o' (HM b o e hx) e1
 ·obtain ⟨m1,e1⟩:=I.base.rX b ps e
  obtain ⟨m2,e2⟩:=rX b _ e1
  exact ⟨m1++m2,by rw[e2,Array.append_assoc]⟩
 ·obtain ⟨m,hn,hl⟩:=I.loc
  refine ⟨m,ns m hn,fun i x v e1 e2 e3=>?_⟩
  obtain ⟨u,r,l⟩:=hl i x v e1 e2 e3
  refine ⟨u,r,?_⟩
  rcases l with l | ⟨k,c,e,z⟩
  ·exact .inl l
  ·exact .inr ⟨k,c,e,cellK x c e _ z⟩
 ·obtain ⟨v,z⟩:=I.cell x c e
  exact ⟨v,cellK x c e v z⟩
 ·obtain ⟨m,⟨o,_,_,ho,_⟩,_⟩:=I.loc
  exact free _ o (fun z=>(Ei _ z).2.1 rfl) ho I.free
 ·obtain ⟨v,o,ho,hd⟩:=I.cell x c e
  exact free c o (fun z=>(Ei c z).2.2.1 x c e rfl) ho (I.iH x c e)
 ·obtain ⟨e,n,ne,nf,d⟩:=I.pin p hp
  have Mh:p.1∉ch:=fun z=>(Ei p.1 z).2.2.2 p hp rfl
  exact ⟨keep p.1 p.2 ne nf Mh e n,free p.1 p.2 Mh e n,ne,nf,d⟩
theorem Inv.un {t':Nat} (I:Inv X pins σ H s) (u:Un X.fs [] H H' s.heap h') (bX:jU X.prog X.w H' h'):Inv X pins σ H' { s with heap:=h',toks:=t' }:=by
 obtain ⟨m,⟨o,es,ep,ho,r⟩,_⟩:=id I.loc
 obtain ⟨sl,hL⟩:=u.any ho I.free (by simp)
 exact I.step (g':=s.gens) (d':=s.drawn) (ch:=[]) (fun _ z=>nomatch z) (fun b o _ hb _ e n=>u.keep b o e n hb (by simp)) (fun b o _ hb _ e n=>u.slot b o e n hb (by simp)) (fun b o _ e n=>u.free b o e n (by simp)) (fun b o _ e=>u.there b o e (by simp)) u.qa u.n5 u.rX (fun m' hm=>by
  obtain ⟨o',P8,Mi,EI,r'⟩:=hm
  rw[ho]at EI;cases EI
  exact ⟨_,P8,Mi,hL,r'⟩) bX I.bare
theorem Inv.call {g':Array GenState} {t':Nat} {d':Drawn} {ch:List Addr} (I:Inv X pins σ H s) (u:Un (yC X.stack) ch H H' s.heap h') (bX:jU X.prog X.w H' h') (hg:AllBare g')
  (Ei: ∀b∈ch,(b∈X.ex\/X.s₀.heap.objs.size<=b)/\b≠X.env.locals/\(∀x c,X.env.cells.lookup x=some c->c≠b)/\ ∀p∈X.pn++pins,p.1≠b):
  Inv X pins σ H' { s with heap:=h',gens:=g',drawn:=d',toks:=t' }:=by
 obtain ⟨m,⟨o,es,ep,ho,r⟩,_⟩:=id I.loc
 obtain ⟨sl,hL⟩:=u.any ho I.free fun z=>(Ei _ z).2.1 rfl
 exact I.step (ch:=ch) Ei (fun b o hL hb hc e n=>u.keep b o e n (fun z=>(UE.mp (I.n6 b z)).elim hL hb) hc) (fun b o _ _ hc e n=>u.any e n hc) (fun b o hc e n=>u.free b o e n hc) (fun b o hc e=>u.there b o e hc) u.qa u.n5 u.rX (fun m' hm=>by
  obtain ⟨o',P8,Mi,EI,r'⟩:=hm
  rw[ho]at EI;cases EI
  exact ⟨_,P8,Mi,hL,r'⟩) bX hg
theorem Inv.turned {t':Nat} {it:Addr} (I:Inv X pins σ H s) (k: ∀b o,b≠it->s.heap.get? b=some o->h'.get? b=some o) (hn:H it=none) (hL:it≠X.env.locals)
  (h1:it∈X.ex\/X.s₀.heap.objs.size<=it) (h2: ∀x c,X.env.cells.lookup x=some c->c≠it) (h3: ∀p∈X.pn++pins,p.1≠it):Inv X pins σ H { s with heap:=h',toks:=t' }:=by
 have GW: ∀b u,H b=some u->b≠it:=fun b u e z=>by rw[z,hn]at e;cases e
 refine I.step (g':=s.gens) (d':=s.drawn) (ch:=[it]) (fun b hb=>?_) (fun b o _ _ hc e _=>k b o (fun z=>hc (by simp[z])) e) (fun b o _ _ hc e _=>⟨o.slots,k b o (fun z=>hc (by simp[z])) e⟩) (fun _ _ _ _ n=>n)
  (fun b o hc e=>⟨o,k b o (fun z=>hc (by simp[z])) e⟩) (fun _ _ e=>e) (fun _ _ _ e=>e) (fun b ps e=>⟨#[],by rw[e];simp⟩) (fun m hm=>?_) (fun b u e=>?_) I.bare
 ·have e:b=it:=by simpa using hb
  subst e
  exact ⟨h1,hL,h2,h3⟩
 ·obtain ⟨o,es,ep,ho,r⟩:=hm
  exact ⟨o,es,ep,k _ o (Ne.symm hL) ho,r⟩
 ·refine (I.bX b u e).uK (fun c v hc q=>k c v ?_ q) (fun _ q=>q) fun _ _ q=>q
  rcases hc with z | z
  ·rw[z];exact GW b u e
  ·exact GW c _ z
theorem Inv.tok (I:Inv X pins σ H s) (t:Nat):Inv X pins σ H { s with toks:=t }:=I.un (h':=s.heap) (t':=t) Un.refl I.bX
theorem Inv.kept {t':Nat} (I:Inv X pins σ H s) (k: ∀b u,s.heap.get? b=some u->h'.get? b=some u):Inv X pins σ H { s with heap:=h',toks:=t' }:=I.un (Un.kept k) (I.bX.kept k)
theorem Inv.laid {a:Addr} {o:HO} {t':Nat} (I:Inv X pins σ H s) (k: ∀b u,s.heap.get? b=some u->h'.get? b=some u) (hp:s.heap.objs.size<=a) (new:cR X.prog X.w (upd H a o) h' a o):
  Inv X pins σ (upd H a o) { s with heap:=h',toks:=t' }:=I.un (Un.laid k hp (I.bX.fresh hp)) (I.bX.laid k hp new)
theorem Inv.write {x e:Addr} {o:HO} {t':Nat} (I:Inv X pins σ H s) (mu:Md (H x)) (he:e=x\/H e=some (.own x)) (k: ∀b u,b≠e->s.heap.get? b=some u->h'.get? b=some u) (Kq: ∃u,h'.get? e=some u)
  (new:cR X.prog X.w (upd H x o) h' x o):Inv X pins σ (upd H x o) { s with heap:=h',toks:=t' }:=I.un (Un.write mu he k Kq) (I.bX.write mu he k Kq new)
theorem Inv.weak {σ':List (Option V)} (I:Inv X pins σ H s) (hl:σ'.length=σ.length) (w: ∀(i:Nat) v,σ'[i]? =some (some v)->σ[i]? =some (some v)):Inv X pins σ' H s:=
 ⟨I.ok,I.os,I.bare,I.base,let ⟨m,hn,yE⟩:=I.loc;⟨m,hn,fun i x v e1 e2 e3=>yE i x v e1 (w i v e2) e3⟩,I.cell,I.free,I.iH,I.pin,I.bX,hl.trans I.len⟩
theorem Inv.kx {yF:List (Addr×Obj)} (I:Inv X pins σ H s) (h: ∀p∈yF,s.heap.get? p.1=some p.2/\H p.1=none/\p.1≠X.env.locals/\p.1∉X.fs/\ ∀v,p.2.data≠ .cell v):Inv X yF σ H s:=
 ⟨I.ok,I.os,I.bare,I.base,I.loc,I.cell,I.free,I.iH,fun p hp=>(Xn.mp hp).elim (fun z=>I.pin p (Yr _ z)) (h p),I.bX,I.len⟩
theorem uL {N:List Str} (hN:N.Nodup) {i j:Nat} {x:Str} (a:N[i]? =some x) (b:N[j]? =some x):i=j:=by
 obtain ⟨h1,e1⟩:=Iy.mp a
 obtain ⟨h2,e2⟩:=Iy.mp b
 exact (List.getElem_inj hN).mp (e1.trans e2.symm)
theorem z6 {M:Model} {A:Around} {E:Value->Shared->Prop} {i:Nat} {x:Str} {v:V} {u:Value} {Q:Unit->Shared->Prop} (I:Inv X pins σ H s) (hN:X.N.Nodup) (hi:X.N[i]? =some x) (hx:Loc X.env.scope x) (r:RelV v u)
  (h: ∀s',Inv X pins (σ.set i (some v)) H s'->(∃a,Heap.SameBut a s.heap s'.heap/\(a=X.env.locals\/X.env.cells.lookup x=some a))->Q () s') (hf:X.fn x=true\/X.env.scope.names.lookup x=some .local:=by first | exact .inl rfl | exact .inr rfl | assumption):wpAny M A (storeName X.env x u) Q E s:=by
 obtain ⟨m,hn,hl⟩:=id I.loc
 have P9:(X.env.scope.kind== .class||(X.env.scope.kind== .module&&X.env.locals != X.env.globals))=false:=by rw[I.ok.kind];rfl
 have Sk:i<σ.length:=by rw[I.len];exact (Iy.mp hi).1
 have HL:=I.HL
 have tracked: ∀{a:Addr} {h':Heap},(∃o,s.heap.get? a=some o/\H a=none)->Heap.SameBut a s.heap h'->jU X.prog X.w H h':=fun {a h'} ha hs b ob e=>by
  obtain ⟨_,_,GX⟩:=ha
  refine (I.bX b ob e).uK (fun c w' hc q=>(hs.2 c ?_).trans q) (fun _ q=>q) fun _ _ q=>q
  rintro rfl
  rcases hc with rfl | hc
  ·rw[GX]at e;cases e
  ·rw[GX]at hc;cases hc
 rcases hx with hk | hk
 ·refine wpAny_storeName_local hk hn (fun h' OH hs=>?_) P9
  obtain ⟨oL,_,_,Mj,_⟩:=id hn
  refine h _ ⟨I.ok,I.os,I.bare,⟨fun b o e n hb hx=>?_,fun b o e n hb hx=>?_,I.base.free,fun b o e hx=>?_,I.base.qa,I.base.n5,I.base.rX⟩,⟨_,OH,fun j y v' e1 e2 e3=>?_⟩,fun y c e=>?_,I.free,I.iH,fun p hp=>?_,tracked ⟨oL,Mj,I.free⟩ hs,by simpa using I.len⟩ ⟨_,hs, .inl rfl⟩
  ·exact (hs.2 b (Xy (XD (Xs e) I.ok.above))).trans (I.base.keep b o e n hb hx)
  ·obtain ⟨sl,e1⟩:=I.base.slot b o e n hb hx
   exact ⟨sl,(hs.2 b (Xy (XD (Xs e) I.ok.above))).trans e1⟩
  ·obtain ⟨o',e1⟩:=I.base.there b o e hx
   exact ⟨o',(hs.2 b (Xy (XD (Xs e) I.ok.above))).trans e1⟩
  ·by_cases hj:j=i
   ·subst hj
    rw[hi]at e1;cases e1
    rw[List.getElem?_set_self Sk]at e2
    cases e2
    exact ⟨u,r, .inl ⟨hk,by simp⟩⟩
   ·rw[List.getElem?_set_ne (Ne.symm hj)]at e2
    obtain ⟨u',r',q⟩:=hl j y v' e1 e2 e3
    refine ⟨u',r',?_⟩
    rcases q with ⟨k,e⟩ | ⟨k,c,e,z⟩
    ·refine .inl ⟨k,?_⟩
     have:y≠x:=fun e=>hj (uL hN e1 (e▸hi))
     simp[this,e]
    ·exact .inr ⟨k,c,e,z.sameBut hs (HL y c e)⟩
  ·obtain ⟨w',z⟩:=I.cell y c e
   exact ⟨w',z.sameBut hs (HL y c e)⟩
  ·obtain ⟨e,n,ne,nf,d⟩:=I.pin p hp
   exact ⟨(hs.2 p.1 ne).trans e,n,ne,nf,d⟩
 ·have P_:X.fn x=true:=by
   rcases hf with z | z
   ·exact z
   ·rw[z]at hk;cases hk
  obtain ⟨c,hc⟩:=I.ok.has x (.inl hk)
  obtain ⟨w',z⟩:=I.cell x c hc
  refine wpAny_storeName_cell I.ok.kind hk hc z (fun h' nG hs=>?_)
  obtain ⟨oc,Sl,Qa⟩:=id z
  refine h { s with heap:=h' } ⟨I.ok,I.os,I.bare,⟨fun b o e n hb hx=>?_,fun b o e n hb hx=>?_,I.base.free,fun b o e hx=>?_,I.base.qa,I.base.n5,I.base.rX⟩,⟨m,hn.sameBut hs (Ne.symm (HL x c hc)),fun j y v' e1 e2 e3=>?_⟩,fun y c' e=>?_,I.free,I.iH,fun p hp=>?_,tracked ⟨oc,Sl,I.iH x c hc⟩ hs,by simpa using I.len⟩ ⟨c,hs, .inr hc⟩
  ·exact (hs.2 b (Xy (XD (Xs e) (I.ok.Mg x c P_ hc)))).trans (I.base.keep b o e n hb hx)
  ·obtain ⟨sl,e1⟩:=I.base.slot b o e n hb hx
   exact ⟨sl,(hs.2 b (Xy (XD (Xs e) (I.ok.Mg x c P_ hc)))).trans e1⟩
  ·obtain ⟨o',e1⟩:=I.base.there b o e hx
   exact ⟨o',(hs.2 b (Xy (XD (Xs e) (I.ok.Mg x c P_ hc)))).trans e1⟩
  ·by_cases hj:j=i
   ·subst hj
    rw[hi]at e1;cases e1
    rw[List.getElem?_set_self Sk]at e2
    cases e2
    exact ⟨u,r, .inr ⟨.inl hk,c,hc,nG⟩⟩
   ·rw[List.getElem?_set_ne (Ne.symm hj)]at e2
    obtain ⟨u',r',q⟩:=hl j y v' e1 e2 e3
    refine ⟨u',r',?_⟩
    rcases q with q | ⟨k,c',e,z'⟩
    ·exact .inl q
    ·refine .inr ⟨k,c',e,z'.sameBut hs ?_⟩
     rintro rfl
     exact hj (uL hN e1 (I.ok.inj _ _ _ e hc▸hi))
  ·by_cases Ks:c'=c
   ·subst Ks;exact ⟨_,nG⟩
   ·obtain ⟨w2,z2⟩:=I.cell y c' e
    exact ⟨w2,z2.sameBut hs Ks⟩
  ·obtain ⟨e,n,ne,nf,d⟩:=I.pin p hp
   refine ⟨(hs.2 p.1 ?_).trans e,n,ne,nf,d⟩
   intro q
   rw[q,Sl]at e
   have q':oc=p.2:=Xr e
   exact d w' (by rw[<-q'];exact Qa)
theorem ky {M:Model} {A:Around} {E:Value->Shared->Prop} {i:Nat} {x:Str} {v:V} {u:Value} {Q:Unit->Shared->Prop} (I:Inv X pins σ H s) (hN:X.N.Nodup) (hi:X.N[i]? =some x) (hx:Loc X.env.scope x) (r:RelV v u)
  (h: ∀s',Inv X pins (σ.set i (some v)) H s'->Q () s') (hf:X.fn x=true\/X.env.scope.names.lookup x=some .local:=by first | exact .inl rfl | exact .inr rfl | assumption):wpAny M A (storeName X.env x u) Q E s:=
 z6 I hN hi hx r (fun s' I' _=>h s' I') hf
theorem Inv.Ml {s':Shared} {ch:List Addr} (I:Inv X pins σ H s) (ho:s'.os=s.os) (u:Un (yC X.stack) ch H H' s.heap s'.heap) (bX:jU X.prog X.w H' s'.heap) (hg:AllBare s'.gens)
  (Ei: ∀b∈ch,(b∈X.ex\/X.s₀.heap.objs.size<=b)/\b≠X.env.locals/\(∀x c,X.env.cells.lookup x=some c->c≠b)/\ ∀p∈X.pn++pins,p.1≠b):Inv X pins σ H' s':=by
 obtain ⟨h',g',d',t',o'⟩:=s'
 have e:o'=s.os:=ho
 subst e
 exact I.call (g':=g') (t':=t') (d':=d') u bX hg Ei
end
abbrev XK:=Value->Option Addr->Hp->Prop
abbrev St:=List (Option V)
abbrev VK:=V->Hp->Prop
abbrev TE:=St->Hp->VK->Prop
abbrev TT:=St->Hp->(Bool->Hp->Prop)->Prop
abbrev TA:=St->Hp->(List V->Hp->Prop)->Prop
structure Ends where
 nx:St->Hp->Prop
 rt:VK
 bk:St->Hp->Prop:=fun _ _=>False
 ct:St->Hp->Prop:=fun _ _=>False
abbrev TS:=Ends->St->Hp->Prop
def EP (X:Cx) (pins:List (Addr×Obj)) (σ:St) (Q:VK) (u:Value) (s':Shared):Prop:= ∃v H',Inv X pins σ H' s'/\RelV v u/\Q v H'
def TP (X:Cx) (pins:List (Addr×Obj)) (σ:St) (Q:Bool->Hp->Prop) (b:Bool) (s':Shared):Prop:= ∃H',Inv X pins σ H' s'/\Q b H'
def AP (X:Cx) (pins:List (Addr×Obj)) (σ:St) (Q:List V->Hp->Prop) (us:List Value) (s':Shared):Prop:= ∃vs H',Inv X pins σ H' s'/\Vals vs us/\Q vs H'
def SP (X:Cx) (pins:List (Addr×Obj)) (D:Ends) (f:Flow) (s':Shared):Prop:=
 match f with
 | .next=> ∃σ' H',Inv X pins σ' H' s'/\D.nx σ' H'
 | .brk=> ∃σ' H',Inv X pins σ' H' s'/\D.bk σ' H'
 | .cont=> ∃σ' H',Inv X pins σ' H' s'/\D.ct σ' H'
 | .ret u=> ∃v σ' H',Inv X pins σ' H' s'/\RelV v u/\D.rt v H'
def PE (X:Cx) (e:Expr) (t:TE):Prop:=
 ∀(pins:List (Addr×Obj)) (s:Shared) (σ:St) (H:Hp) (Q:VK),Inv X pins σ H s->t σ H Q->wpAny (model X.prog X.w) X.A (eval e X.env) (EP X pins σ Q) X.xe s
def PT (X:Cx) (e:Expr) (t:TT):Prop:=
 ∀(pins:List (Addr×Obj)) (s:Shared) (σ:St) (H:Hp) (Q:Bool->Hp->Prop),Inv X pins σ H s->t σ H Q->wpAny (model X.prog X.w) X.A (isTrue e X.env (eval e X.env)) (TP X pins σ Q) X.xe s
def PW (X:Cx) (e:Expr) (t:TT):Prop:=
 ∀(whole:Sem Value) (pins:List (Addr×Obj)) (s:Shared) (σ:St) (H:Hp) (Q:Bool->Hp->Prop),Inv X pins σ H s->t σ H Q->wpAny (model X.prog X.w) X.A (isTrue e X.env whole) (TP X pins σ Q) X.xe s
theorem PW.pt {X:Cx} {e:Expr} {t:TT} (h:PW X e t):PT X e t:=h _
def PA (X:Cx) (es:List Expr) (t:TA):Prop:=
 ∀(pos:Pos) (pins:List (Addr×Obj)) (s:Shared) (σ:St) (H:Hp) (Q:List V->Hp->Prop),Inv X pins σ H s->t σ H Q->wpAny (model X.prog X.w) X.A (spliced (backTo pos (starEach es X.env))) (AP X pins σ Q) X.xe s
def PS (X:Cx) (st:Stmt) (t:TS):Prop:=
 ∀(pins:List (Addr×Obj)) (s:Shared) (σ:St) (H:Hp) (D:Ends),Inv X pins σ H s->t D σ H->wpAny (model X.prog X.w) X.A (exec st X.env) (SP X pins D) X.xe s
def wM (X:Cx) (st:List Stmt) (t:TS):Prop:=
 ∀(pins:List (Addr×Obj)) (s:Shared) (σ:St) (H:Hp) (D:Ends),Inv X pins σ H s->t D σ H->wpAny (model X.prog X.w) X.A (execs st X.env) (SP X pins D) X.xe s
theorem b8 {α:Type} {t:Sem α} {Q Q':α->Shared->Prop} {M:Model} {A:Around} {E:Value->Shared->Prop} {s:Shared} (h:wpAny M A t Q E s) (hQ: ∀a s,Q a s->Q' a s):wpAny M A t Q' E s:=wpAny_mono h hQ fun _ _ x=>x
section
variable {X:Cx}
def HN (i:Nat):TE:=fun σ H Q=> ∃v,σ[i]? =some (some v)/\Q v H
def tC (v:V):TE:=fun _ H Q=>Q v H
theorem HP {i:Nat} {x:Str} {pos:Pos} (hN:X.N[i]? =some x) (hv:Mf X.env.scope x) (hd:(x==("__debug__":Str))=false:=by decide) (m4:(x==("__classdict__":Str))=false:=by decide):PE X (.Name x pos) (HN i):=by
 intro pins s σ H Q I h
 obtain ⟨v,e,h⟩:=h
 obtain ⟨m,hn,hl⟩:=I.loc
 obtain ⟨u,r,l⟩:=hl i x v hN e hv
 have fin:EP X pins σ Q u s:=⟨v,H,I,r,h⟩
 rcases l with ⟨hk,hm⟩ | ⟨hk,c,hc,gH⟩
 ·exact wpAny_Name (wpAny_loadName_local I.ok.kind hk hn hm fin) hd
 ·rcases hk with hk | hk
  ·exact wpAny_Name (wpAny_loadName_cell I.ok.kind hk hc gH fin) hd
  ·exact wpAny_Name (wpAny_loadName_free I.ok.kind hk hc gH fin m4) hd
theorem aj {i j pos}:PE X (.Constant (.int i) j pos) (tC (.int i)):=fun _ _ _ H _ I h=>wpAny_Constant_int ⟨.int i,H,I.tok _,⟨_,rfl⟩,h⟩
theorem n_ {b j pos}:PE X (.Constant (.bool b) j pos) (tC (.bl b)):=fun _ _ _ H _ I h=>Constant_bool ⟨.bl b,H,I,rfl,h⟩
theorem HQ {x j pos}:PE X (.Constant (.str x) j pos) (tC (.str x)):=fun _ _ _ H _ I h=>Calls.Constant_str ⟨.str x,H,I.tok _,⟨_,rfl⟩,h⟩
def Gl (X:Cx) (x:Str):Prop:=X.env.kindOf x=some .globalImplicit
theorem rZ {E:Value->Shared->Prop} {pins:List (Addr×Obj)} {s:Shared} {σ:St} {H:Hp} {x:Str} {u:Value} {pos:Pos} {Q:Value->Shared->Prop} (I:Inv X pins σ H s) (hg:Gl X x) (hm:X.mg x=some u) (h:Q u s)
  (hd:(x==("__debug__":Str))=false:=by decide):wpAny (model X.prog X.w) X.A (eval (.Name x pos) X.env) Q E s:=
 Calls.Name_function_global I.ok.kind hg (Calls.loadGlobal_global (by rw[I.ok.glob];exact I.mod.glob.keeps I.bk) hm h) hd
theorem gv {E:Value->Shared->Prop} {pins:List (Addr×Obj)} {s:Shared} {σ:St} {H:Hp} {x:Str} {u:Value} {pos:Pos} {Q:Value->Shared->Prop} (I:Inv X pins σ H s) (hg:Gl X x) (hm:X.mg x=none) (hv:bootBuiltins x=some u) (h:Q u s)
  (hn:x≠"__name__":=by decide) (hd:(x==("__debug__":Str))=false:=by decide):wpAny (model X.prog X.w) X.A (eval (.Name x pos) X.env) Q E s:=by
 obtain ⟨mb,h1,h2⟩:=I.mod.blt
 exact Calls.Name_function_global I.ok.kind hg (Calls.loadGlobal_builtin (by rw[I.ok.glob];exact I.mod.glob.keeps I.bk) hm (by rw[I.ok.blt];exact h1.keeps I.bk) ((h2 x hn).trans hv) h) hd
theorem yG {x:Str} {v:V} {u:Value} {pos:Pos} (hg:Gl X x) (hm:X.mg x=some u) (r:RelV v u) (hd:(x==("__debug__":Str))=false:=by decide):PE X (.Name x pos) (tC v):=
 fun _ _ _ H _ I h=>rZ I hg hm ⟨v,H,I,r,h⟩ hd
variable {a b:Expr} {ta tb:TE} {pos:Pos}
def PC (X:Cx) (op:CmpOp) (a b:Expr) (t:TE):Prop:=
 ∀(pins:List (Addr×Obj)) (s:Shared) (σ:St) (H:Hp) (Q:VK),Inv X pins σ H s->t σ H Q->
  wpAny (model X.prog X.w) X.A (eval a X.env) (fun v s₁=>wpAny (model X.prog X.w) X.A (eval b X.env) (fun u s₂=>wpAny (model X.prog X.w) X.A (compareOp op v u) (EP X pins σ Q) X.xe s₂) X.xe s₁) X.xe s
def tB (t:TE):TT:=fun σ H Q=>t σ H fun x H1=> ∃c,x= .bl c/\Q c H1
theorem HR {op:CmpOp} {t:TE} (h:PC X op a b t) (h1:behindInMarks op b=false:=by first | exact Mm _ (by decide) (by decide) | rfl):PT X (.Compare a [op] [b] pos) (tB t):=by
 intro pins s σ H Q I hw
 refine wpAny_isTrue_Compare1 (b8 (h pins s σ H _ I hw) fun v s1 h1=>b8 h1 fun u s2 h2=>b8 h2 fun c s3 ⟨x,H1,I1,r1,q1⟩=>?_) h1
 obtain ⟨d,rfl,q⟩:=q1
 cases r1
 exact wpAny_truthy_bool ⟨H1,I1,q⟩
theorem fP {e:Expr} {t:TE} (h:PE X e t) (he: ∀whole,isTrue e X.env whole=(do let v <-whole;standAt e.pos;holding [v] (truthy v)):=by intro _;rfl):PT X e (tB t):=by
 intro pins s σ H Q I hw
 refine isTrue_plain (b8 (h pins s σ H _ I hw) fun v s1 ⟨x,H1,I1,r1,q1⟩=>?_) (he _)
 obtain ⟨d,rfl,q⟩:=q1
 cases r1
 exact wpAny_truthy_bool ⟨H1,I1,q⟩
variable {tA OI:TT} {rest:List Expr}
def Qb (t u:TT):TT:=fun σ H Q=>t σ H fun c H1=>if c=true then u σ H1 Q else Q false H1
def Ul (t u:TT):TT:=fun σ H Q=>t σ H fun c H1=>if c=true then Q true H1 else u σ H1 Q
def Qc (t:TT):TT:=fun σ H Q=>t σ H fun c H1=>Q (!c) H1
theorem jj (ha:PT X a tA):PW X (.BoolOp .And [a] pos) tA:=by
 intro wh pins s σ H Q I h
 refine isTrue_and (b8 (ha pins s σ H Q I h) fun c s1 e=>?_)
 cases c with
 | true=>exact isTrue_and_nil e
 | false=>exact e
theorem r9 (ha:PT X a tA):PW X (.BoolOp .Or [a] pos) tA:=by
 intro wh pins s σ H Q I h
 refine isTrue_or (b8 (ha pins s σ H Q I h) fun c s1 e=>?_)
 cases c with
 | false=>exact isTrue_or_nil e
 | true=>exact e
theorem jV (ha:PT X a tA) (hb:PW X (.BoolOp .And (b::rest) pos) OI):PW X (.BoolOp .And (a::b::rest) pos) (Qb tA OI):=by
 intro wh pins s σ H Q I h
 refine isTrue_and (b8 (ha pins s σ H _ I h) fun c s1 ⟨H1,I1,q1⟩=>?_)
 cases c with
 | true=>exact hb wh pins s1 σ H1 Q I1 q1
 | false=>exact ⟨H1,I1,q1⟩
theorem yH (ha:PT X a tA) (hb:PW X (.BoolOp .Or (b::rest) pos) OI):PW X (.BoolOp .Or (a::b::rest) pos) (Ul tA OI):=by
 intro wh pins s σ H Q I h
 refine isTrue_or (b8 (ha pins s σ H _ I h) fun c s1 ⟨H1,I1,q1⟩=>?_)
 cases c with
 | true=>exact ⟨H1,I1,q1⟩
 | false=>exact hb wh pins s1 σ H1 Q I1 q1
theorem oa (ha:PT X a tA):PT X (.UnaryOp .Not a pos) (Qc tA):=by
 intro pins s σ H Q I h
 exact isTrue_not (ha pins s σ H (fun c H1=>Q (!c) H1) I h)
end
def bC (K:PySem.W.Frag) (H:Hp) (a:Addr) (xs:List V):Prop:=
 Rd H a (.lst xs)\/
  ∃(o:Obj) (aJ:Array Value) (n:Nat),K.lookup a=some o/\o.cls= .type "list"/\o.dict=none/\o.data= .seq aJ n/\aJ.size<=sizeLine/\Vals xs aJ.toList
def cS (K:PySem.W.Frag) (H:Hp) (a:Addr) (xs:List V):Prop:=
 Rd H a (.tup xs)\/
  ∃(o:Obj) (aJ:Array Value) (n:Nat),K.lookup a=some o/\o.cls= .type "tuple"/\o.data= .seq aJ n/\aJ.size<=sizeLine/\Vals xs aJ.toList
noncomputable def Qd:Value->Option V
 | .none=>some .fB
 | .bool b=>some (.bl b)
 | .int i _=>some (.int i)
 | .str x _=>some (.str x)
 | .bytes b _=>some (.yB b)
 | .float b _=>some (.OE b)
 | .ref a=>some (.ref a)
 | .type n=>some (.ty n)
 | _=>none
theorem RelV.abs {x:V} {u:Value} (r:RelV x u):Qd u=some x:=by
 cases x with
 | fB=>cases r;rfl
 | bl _=>cases r;rfl
 | int _=>obtain ⟨t,rfl⟩:=r;rfl
 | str _=>obtain ⟨t,rfl⟩:=r;rfl
 | yB _=>obtain ⟨t,rfl⟩:=r;rfl
 | OE _=>obtain ⟨t,rfl⟩:=r;rfl
 | ref _=>cases r;rfl
 | ty _=>cases r;rfl
theorem RelV.inj {x y:V} {u:Value} (r:RelV x u) (q:RelV y u):x=y:=Xr (r.abs.symm.trans q.abs)
theorem Vals.inj: ∀{xs ys:List V} {us:List Value},Vals xs us->Vals ys us->xs=ys
 | _,_,_, .nil, .nil=>rfl
 | _,_,_, .cons r t, .cons r' t'=>by rw[r.inj r',Vals.inj t t']
section
variable {X:Cx} {pins:List (Addr×Obj)} {σ:St} {H:Hp} {s:Shared} {a:Addr} {xs ys:List V}
theorem bC.of {K:PySem.W.Frag} (h:H a=some (.lst xs)):bC K H a xs:= .inl (.inl h)
theorem cS.of {K:PySem.W.Frag} (h:H a=some (.tup xs)):cS K H a xs:= .inl (.inl h)
theorem Inv.list (I:Inv X pins σ H s) (h:bC X.K H a xs): ∃aJ:List Value,Vals xs aJ/\PlainL s.heap a aJ.toArray/\xs.length<=sizeLine:=by
 rcases h with h | ⟨o,aJ,n,hk,hc,hd,hs,hz,r⟩
 ·obtain ⟨z,aJ,n,r,e⟩:=h.ok I.bX
  exact ⟨aJ,r,⟨_,n,e,rfl,rfl,rfl⟩,z⟩
 ·refine ⟨aJ.toList,r,⟨o,n,I.z5 a o hk,hc,hd,by simpa using hs⟩,?_⟩
  have e:=r.length
  simp only[Array.length_toList]at e
  omega
theorem Inv.tuple (I:Inv X pins σ H s) (h:cS X.K H a xs): ∃aJ:List Value,Vals xs aJ/\IsTup s.heap a aJ.toArray/\xs.length<=sizeLine:=by
 rcases h with h | ⟨o,aJ,n,hk,hc,hs,hz,r⟩
 ·obtain ⟨z,aJ,r,p⟩:=h.ok I.bX
  exact ⟨aJ,r,p,z⟩
 ·refine ⟨aJ.toList,r,⟨o,I.z5 a o hk,hc,n,by simpa using hs⟩,?_⟩
  have e:=r.length
  simp only[Array.length_toList]at e
  omega
theorem Inv.uM (I:Inv X pins σ H s) (h:bC X.K H a xs) (h':bC X.K H a ys):xs=ys:=by
 obtain ⟨aJ,r,⟨o,n,e,_,_,d⟩,_⟩:=I.list h
 obtain ⟨its',r',⟨o',n',e',_,_,d'⟩,_⟩:=I.list h'
 rw[e]at e';cases e'
 rw[d]at d'
 injection d' with d1 _
 have:aJ=its':=by simpa using congrArg Array.toList d1
 subst this
 exact r.inj r'
theorem Inv.qB (I:Inv X pins σ H s) (h:cS X.K H a xs) (h':cS X.K H a ys):xs=ys:=by
 obtain ⟨aJ,r,⟨o,e,_,n,d⟩,_⟩:=I.tuple h
 obtain ⟨its',r',⟨o',e',_,n',d'⟩,_⟩:=I.tuple h'
 rw[e]at e';cases e'
 rw[d]at d'
 injection d' with d1 _
 have:aJ=its':=by simpa using congrArg Array.toList d1
 subst this
 exact r.inj r'
end
noncomputable abbrev Cx.qb (X:Cx) (E:Value->Shared->Prop):Cx:={ X with xe:=E }
noncomputable abbrev Cx.OJ (X:Cx):Cx:=X.qb fun _ _=>False
theorem Cx.Ok.qb {X:Cx} (ok:X.Ok) (E:Value->Shared->Prop):(X.qb E).Ok:=
 ⟨ok.mod,ok.kind,ok.glob,ok.blt,ok.above,ok.inj,ok.has,ok.Mg,ok.hd,ok.frames,ok.OG,ok.Si,ok.bs,ok.EG,ok.BB,ok.EH,ok.mZ,ok.HJ⟩
theorem Cx.Ok.iI {X:Cx} {E:Value->Shared->Prop} (ok:(X.qb E).Ok):X.Ok:=
 ⟨ok.mod,ok.kind,ok.glob,ok.blt,ok.above,ok.inj,ok.has,ok.Mg,ok.hd,ok.frames,ok.OG,ok.Si,ok.bs,ok.EG,ok.BB,ok.EH,ok.mZ,ok.HJ⟩
section
variable {X:Cx} {pins:List (Addr×Obj)} {σ:St} {H:Hp} {s:Shared} {E:Value->Shared->Prop}
theorem Inv.qb (I:Inv X pins σ H s) (E:Value->Shared->Prop):Inv (X.qb E) pins σ H s:=⟨I.ok.qb E,I.os,I.bare,I.base,I.loc,I.cell,I.free,I.iH,I.pin,I.bX,I.len⟩
theorem Inv.iI (I:Inv (X.qb E) pins σ H s):Inv X pins σ H s:=⟨I.ok.iI,I.os,I.bare,I.base,I.loc,I.cell,I.free,I.iH,I.pin,I.bX,I.len⟩
theorem SP.iI {D:Ends} {f:Flow} {s':Shared} (h:SP (X.qb E) pins D f s'):SP X pins D f s':=by
 cases f with
 | next=>obtain ⟨σ',H',I,q⟩:=h;exact ⟨σ',H',I.iI,q⟩
 | brk=>obtain ⟨σ',H',I,q⟩:=h;exact ⟨σ',H',I.iI,q⟩
 | cont=>obtain ⟨σ',H',I,q⟩:=h;exact ⟨σ',H',I.iI,q⟩
 | ret u=>obtain ⟨v,σ',H',I,r,q⟩:=h;exact ⟨v,σ',H',I.iI,r,q⟩
theorem wM.OJ {st:List Stmt} {t:TS} (h:wM X.OJ st t):wM X st t:=fun pins s σ H D I hw=>
 wpAny_mono (h pins s σ H D (I.qb _) hw) (fun _ _ q=>q.iI) fun _ _ z=>False.elim z
end
section
variable {X:Cx} {st:Stmt} {rest:List Stmt} {t u:TS} {e:Expr} {te:TE} {pos:Pos}
def Mn:TS:=fun D σ H=>D.nx σ H
def Mo (t u:TS):TS:=fun D σ H=>t { D with nx:=u D } σ H
theorem bj:wM X [] Mn:=fun _ _ σ H _ I h=>wpAny_execs_nil ⟨σ,H,I,h⟩
theorem ag (h1:PS X st t) (h2:wM X rest u):wM X (st::rest) (Mo t u):=by
 intro pins s σ H D I h
 refine wpAny_execs_cons (b8 (h1 pins s σ H { D with nx:=u D } I h) fun f s1 q=>?_)
 cases f with
 | next=>
  obtain ⟨σ',H',I',q⟩:=q
  exact h2 pins s1 σ' H' D I' q
 | ret v=>exact q
 | brk=>exact q
 | cont=>exact q
theorem ai (h1:PS X st t):wM X [st] t:=by
 intro pins s σ H D I h
 refine wpAny_execs_cons (b8 (h1 pins s σ H D I h) fun f s1 q=>?_)
 cases f with
 | next=>exact wpAny_execs_nil q
 | ret v=>exact q
 | brk=>exact q
 | cont=>exact q
theorem Inv.quiet {pins:List (Addr×Obj)} {σ:St} {H:Hp} {s:Shared} (I:Inv X pins σ H s):interactive X.env=false:=by simp[interactive,I.ok.kind]
def Mp (te:TE):TS:=fun D σ H=>te σ H fun _ H1=>D.nx σ H1
theorem dM (he:PE X e te) (hs:swapsWith e none pos.line X.env=pure false:=by rfl):PS X (.Expr e pos) (Mp te):=by
 intro pins s σ H D I h
 exact wpAny_Expr_any (b8 (he pins s σ H _ I h) fun v s1 ⟨x,H1,I1,r1,q1⟩=>⟨σ,H1,I1,q1⟩) I.quiet hs
def Qe (te:TE):TS:=fun D σ H=>te σ H D.rt
theorem aG (he:PE X e te):PS X (.Return (some e) pos) (Qe te):=by
 intro pins s σ H D I h
 exact wpAny_Return_some (b8 (he pins s σ H _ I h) fun v s1 ⟨x,H1,I1,r1,q1⟩=>⟨x,σ,H1,I1,r1,q1⟩)
def Qf (c:TT) (t u:TS):TS:=fun D σ H=>c σ H fun b H1=>if b=true then t D σ H1 else u D σ H1
theorem bO {c:Expr} {a b:List Stmt} {tc:TT} (hc:PT X c tc) (ha:wM X a t) (hb:wM X b u):PS X (.If c a b pos) (Qf tc t u):=by
 intro pins s σ H D I h
 refine wpAny_If (b8 (hc pins s σ H _ I h) fun d s1 ⟨H1,I1,q1⟩=>?_)
 cases d with
 | true=>exact ha pins s1 σ H1 D I1 q1
 | false=>exact hb pins s1 σ H1 D I1 q1
end
abbrev TG:=V->St->Hp->(St->Hp->Prop)->Prop
abbrev GY:=List V->St->Hp->(St->Hp->Prop)->Prop
def PG (X:Cx) (target:Expr) (t:TG):Prop:=
 ∀(pins:List (Addr×Obj)) (s:Shared) (σ:St) (H:Hp) (v:V) (u:Value) (Q:St->Hp->Prop),Inv X pins σ H s->RelV v u->t v σ H Q->
  wpAny (model X.prog X.w) X.A (assign target X.env u) (fun _ s'=> ∃σ' H',Inv X pins σ' H' s'/\Q σ' H') X.xe s
def Mq (X:Cx) (ts:List Expr) (t:GY):Prop:=
 ∀(pins:List (Addr×Obj)) (s:Shared) (σ:St) (H:Hp) (vs:List V) (us:List Value) (Q:St->Hp->Prop),Inv X pins σ H s->Vals vs us->t vs σ H Q->
  wpAny (model X.prog X.w) X.A (assignInOrder ((assignEach ts X.env).map (·.2)) us) (fun _ s'=> ∃σ' H',Inv X pins σ' H' s'/\Q σ' H') X.xe s
abbrev HS:=V->V->V->Hp->(Hp->Prop)->Prop
def Mr (X:Cx) (t:HS):Prop:=
 ∀(pins:List (Addr×Obj)) (s:Shared) (σ:St) (H:Hp) (o i v:V) (ov iv u:Value) (Q:Hp->Prop),Inv X pins σ H s->RelV o ov->RelV i iv->RelV v u->t o i v H Q->
  wpAny (model X.prog X.w) X.A (setItem ov iv u) (fun _ s'=> ∃H',Inv X pins σ H' s'/\Q H') X.xe s
abbrev OK:=V->V->Hp->VK->Prop
def Ms (X:Cx) (op:Operator) (t:OK):Prop:=
 ∀(pins:List (Addr×Obj)) (s:Shared) (σ:St) (H:Hp) (x y:V) (v u:Value) (Q:VK),Inv X pins σ H s->RelV x v->RelV y u->t x y H Q->
  wpAny (model X.prog X.w) X.A (inplaceOp op v u) (EP X pins σ Q) X.xe s
section
variable {X:Cx} {pos:Pos}
def uN (i:Nat):TG:=fun v σ H Q=>Q (σ.set i (some v)) H
theorem aV {i:Nat} {x:Str} (hN:X.N.Nodup) (hi:X.N[i]? =some x) (hx:Loc X.env.scope x) (hf:X.fn x=true\/X.env.scope.names.lookup x=some .local:=by first | exact .inl rfl | exact .inr rfl | assumption):PG X (.Name x pos) (uN i):=by
 intro pins s σ H v u Q I r h
 exact wpAny_assign_Name (ky I hN hi hx r (fun s' I'=>⟨_,H,I',h⟩) hf)
def Qg:GY:=fun vs σ H Q=>vs=[]/\Q σ H
def Mt (t:TG) (u:GY):GY:=fun vs σ H Q=> ∃v r,vs=v::r/\t v σ H fun σ' H'=>u r σ' H' Q
theorem nH:Mq X [] Qg:=by
 intro pins s σ H vs us Q I r h
 obtain ⟨e,h⟩:=h
 subst e
 cases r
 exact assignInOrder_nil ⟨σ,H,I,h⟩
theorem eX {e:Expr} {es:List Expr} {t:TG} {u:GY} (h1:PG X e t) (h2:Mq X es u)
  (hs:(assignEach (e::es) X.env).map (·.2)=assign e X.env::(assignEach es X.env).map (·.2):=by rfl):Mq X (e::es) (Mt t u):=by
 intro pins s σ H vs us Q I r h
 obtain ⟨v,vr,e1,h⟩:=h
 subst e1
 cases r with
 | cons r rr=>
  rw[hs]
  refine assignInOrder_cons (b8 (h1 pins s σ H _ _ _ I r h) fun _ s1 ⟨σ1,H1,I1,q1⟩=>?_)
  exact h2 pins s1 σ1 H1 _ _ Q I1 rr q1
def Mu (K:PySem.W.Frag) (n:Nat) (t:GY):TG:=fun v σ H Q=> ∃a xs,v= .ref a/\cS K H a xs/\xs.length=n/\t xs σ H Q
theorem HU {es:List Expr} {k:Nat} {t:GY} {n:Nat} (hc:X.calm=true) (h:Mq X es t)
  (hn:(assignEach es X.env).length=n:=by rfl) (mN:(assignEach es X.env).findIdx? (·.1)=none:=by rfl):PG X (.Tuple es k pos) (Mu X.K n t):=by
 intro pins s σ H v u Q I r hw
 obtain ⟨a,xs,e1,hq,hl,hw⟩:=hw
 subst e1
 cases r
 obtain ⟨aJ,rv,ht,hz⟩:=I.tuple hq
 refine assign_Tuple_tuple (I.ok.hd hc) ht (by simp[hn, <-hl,rv.length]) mN fun h' hx=>?_
 have I1:Inv X pins σ H { s with heap:=h' }:=I.kept (t':=s.toks) fun b o e=>hx b o (Xy (Xs e)) e
 exact h pins _ σ H xs _ Q I1 (by simpa using rv) hw
def Qh (to ti:TE) (t:HS):TG:=fun v σ H Q=>to σ H fun o H1=>ti σ H1 fun i H2=>t o i v H2 fun H3=>Q σ H3
theorem BC {o i:Expr} {to ti:TE} {t:HS} (ho:PE X o to) (hi:PE X i ti) (hs:Mr X t)
  (ha: ∀v,assign (.Subscript o i pos) X.env v=(do
   let ov <-holding [v] (eval o X.env)
   let iv <-holding [v,ov] (eval i X.env)
   standAt pos
   holding [v,ov,iv] (setItem ov iv v)
   release [v,ov,iv] []):=by intro _;rfl):PG X (.Subscript o i pos) (Qh to ti t):=by
 intro pins s σ H v u Q I r h
 rw[ha]
 refine wpAny_bind (wpAny_holding (b8 (ho pins s σ H _ I h) fun ov s1 ⟨x,H1,I1,r1,q1⟩=>?_))
 refine wpAny_bind (wpAny_holding (b8 (hi pins s1 σ H1 _ I1 q1) fun iv s2 ⟨y,H2,I2,r2,q2⟩=>?_))
 refine wpAny_bind (wpAny_standAt (wpAny_bind (wpAny_holding (b8 (hs pins s2 σ H2 x y v ov iv u _ I2 r1 r2 r q2) fun _ s3 ⟨H3,I3,q3⟩=>?_))))
 exact wpAny_release ⟨σ,H3,I3,q3⟩
def EJ (te:TE) (g:TG):TS:=fun D σ H=>te σ H fun x H1=>g x σ H1 D.nx
theorem BD {tg e:Expr} {te:TE} {g:TG} (he:PE X e te) (hg:PG X tg g) (hs:swapsWithSole [tg] e pos.line X.env=pure false:=by rfl) (hw:swappedStores [tg] e X.env=pure none:=by rfl)
  (h1:(assignEach [tg] X.env).map (·.2)=[assign tg X.env]:=by rfl):PS X (.Assign [tg] e pos) (EJ te g):=by
 intro pins s σ H D I h
 refine wpAny_Assign_stores (b8 (he pins s σ H _ I h) fun v s1 ⟨x,H1,I1,r1,q1⟩=>?_) hs hw
 rw[h1]
 exact b8 (hg pins s1 σ H1 x v _ I1 r1 q1) fun _ s2 q=>q
theorem ao {i:Nat} {x:Str} {e:Expr} {te:TE} {pos':Pos} (hN:X.N.Nodup) (hi:X.N[i]? =some x) (hx:Loc X.env.scope x) (he:PE X e te) (hs:swapsWith e (some (.Name x pos')) pos.line X.env=pure false:=by rfl) (hf:X.fn x=true\/X.env.scope.names.lookup x=some .local:=by first | exact .inl rfl | exact .inr rfl | assumption):
  PS X (.Assign [.Name x pos'] e pos) (EJ te (uN i)):=by
 intro pins s σ H D I h
 refine wpAny_Assign_Name (b8 (he pins s σ H _ I h) fun v s1 ⟨y,H1,I1,r1,q1⟩=>?_) hs
 exact ky I1 hN hi hx r1 (fun s2 I2=>⟨_,H1,I2,q1⟩) hf
def Qi (i:Nat) (te:TE) (ti:OK):TS:=fun D σ H=> ∃x,σ[i]? =some (some x)/\te σ H fun y H1=>ti x y H1 fun z H2=>D.nx (σ.set i (some z)) H2
theorem jW {i:Nat} {x:Str} {e:Expr} {te:TE} {op:Operator} {ti:OK} {pos':Pos} (hN:X.N.Nodup) (hi:X.N[i]? =some x) (hx:Loc X.env.scope x) (he:PE X e te) (ho:Ms X op ti) (hf:X.fn x=true\/X.env.scope.names.lookup x=some .local:=by first | exact .inl rfl | exact .inr rfl | assumption):
  PS X (.AugAssign (.Name x pos') op e pos) (Qi i te ti):=by
 intro pins s σ H D I h
 obtain ⟨v,e1,h⟩:=h
 obtain ⟨m,hn,hl⟩:=I.loc
 have Um:Mf X.env.scope x:=by rcases hx with k | k;exact .inl k;exact .inr (.inl k)
 obtain ⟨u,r,l⟩:=hl i x v hi e1 Um
 refine wpAny_AugAssign_Name ?_
 have go:wpAny (model X.prog X.w) X.A (eval e X.env) (fun w s₂=>wpAny (model X.prog X.w) X.A (inplaceOp op u w) (fun r s₃=>wpAny (model X.prog X.w) X.A (storeName X.env x r) (fun _=>SP X pins D .next) X.xe s₃) X.xe s₂) X.xe s:=by
  refine b8 (he pins s σ H _ I h) fun w s1 ⟨y,H1,I1,r1,q1⟩=>?_
  refine b8 (ho pins s1 σ H1 v y u w _ I1 r r1 q1) fun z s2 ⟨zv,H2,I2,r2,q2⟩=>?_
  exact ky I2 hN hi hx r2 (fun s3 I3=>⟨_,H2,I3,q2⟩) hf
 rcases l with ⟨hk,hm⟩ | ⟨hk,c,hc,gH⟩
 ·exact wpAny_loadName_local I.ok.kind hk hn hm go
 ·rcases hk with hk | hk
  ·exact wpAny_loadName_cell I.ok.kind hk hc gH go
  ·rcases hx with k | k
   ·have:X.env.scope.names.lookup x=some .free:=hk
    rw[k]at this;cases this
   ·have:X.env.scope.names.lookup x=some .free:=hk
    rw[k]at this;cases this
def Sm (f:Int->Int->Int):OK:=fun x y H Q=> ∃i j,x= .int i/\y= .int j/\Q (.int (f i j)) H
theorem r_:Ms X .Add (Sm fun i j=>i+j):=by
 intro pins s σ H x y v u Q I r1 r2 h
 obtain ⟨i,j,e1,e2,q⟩:=h
 subst e1;subst e2
 obtain ⟨t,rfl⟩:=r1
 obtain ⟨t',rfl⟩:=r2
 exact iadd_int ⟨.int _,H,I.tok _,⟨_,rfl⟩,q⟩
theorem HV:Ms X .Sub (Sm fun i j=>i - j):=by
 intro pins s σ H x y v u Q I r1 r2 h
 obtain ⟨i,j,e1,e2,q⟩:=h
 subst e1;subst e2
 obtain ⟨t,rfl⟩:=r1
 obtain ⟨t',rfl⟩:=r2
 exact isub_int ⟨.int _,H,I.tok _,⟨_,rfl⟩,q⟩
end
section
variable {X:Cx} {pos:Pos}
end
structure It where
 go:Nat->Hp->Prop
 Br:Nat->Hp->V->Hp->Prop
 stop:Nat->Hp->Prop
def m5 (X:Cx) (pins:List (Addr×Obj)) (H:Hp) (b:Addr):Prop:=
 H b=none/\b≠X.env.locals/\b∉X.fs/\(b∈X.ex\/X.s₀.heap.objs.size<=b)/\(∀x c,X.env.cells.lookup x=some c->c≠b)/\ ∀p∈X.pn++pins,p.1≠b
theorem Inv.qc {X:Cx} {pins:List (Addr×Obj)} {σ:St} {H H':Hp} {s:Shared} {b:Addr} (I:Inv X pins σ H s) (hb:s.heap.objs.size<=b) (hn:H' b=none):m5 X pins H' b:=by
 refine ⟨hn,ZK (XD I.lt hb),I.HK hb, .inr (XM I.sz hb),fun x c e z=>?_,fun p hp z=>?_⟩
 ·obtain ⟨v,q⟩:=I.cell x c e
  exact absurd (XD q.lt (by rw[z];exact hb)) (XY _)
 ·exact absurd (XD (Xs (I.pin p hp).1) (by rw[z];exact hb)) (XY _)
structure Turn (P:Program) (w:World) (K:PySem.W.Frag) (tg:Expr) (J:It) (fp:List Addr) (it:Addr) (tn:Nat->Heap->Prop):Prop where
 mem:it∈fp
 obj: ∀i h,tn i h-> ∀b∈fp, ∃o,h.get? b=some o/\ ∀v,o.data≠ .cell v
 keep: ∀i h h',tn i h->(∀b∈fp, ∀o,h.get? b=some o->h'.get? b=some o)->tn i h'
 item: ∀(X:Cx),X.prog=P->X.w=w->X.K=K->X.calm=true-> ∀(i:Nat) (pins:List (Addr×Obj)) (s:Shared) (σ:St) (H:Hp) (E:Value->Shared->Prop),Inv X pins σ H s->(∀b∈fp,m5 X pins H b)->tn i s.heap->J.go i H->
  wpAny (model P w) X.A (pyNext (.ref it)) (fun r s1=> ∃u,r=some u/\
   wpAny (model P w) X.A (letOwnedTupleGo tg (.ref it) u) (fun _ s2=> ∃x H',Inv X pins σ H' s2/\RelV x u/\J.Br i H x H'/\tn (i+1) s2.heap/\ ∀b∈fp,H' b=none) E s1) E s
 done: ∀(X:Cx),X.prog=P->X.w=w->X.K=K->X.calm=true-> ∀(i:Nat) (pins:List (Addr×Obj)) (s:Shared) (σ:St) (H:Hp) (E:Value->Shared->Prop),Inv X pins σ H s->(∀b∈fp,m5 X pins H b)->tn i s.heap->J.stop i H->
  wpAny (model P w) X.A (pyNext (.ref it)) (fun r s1=>r=none/\Inv X pins σ H s1) E s
 self: ∀(A:Around) (i:Nat) (s:Shared) (Q:Value->Shared->Prop) (E:Value->Shared->Prop),tn i s.heap->Q (.ref it) s->wpAny (model P w) A (pyIter (.ref it)) Q E s
abbrev TI:=St->Hp->(It->Hp->Prop)->Prop
def So (X:Cx) (pins:List (Addr×Obj)) (σ:St) (tg:Expr) (R:It->Hp->Prop) (Qj:Value) (s2:Shared):Prop:=
 ∃(it:Addr) (fp:List Addr) (tn:Nat->Heap->Prop) (J:It) (H':Hp),Qj= .ref it/\Inv X pins σ H' s2/\Turn X.prog X.w X.K tg J fp it tn/\tn 0 s2.heap/\(∀b∈fp,m5 X pins H' b)/\R J H'
def PI (X:Cx) (tg iter:Expr) (wi:TI):Prop:=
 ∀(pins:List (Addr×Obj)) (s:Shared) (σ:St) (H:Hp) (R:It->Hp->Prop),Inv X pins σ H s->wi σ H R->
  wpAny (model X.prog X.w) X.A (eval iter X.env) (fun v s1=>wpAny (model X.prog X.w) X.A (pyIter v) (So X pins σ tg R) X.xe s1) X.xe s
theorem uO {M:Model} {A:Around} {E:Value->Shared->Prop} {s:Shared} {tg:Expr} {it:Addr} {u:Value} {o:Obj} {n:String} {vs:Array Value} {Q:Unit->Shared->Prop} (ho:s.heap.get? it=some o) (hc:o.cls= .type n) (hd:o.data= .fields vs)
  (hn:["enumerate","zip","dict_itemiterator","dict_reverseitemiterator","odict_iterator","itertools.zip_longest","itertools.pairwise"].contains n=false) (hQ:Q () s):wpAny M A (letOwnedTupleGo tg (.ref it) u) Q E s:=by
 unfold letOwnedTupleGo
 cases tg<;>first
  | exact wpAny_pure hQ
  |(cases u<;>first
    | exact wpAny_pure hQ
    |(refine wpAny_bind (wpAny_load ho ?_)
      rw[hc,hd]
      show wpAny M A (if (["enumerate","zip","dict_itemiterator","dict_reverseitemiterator","odict_iterator","itertools.zip_longest","itertools.pairwise"].contains n&&vs[0]? ==some (rawInt _))=true then _ else _) Q E s
      rw[if_neg (by intro h;rw[hn,Bool.false_and]at h;cases h)]
      exact wpAny_pure hQ))
noncomputable def Kt (K:PySem.W.Frag) (a:Addr):It:=
 ⟨fun i H=> ∃xs x,bC K H a xs/\xs[i]? =some x,fun i H x H'=>H'=H/\ ∀xs,bC K H a xs->xs[i]? =some x,fun i H=> ∃xs,bC K H a xs/\xs.length<=i⟩
noncomputable def Ku (K:PySem.W.Frag) (a:Addr):It:=
 ⟨fun i H=> ∃xs x,cS K H a xs/\xs[i]? =some x,fun i H x H'=>H'=H/\ ∀xs,cS K H a xs->xs[i]? =some x,fun i H=> ∃xs,cS K H a xs/\xs.length<=i⟩
noncomputable def GZ (lo:Int) (n:Nat):It:=⟨fun i _=>i<n,fun i H x H'=>H'=H/\x= .int (lo+i),fun i _=>n<=i⟩
theorem z7 {P:Program} {w:World} {K:PySem.W.Frag} {tg:Expr} (a it:Addr):Turn P w K tg (Kt K a) [it] it (fun i h=>h.IsListIter it a i) where
 mem:=by simp
 obj:=fun i h st b hb=>by
  have e:b=it:=by simpa using hb
  subst e
  obtain ⟨o,e,c,d⟩:=st
  exact ⟨o,e,fun v z=>by rw[d]at z;cases z⟩
 keep:=fun i h h' st k=>st.at fun o e=>k it (by simp) o e
 item:=by
  intro X hP hw hK hc i pins s σ H E I hf st hg
  subst hP hw hK
  obtain ⟨xs,x,hq,hx⟩:=hg
  obtain ⟨aJ,rv,p,hz⟩:=I.list hq
  obtain ⟨u,hu,ru⟩:=rv.get hx
  obtain ⟨f0,f1,f2,f3,f4,f5⟩:=hf it (by simp)
  refine wpAny_pyNext_list_item st p.isList (x:=u) (by simpa using hu) fun h' uE sb=>?_
  have I1:Inv X pins σ H { s with heap:=h' }:=I.turned (t':=s.toks) (fun b o hb e=>(sb.2 b hb).trans e) f0 f1 f3 f4 f5
  obtain ⟨o,e,c,d⟩:=id uE
  exact ⟨u,rfl,uO (s:={ s with heap:=h' }) e c d (by decide) ⟨x,H,I1,ru,⟨rfl,fun ys hy=>by rw[I.uM hy hq];exact hx⟩,uE,fun b hb=>(hf b hb).1⟩⟩
 done:=by
  intro X hP hw hK hc i pins s σ H E I hf st hg
  subst hP hw hK
  obtain ⟨xs,hq,hx⟩:=hg
  obtain ⟨aJ,rv,p,hz⟩:=I.list hq
  obtain ⟨f0,f1,f2,f3,f4,f5⟩:=hf it (by simp)
  have hl:=rv.length
  exact wpAny_pyNext_list_end (I.ok.hd hc) st p.isList (by simp;omega) fun h' eb=>⟨rfl,I.turned (t':=s.toks) (fun b o hb e=>eb b o hb e) f0 f1 f3 f4 f5⟩
 self:=fun _ _ _ _ _ st h=>wpAny_pyIter_listiter st h
theorem wN {P:Program} {w:World} {K:PySem.W.Frag} {tg:Expr} (a it:Addr):Turn P w K tg (Ku K a) [it] it (fun i h=>h.IsTupleIter it a i) where
 mem:=by simp
 obj:=fun i h st b hb=>by
  have e:b=it:=by simpa using hb
  subst e
  obtain ⟨o,e,c,d⟩:=st
  exact ⟨o,e,fun v z=>by rw[d]at z;cases z⟩
 keep:=fun i h h' st k=>st.at fun o e=>k it (by simp) o e
 item:=by
  intro X hP hw hK hc i pins s σ H E I hf st hg
  subst hP hw hK
  obtain ⟨xs,x,hq,hx⟩:=hg
  obtain ⟨aJ,rv,p,hz⟩:=I.tuple hq
  obtain ⟨u,hu,ru⟩:=rv.get hx
  obtain ⟨f0,f1,f2,f3,f4,f5⟩:=hf it (by simp)
  refine wpAny_pyNext_tuple_item st (show s.heap.IsTuple a aJ.toArray from p) (x:=u) (by simpa using hu) fun h' uE sb=>?_
  have I1:Inv X pins σ H { s with heap:=h' }:=I.turned (t':=s.toks) (fun b o hb e=>(sb.2 b hb).trans e) f0 f1 f3 f4 f5
  obtain ⟨o,e,c,d⟩:=id uE
  exact ⟨u,rfl,uO (s:={ s with heap:=h' }) e c d (by decide) ⟨x,H,I1,ru,⟨rfl,fun ys hy=>by rw[I.qB hy hq];exact hx⟩,uE,fun b hb=>(hf b hb).1⟩⟩
 done:=by
  intro X hP hw hK hc i pins s σ H E I hf st hg
  subst hP hw hK
  obtain ⟨xs,hq,hx⟩:=hg
  obtain ⟨aJ,rv,p,hz⟩:=I.tuple hq
  obtain ⟨f0,f1,f2,f3,f4,f5⟩:=hf it (by simp)
  have hl:=rv.length
  exact wpAny_pyNext_tuple_end (I.ok.hd hc) st (show s.heap.IsTuple a aJ.toArray from p) (by simp;omega) fun h' eb=>⟨rfl,I.turned (t':=s.toks) (fun b o hb e=>eb b o hb e) f0 f1 f3 f4 f5⟩
 self:=fun _ _ _ _ _ st h=>wpAny_pyIter_tupleiter st h
theorem wO {P:Program} {w:World} {K:PySem.W.Frag} {tg:Expr} (it:Addr) (lo:Int) (n:Nat):Turn P w K tg (GZ lo n) [it] it (fun i h=>IsRangeIter h it (lo+(i:Nat)*1) ((n:Int) - (i:Nat)) 1) where
 mem:=by simp
 obj:=fun i h st b hb=>by
  have e:b=it:=by simpa using hb
  subst e
  exact ⟨_,st,fun v z=>by
   have z':Data.fields _=Data.cell v:=z
   cases z'⟩
 keep:=fun i h h' st k=>k it (by simp) _ st
 item:=by
  intro X hP hw hK hc i pins s σ H E I hf st hg
  subst hP hw hK
  obtain ⟨f0,f1,f2,f3,f4,f5⟩:=hf it (by simp)
  have W:=Walks.range (prog:=X.prog) (w:=X.w) (I.ok.hd hc) it lo 1 n
  refine W.item i s _ _ hg st fun v h' tk hv uE kk=>?_
  obtain ⟨t,rfl⟩:=hv
  have I1:Inv X pins σ H { s with heap:=h',toks:=tk }:=I.turned (fun b o hb e=>kk b o (by simpa using hb) e) f0 f1 f3 f4 f5
  refine ⟨_,rfl,uO (s:={ s with heap:=h',toks:=tk }) (n:="range_iterator") uE rfl rfl (by decide) ⟨.int (lo+i),H,I1,⟨t,?_⟩,⟨rfl,rfl⟩,uE,fun b hb=>(hf b hb).1⟩⟩
  rw[Int.mul_one]
 done:=by
  intro X hP hw hK hc i pins s σ H E I hf st hg
  subst hP hw hK
  obtain ⟨f0,f1,f2,f3,f4,f5⟩:=hf it (by simp)
  exact wpAny_pyNext_range_end (I.ok.hd hc) st (by have:n<=i:=hg;omega) fun h' eb=>⟨rfl,I.turned (t':=s.toks) (fun b o hb e=>eb b o hb e) f0 f1 f3 f4 f5⟩
 self:=fun _ _ _ _ _ st h=>wpAny_pyIter_rangeiter st h
section
variable {X:Cx} {tg:Expr}
def G0 (K:PySem.W.Frag) (tl:TE):TI:=fun σ H R=>tl σ H fun x H1=> ∃a,x= .ref a/\(∃xs,bC K H1 a xs)/\R (Kt K a) H1
def Mv (K:PySem.W.Frag) (tl:TE):TI:=fun σ H R=>tl σ H fun x H1=> ∃a,x= .ref a/\(∃xs,cS K H1 a xs)/\R (Ku K a) H1
theorem EK {l:Expr} {tl:TE} (hl:PE X l tl):PI X tg l (G0 X.K tl):=by
 intro pins s σ H R I h
 refine b8 (hl pins s σ H _ I h) fun v s1 ⟨x,H1,I1,r1,q1⟩=>?_
 obtain ⟨a,e,⟨xs,hq⟩,q⟩:=q1
 subst e
 cases r1
 obtain ⟨aJ,rv,p,hz⟩:=I1.list hq
 refine wpAny_pyIter_list p.isList ?_
 refine ⟨s1.heap.objs.size,[s1.heap.objs.size],_,_,H1,rfl,I1.kept (t':=s1.toks) fun b o e=>Sy _ e,z7 a _,⟨_,Xq _ rfl,rfl,rfl⟩,fun b hb=>?_,q⟩
 have e:b=s1.heap.objs.size:=by simpa using hb
 subst e
 exact I1.qc (OS _) (I1.bX.fresh (OS _))
theorem HW {l:Expr} {tl:TE} (hl:PE X l tl):PI X tg l (Mv X.K tl):=by
 intro pins s σ H R I h
 refine b8 (hl pins s σ H _ I h) fun v s1 ⟨x,H1,I1,r1,q1⟩=>?_
 obtain ⟨a,e,⟨xs,hq⟩,q⟩:=q1
 subst e
 cases r1
 obtain ⟨aJ,rv,p,hz⟩:=I1.tuple hq
 refine wpAny_pyIter_tuple (show s1.heap.IsTuple a aJ.toArray from p) ?_
 refine ⟨s1.heap.objs.size,[s1.heap.objs.size],_,_,H1,rfl,I1.kept (t':=s1.toks) fun b o e=>Sy _ e,wN a _,⟨_,Xq _ rfl,rfl,rfl⟩,fun b hb=>?_,q⟩
 have e:b=s1.heap.objs.size:=by simpa using hb
 subst e
 exact I1.qc (OS _) (I1.bX.fresh (OS _))
theorem uQ {pins:List (Addr×Obj)} {σ:St} {H:Hp} {s:Shared} {R:It->Hp->Prop} {E:Value->Shared->Prop} {lo hi:Int} {t u v:Tok} {tk:Nat} (I:Inv X pins σ H s) (h1: -(2 ^ 62)<=lo) (h2:lo<2 ^ 62) (h3: -(2 ^ 62)<=hi) (h4:hi<2 ^ 62)
  (q:R (GZ lo (hi - lo).toNat) H):wpAny (model X.prog X.w) X.A (pyIter (.ref s.heap.objs.size)) (So X pins σ tg R) E { s with heap:=s.heap.push { cls:= .type "range",data:= .fields #[.int lo t, .int hi u, .int 1 v] },toks:=tk }:=by
 refine wpAny_pyIter_range (IsRange.new ..) (small_one h1 h2 h3 h4) ?_
 have I1:Inv X pins σ H { s with heap:=s.heap.push { cls:= .type "range",data:= .fields #[.int lo t, .int hi u, .int 1 v] },toks:=tk }:=I.kept fun b o e=>Sy _ e
 refine ⟨(s.heap.push { cls:= .type "range",data:= .fields #[.int lo t, .int hi u, .int 1 v] }).objs.size,[(s.heap.push { cls:= .type "range",data:= .fields #[.int lo t, .int hi u, .int 1 v] }).objs.size],_,_,H,rfl,
  I1.kept (t':=tk) fun b o e=>Sy _ e,wO _ lo (hi - lo).toNat,?_,fun b hb=>?_,q⟩
 ·have e1:lo+((0:Nat):Int)*1=lo:=by simp
  have e2:(((hi - lo).toNat:Nat):Int) - ((0:Nat):Int)=Builtin.Range.rangeSize lo hi 1:=by rw[rangeSize_one];split<;>omega
  show IsRangeIter _ _ (lo+((0:Nat):Int)*1) ((((hi - lo).toNat:Nat):Int) - ((0:Nat):Int)) 1
  rw[e1,e2]
  exact Xq _ rfl
 ·have e:b=(s.heap.push { cls:= .type "range",data:= .fields #[.int lo t, .int hi u, .int 1 v] }).objs.size:=by simpa using hb
  subst e
  exact I1.qc (OS _) (I1.bX.fresh (OS _))
def Mw (ta:TA):TI:=fun σ H R=>ta σ H fun vs H1=> ∃j:Int,vs=[.int j]/\ -(2 ^ 62)<=j/\j<2 ^ 62/\R (GZ 0 j.toNat) H1
def Mx (ta:TA):TI:=fun σ H R=>ta σ H fun vs H1=> ∃i j:Int,vs=[.int i, .int j]/\(-(2 ^ 62)<=i/\i<2 ^ 62/\ -(2 ^ 62)<=j/\j<2 ^ 62)/\R (GZ i (j - i).toNat) H1
theorem gI {a:Expr} {ta:TA} {p pos:Pos} (hg:Gl X "range") (hm:X.mg "range"=none) (ha:PA X [a] ta) (hs:starEach [a] X.env=[(false,eval a X.env)]:=by rfl):PI X tg (.Call (.Name "range" p) [a] [] pos) (Mw ta):=by
 intro pins s σ H R I h
 refine Call_ (gv I hg hm boot_range (X1 (b8 (ha pos pins s σ H _ I h) fun us s1 ⟨vs,H1,I1,r1,q1⟩=>?_) hs rfl))
 obtain ⟨j,e,q1,q2,q⟩:=q1
 subst e
 cases r1 with
 | cons r rr=>
  cases rr
  obtain ⟨t,rfl⟩:=r
  exact call_range_1 (uQ I1 (by omega) (by omega) q1 q2 (by simpa using q))
theorem qC {a b:Expr} {ta:TA} {p pos:Pos} (hg:Gl X "range") (hm:X.mg "range"=none) (ha:PA X [a,b] ta) (hs:starEach [a,b] X.env=[(false,eval a X.env),(false,eval b X.env)]:=by rfl) (HX:starEach [b] X.env=[(false,eval b X.env)]:=by rfl):
  PI X tg (.Call (.Name "range" p) [a,b] [] pos) (Mx ta):=by
 intro pins s σ H R I h
 refine Call_ (gv I hg hm boot_range (X1 (b8 (ha pos pins s σ H _ I h) fun us s1 ⟨vs,H1,I1,r1,q1⟩=>?_) (by rw[hs,HX]) (by rw[HX];rfl)))
 obtain ⟨i,j,e,⟨q1,q2,q3,q4⟩,q⟩:=q1
 subst e
 cases r1 with
 | cons r rr=>
  cases rr with
  | cons r' rr=>
   cases rr
   obtain ⟨t,rfl⟩:=r
   obtain ⟨t',rfl⟩:=r'
   exact call_range_2 (uQ I1 q1 q2 q3 q4 q)
def Qk (wi:TI) (g:TG) (tb:TS):TS:=fun D σ H=>wi σ H fun J H1=> ∃W:Nat->Nat->St->Hp->Prop,(∃m,W 0 m σ H1)/\ ∀i m σ H,W i m σ H->
 (J.stop i H/\D.nx σ H)\/(J.go i H/\ ∃N:St->Hp->Prop,(∀σ' H',N σ' H'-> ∃m',m'<m/\W (i+1) m' σ' H')/\ ∀x H',J.Br i H x H'->g x σ H' fun σ2 H2=>tb { D with nx:=N,ct:=N,bk:=D.nx } σ2 H2)
noncomputable def oe (fp:List Addr) (h:Heap):List (Addr×Obj):=fp.filterMap fun b=>(h.get? b).map fun o=>(b,o)
theorem gW {fp:List Addr} {h:Heap} {b:Addr} {o:Obj} (hb:b∈fp) (e:h.get? b=some o):(b,o)∈oe fp h:=List.mem_filterMap.mpr ⟨b,hb,by rw[e];rfl⟩
theorem z8 {fp:List Addr} {h:Heap} {p:Addr×Obj} (hp:p∈oe fp h):p.1∈fp/\h.get? p.1=some p.2:=by
 obtain ⟨b,hb,e⟩:=List.mem_filterMap.mp hp
 cases q:h.get? b with
 | none=>rw[q]at e;cases e
 | some o=>
  rw[q]at e
  have e':(b,o)=p:=Xr e
  subst e'
  exact ⟨hb,q⟩
theorem Inv.pinned {pins:List (Addr×Obj)} {σ:St} {H:Hp} {s:Shared} {fp:List Addr} (I:Inv X pins σ H s) (hf: ∀b∈fp,m5 X pins H b) (ho: ∀b∈fp, ∃o,s.heap.get? b=some o/\ ∀v,o.data≠ .cell v):Inv X (pins++oe fp s.heap) σ H s:=
 I.kx fun p hp=>(Xn.mp hp).elim (fun z=>I.pin p (XC _ z)) fun z=>by
  obtain ⟨hb,e⟩:=z8 z
  obtain ⟨f0,f1,f2,_⟩:=hf p.1 hb
  obtain ⟨o,e',d⟩:=ho p.1 hb
  rw[e]at e';cases e'
  exact ⟨e,f0,f1,f2,d⟩
theorem Inv.iJ {pins pl:List (Addr×Obj)} {σ:St} {H:Hp} {s:Shared} (I:Inv X (pins++pl) σ H s):Inv X pins σ H s:=I.kx fun p hp=>I.pin p (XC _ (Yr _ hp))
theorem cN {iter:Expr} {body:List Stmt} {wi:TI} {g:TG} {tb:TS} {pos:Pos} (hp:PassesOwn (model X.prog X.w) X.A X.env X.xe) (hc:X.calm=true) (hi:PI X tg iter wi) (hg:PG X tg g) (hb:wM X body tb)
  (hs: ∀x,foldedSetIterable iter X.env x=pure x:=by intro _;rfl):PS X (.For tg iter body [] pos) (Qk wi g tb):=by
 intro pins s σ H D I h
 refine wpAny_For (b8 (hi pins s σ H _ I h) fun v s1 h1=>b8 h1 fun Qj s2 h2=>?_) hs
 obtain ⟨it,fp,tn,J,H2,e,I2,T,wB,f2,W,⟨m0,w0⟩,turn⟩:=h2
 subst e
 -- Uo stays true of Ej HY objects through Ej loop
 have HZ: ∀{H':Hp},(∀b∈fp,H' b=none)-> ∀b∈fp,m5 X pins H' b:=fun hn b hb=>⟨hn b hb,(f2 b hb).2⟩
 refine codeAny_forLoop_any (fun n s'=> ∃i σ' H',Inv X pins σ' H' s'/\tn i s'.heap/\(∀b∈fp,H' b=none)/\W i n σ' H') ?_ m0 ⟨0,σ,H2,I2,wB,fun b hb=>(f2 b hb).1,w0⟩
 rintro n s3 ⟨i,σ3,H3,I3,Mz,MA,w3⟩
 rcases turn i n σ3 H3 w3 with ⟨stop,qn⟩ | ⟨go,N,hN,step⟩
 ·refine wpAny_passesOwn hp (b8 (T.done X rfl rfl rfl hc i pins s3 σ3 H3 X.xe I3 (HZ MA) Mz stop) fun r s4 ⟨hr,I4⟩=>?_)
  subst hr
  exact wpAny_execs_nil ⟨σ3,H3,I4,qn⟩
 ·refine wpAny_passesOwn hp (b8 (T.item X rfl rfl rfl hc i pins s3 σ3 H3 X.xe I3 (HZ MA) Mz go) fun r s4 ⟨u,hr,h4⟩=>?_)
  subst hr
  refine wpAny_passesOwn hp (b8 h4 fun _ s5 ⟨x,H5,I5,r5,y5,H_,Ql⟩=>?_)
  have Qm:=I5.pinned (HZ Ql) (T.obj _ _ H_)
  refine wpAny_passesOwn hp (b8 (hg _ s5 σ3 H5 x u _ Qm r5 (step x H5 y5)) fun _ s6 ⟨σ6,H6,I6,q6⟩=>?_)
  refine wpAny_passesOwn hp (b8 (hb _ s6 σ6 H6 _ I6 q6) fun f s7 q7=>?_)
  have again: ∀{σ7:St} {H7:Hp},Inv X (pins++oe fp s5.heap) σ7 H7 s7->N σ7 H7-> ∃m,m<n/\ ∃i σ' H',Inv X pins σ' H' s7/\tn i s7.heap/\(∀b∈fp,H' b=none)/\W i m σ' H':=fun {σ7 H7} I7 n7=>by
   obtain ⟨m',hm,w7⟩:=hN σ7 H7 n7
   refine ⟨m',hm,i+1,σ7,H7,I7.iJ,T.keep _ _ _ H_ fun b hb o e=>(I7.pin (b,o) (XC _ (XC _ (gW hb e)))).1,fun b hb=>?_,w7⟩
   obtain ⟨o,e,d⟩:=T.obj _ _ H_ b hb
   exact (I7.pin (b,o) (XC _ (XC _ (gW hb e)))).2.1
  cases f with
  | next=>obtain ⟨σ7,H7,I7,n7⟩:=q7;exact again I7 n7
  | cont=>obtain ⟨σ7,H7,I7,n7⟩:=q7;exact again I7 n7
  | brk=>obtain ⟨σ7,H7,I7,q7⟩:=q7;exact ⟨σ7,H7,I7.iJ,q7⟩
  | ret v=>obtain ⟨x7,σ7,H7,I7,r7,q7⟩:=q7;exact ⟨x7,σ7,H7,I7.iJ,r7,q7⟩
end
theorem kz {K:PySem.W.Frag} {a:Addr} {xs:List V} {g:TG} {tb:TS} {D:Ends} {σ:St} {H:Hp} (Pv:Nat->St->Hp->Prop) (h0:Pv 0 σ H) (hl: ∀i σ H,i<=xs.length->Pv i σ H->bC K H a xs)
  (hs: ∀i x σ H,xs[i]? =some x->Pv i σ H->g x σ H fun σ2 H2=>tb { D with nx:=Pv (i+1),ct:=Pv (i+1),bk:=D.nx } σ2 H2) (hd: ∀σ H,Pv xs.length σ H->D.nx σ H):
  ∃W:Nat->Nat->St->Hp->Prop,(∃m,W 0 m σ H)/\ ∀i m σ H,W i m σ H->
   ((Kt K a).stop i H/\D.nx σ H)\/((Kt K a).go i H/\ ∃N:St->Hp->Prop,(∀σ' H',N σ' H'-> ∃m',m'<m/\W (i+1) m' σ' H')/\ ∀x H',(Kt K a).Br i H x H'->g x σ H' fun σ2 H2=>tb { D with nx:=N,ct:=N,bk:=D.nx } σ2 H2):=by
 refine ⟨fun i m σ H=>m=xs.length - i/\i<=xs.length/\Pv i σ H,⟨xs.length,by simp,WO _,h0⟩,?_⟩
 rintro i m σ H ⟨rfl,hi,p⟩
 have q:=hl i σ H hi p
 by_cases dk:i<xs.length
 ·refine .inr ⟨⟨xs,xs[i],q,by simp[dk]⟩,Pv (i+1),fun σ' H' p'=>⟨xs.length - (i+1),by omega,rfl,dk,p'⟩,fun x H' y=>?_⟩
  obtain ⟨e,y⟩:=y
  subst e
  exact hs i x σ _ (y xs q) p
 ·have e:i=xs.length:=by omega
  subst e
  exact .inl ⟨⟨xs,q,OS _⟩,hd σ H p⟩
theorem EL {K:PySem.W.Frag} {a:Addr} {xs:List V} {g:TG} {tb:TS} {D:Ends} {σ:St} {H:Hp} (Pv:Nat->St->Hp->Prop) (h0:Pv 0 σ H) (hl: ∀i σ H,i<=xs.length->Pv i σ H->cS K H a xs)
  (hs: ∀i x σ H,xs[i]? =some x->Pv i σ H->g x σ H fun σ2 H2=>tb { D with nx:=Pv (i+1),ct:=Pv (i+1),bk:=D.nx } σ2 H2) (hd: ∀σ H,Pv xs.length σ H->D.nx σ H):
  ∃W:Nat->Nat->St->Hp->Prop,(∃m,W 0 m σ H)/\ ∀i m σ H,W i m σ H->
   ((Ku K a).stop i H/\D.nx σ H)\/((Ku K a).go i H/\ ∃N:St->Hp->Prop,(∀σ' H',N σ' H'-> ∃m',m'<m/\W (i+1) m' σ' H')/\ ∀x H',(Ku K a).Br i H x H'->g x σ H' fun σ2 H2=>tb { D with nx:=N,ct:=N,bk:=D.nx } σ2 H2):=by
 refine ⟨fun i m σ H=>m=xs.length - i/\i<=xs.length/\Pv i σ H,⟨xs.length,by simp,WO _,h0⟩,?_⟩
 rintro i m σ H ⟨rfl,hi,p⟩
 have q:=hl i σ H hi p
 by_cases dk:i<xs.length
 ·refine .inr ⟨⟨xs,xs[i],q,by simp[dk]⟩,Pv (i+1),fun σ' H' p'=>⟨xs.length - (i+1),by omega,rfl,dk,p'⟩,fun x H' y=>?_⟩
  obtain ⟨e,y⟩:=y
  subst e
  exact hs i x σ _ (y xs q) p
 ·have e:i=xs.length:=by omega
  subst e
  exact .inl ⟨⟨xs,q,OS _⟩,hd σ H p⟩
theorem fM {lo:Int} {n:Nat} {g:TG} {tb:TS} {D:Ends} {σ:St} {H:Hp} (Pv:Nat->St->Hp->Prop) (h0:Pv 0 σ H)
  (hs: ∀i σ H,i<n->Pv i σ H->g (.int (lo+i)) σ H fun σ2 H2=>tb { D with nx:=Pv (i+1),ct:=Pv (i+1),bk:=D.nx } σ2 H2) (hd: ∀σ H,Pv n σ H->D.nx σ H):
  ∃W:Nat->Nat->St->Hp->Prop,(∃m,W 0 m σ H)/\ ∀i m σ H,W i m σ H->
   ((GZ lo n).stop i H/\D.nx σ H)\/((GZ lo n).go i H/\ ∃N:St->Hp->Prop,(∀σ' H',N σ' H'-> ∃m',m'<m/\W (i+1) m' σ' H')/\ ∀x H',(GZ lo n).Br i H x H'->g x σ H' fun σ2 H2=>tb { D with nx:=N,ct:=N,bk:=D.nx } σ2 H2):=by
 refine ⟨fun i m σ H=>m=n - i/\i<=n/\Pv i σ H,⟨n,by simp,WO _,h0⟩,?_⟩
 rintro i m σ H ⟨rfl,hi,p⟩
 by_cases dk:i<n
 ·refine .inr ⟨dk,Pv (i+1),fun σ' H' p'=>⟨n - (i+1),by omega,rfl,dk,p'⟩,fun x H' y=>?_⟩
  obtain ⟨e,y⟩:=y
  subst e y
  exact hs i σ _ dk p
 ·have e:i=n:=by omega
  subst e
  exact .inl ⟨OS _,hd σ H p⟩
abbrev R2:=V->V->Hp->VK->Prop
def iE (X:Cx) (f:Value->Value->Sem Value) (r:R2):Prop:=
 ∀(pins:List (Addr×Obj)) (s:Shared) (σ:St) (H:Hp) (x y:V) (v u:Value) (Q:VK),Inv X pins σ H s->RelV x v->RelV y u->r x y H Q->
  wpAny (model X.prog X.w) X.A (f v u) (EP X pins σ Q) X.xe s
def Qn (X:Cx) (f:Value->Sem Value) (r:V->Hp->VK->Prop):Prop:=
 ∀(pins:List (Addr×Obj)) (s:Shared) (σ:St) (H:Hp) (x:V) (v:Value) (Q:VK),Inv X pins σ H s->RelV x v->r x H Q->
  wpAny (model X.prog X.w) X.A (f v) (EP X pins σ Q) X.xe s
def dN (X:Cx) (f:Value) (r:List V->Hp->VK->Prop):Prop:=
 ∀(pins:List (Addr×Obj)) (s:Shared) (σ:St) (H:Hp) (xs:List V) (us:List Value) (Q:VK),Inv X pins σ H s->Vals xs us->r xs H Q->
  wpAny (model X.prog X.w) X.A (call f us) (EP X pins σ Q) X.xe s
def Qo (X:Cx) (r:V->Hp->(Bool->Hp->Prop)->Prop):Prop:=
 ∀(pins:List (Addr×Obj)) (s:Shared) (σ:St) (H:Hp) (x:V) (v:Value) (Q:Bool->Hp->Prop),Inv X pins σ H s->RelV x v->r x H Q->
  wpAny (model X.prog X.w) X.A (truthy v) (TP X pins σ Q) X.xe s
def OL (r:R2) (ta tb:TE):TE:=fun σ H Q=>ta σ H fun x H1=>tb σ H1 fun y H2=>r x y H2 Q
def Up (r:V->Hp->VK->Prop) (ta:TE):TE:=fun σ H Q=>ta σ H fun x H1=>r x H1 Q
def rI (C:Int->Int->Prop) (g:Int->Int->V):R2:=fun x y H Q=> ∃i j,x= .int i/\y= .int j/\C i j/\Q (g i j) H
def Ek (g:Int->Int->V):R2:=fun x y H Q=> ∃i j,x= .int i/\y= .int j/\Q (g i j) H
def rU (g:Int->V):V->Hp->VK->Prop:=fun x H Q=> ∃i,x= .int i/\Q (g i) H
section
variable {X:Cx} {a b c:Expr} {ta tb tc:TE} {pos:Pos}
theorem Ia (ha:PE X a ta) (hb:PE X b tb) {pins:List (Addr×Obj)} {s:Shared} {σ:St} {H:Hp} {R:V->V->Hp->Prop} (I:Inv X pins σ H s)
  (h:ta σ H fun x H1=>tb σ H1 fun y H2=>R x y H2) {Q:Value->Shared->Prop} {f:Value->Value->Sem Value}
  (hf: ∀v u s2 x y H2,Inv X pins σ H2 s2->RelV x v->RelV y u->R x y H2->wpAny (model X.prog X.w) X.A (f v u) Q X.xe s2):
  wpAny (model X.prog X.w) X.A (eval a X.env) (fun v s₁=>wpAny (model X.prog X.w) X.A (eval b X.env) (fun u s₂=>wpAny (model X.prog X.w) X.A (f v u) Q X.xe s₂) X.xe s₁) X.xe s:=by
 refine b8 (ha pins s σ H _ I h) fun v s1 ⟨x,H1,I1,r1,q1⟩=>?_
 refine b8 (hb pins s1 σ H1 _ I1 q1) fun u s2 ⟨y,H2,I2,r2,q2⟩=>?_
 exact hf v u s2 x y H2 I2 r1 r2 q2
theorem aD {op:Operator} {r:R2} (ho:iE X (binaryOp op) r) (ha:PE X a ta) (hb:PE X b tb):PE X (.BinOp a op b pos) (OL r ta tb):=by
 intro pins s σ H Q I h
 exact wpAny_BinOp (Ia ha hb I h fun v u s2 x y H2 I2 rx ry q=>ho pins s2 σ H2 x y v u Q I2 rx ry q)
theorem jF {op:UnaryOp} {r:V->Hp->VK->Prop} (ho:Qn X (unaryOp op) r) (ha:PE X a ta):PE X (.UnaryOp op a pos) (Up r ta):=by
 intro pins s σ H Q I h
 exact UnaryOp_ (b8 (ha pins s σ H _ I h) fun v s1 ⟨x,H1,I1,r1,q1⟩=>ho pins s1 σ H1 x v Q I1 r1 q1)
theorem OM {f:Value->Value->Sem Value} {C:Int->Int->Prop} {g:Int->Int->Int}
  (rule: ∀(i j:Int) (t u:Tok) (s:Shared) (Q:Value->Shared->Prop) (E:Value->Shared->Prop),C i j->Q (.int (g i j) s.toks) { s with toks:=s.toks+1 }->wpAny (model X.prog X.w) X.A (f (.int i t) (.int j u)) Q E s):
  iE X f (rI C fun i j=> .int (g i j)):=by
 intro pins s σ H x y v u Q I rx ry h
 obtain ⟨i,j,rfl,rfl,hc,q⟩:=h
 obtain ⟨t,rfl⟩:=rx
 obtain ⟨t',rfl⟩:=ry
 exact rule i j t t' s _ _ hc ⟨.int (g i j),H,I.tok _,⟨_,rfl⟩,q⟩
theorem MB {f:Value->Value->Sem Value} {g:Int->Int->Int}
  (rule: ∀(i j:Int) (t u:Tok) (s:Shared) (Q:Value->Shared->Prop) (E:Value->Shared->Prop),Q (.int (g i j) s.toks) { s with toks:=s.toks+1 }->wpAny (model X.prog X.w) X.A (f (.int i t) (.int j u)) Q E s):
  iE X f (Ek fun i j=> .int (g i j)):=by
 intro pins s σ H x y v u Q I rx ry h
 obtain ⟨i,j,rfl,rfl,q⟩:=h
 obtain ⟨t,rfl⟩:=rx
 obtain ⟨t',rfl⟩:=ry
 exact rule i j t t' s _ _ ⟨.int (g i j),H,I.tok _,⟨_,rfl⟩,q⟩
theorem EM {f:Value->Value->Sem Value} {g:Int->Int->Bool}
  (rule: ∀(i j:Int) (t u:Tok) (s:Shared) (Q:Value->Shared->Prop) (E:Value->Shared->Prop),Q (.bool (g i j)) s->wpAny (model X.prog X.w) X.A (f (.int i t) (.int j u)) Q E s):
  iE X f (Ek fun i j=> .bl (g i j)):=by
 intro pins s σ H x y v u Q I rx ry h
 obtain ⟨i,j,rfl,rfl,q⟩:=h
 obtain ⟨t,rfl⟩:=rx
 obtain ⟨t',rfl⟩:=ry
 exact rule i j t t' s _ _ ⟨.bl (g i j),H,I,rfl,q⟩
def Qp (i j:Int):Prop:=0<j/\j<1073741824
def Qq (i j:Int):Prop:=0<=j/\j<=1000000/\i.natAbs<2 ^ 64
def EN (i j:Int):Prop:=(-(2 ^ 64)<i/\i<2 ^ 64)\/(-(2 ^ 64)<j/\j<2 ^ 64)
theorem EN.ok {i j:Int} (h:EN i j):IntMulOk i j:=by
 rcases h with ⟨h1,h2⟩ | ⟨h1,h2⟩
 ·exact .of_left (intBits_le_64 h1 h2)
 ·exact .of_right (intBits_le_64 h1 h2)
theorem bz:iE X (binaryOp .Add) (Ek fun i j=> .int (i+j)):=MB fun _ _ _ _ _ _ _ q=>add_int q
theorem dh:iE X (binaryOp .Sub) (Ek fun i j=> .int (i - j)):=MB fun _ _ _ _ _ _ _ q=>sub_int q
theorem jX:iE X (binaryOp .Mult) (rI EN fun i j=> .int (i*j)):=OM fun _ _ _ _ _ _ _ hc q=>mul_int q hc.ok
theorem fk:iE X (binaryOp .Mod) (rI (fun _ j=>0<j) fun i j=> .int (i%j)):=OM fun i j _ _ _ _ _ hc q=>by
 have h1:(0:Int)<j:=hc
 exact mod_int' (by omega) (by rw[Int.fmod_eq_emod_of_nonneg i (by omega)];exact q)
theorem BE:iE X (binaryOp .Pow) (rI Qq fun i j=> .int (i ^ j.toNat)):=OM fun _ _ _ _ _ _ _ hc q=>pow_int_small hc.1 hc.2.1 hc.2.2 q
theorem Uq {f:Value->Sem Value} {g:Int->Int}
  (rule: ∀(i:Int) (t:Tok) (s:Shared) (Q:Value->Shared->Prop) (E:Value->Shared->Prop),Q (.int (g i) s.toks) { s with toks:=s.toks+1 }->wpAny (model X.prog X.w) X.A (f (.int i t)) Q E s):
  Qn X f (rU fun i=> .int (g i)):=by
 intro pins s σ H x v Q I rx h
 obtain ⟨i,rfl,q⟩:=h
 obtain ⟨t,rfl⟩:=rx
 exact rule i t s _ _ ⟨.int (g i),H,I.tok _,⟨_,rfl⟩,q⟩
theorem gw:Qn X (unaryOp .USub) (rU fun i=> .int (-i)):=Uq fun _ _ _ _ _ q=>neg_int q
end
noncomputable def MC:V->V->Bool
 | .fB, .fB=>true | .fB, .int _=>true | .int _, .fB=>true | .fB, .bl _=>true | .bl _, .fB=>true | .fB, .str _=>true | .str _, .fB=>true
 | .int _, .int _=>true | .bl _, .bl _=>true | .str _, .str _=>true | .yB _, .yB _=>true
 | .int _, .str _=>true | .str _, .int _=>true | .bl _, .str _=>true | .str _, .bl _=>true
 | _,_=>false
def Ur:R2:=fun x y H Q=>MC x y=true/\Q (.bl (decide (x=y))) H
def Us:R2:=fun x y H Q=>MC x y=true/\Q (.bl (!decide (x=y))) H
theorem yI {i j:Int}:decide (V.int i=V.int j)=(i==j):=by
 rw[Zi]
 simp
theorem BF {i j:Bool}:decide (V.bl i=V.bl j)=(i==j):=by
 rw[Zi]
 simp
theorem yJ {i j:Str}:decide (V.str i=V.str j)=(i==j):=by
 rw[Zi]
 simp
theorem yK {i j:Array UInt8}:decide (V.yB i=V.yB j)=(i.toList==j.toList):=by
 rw[Zi]
 cases i
 cases j
 simp
section
variable {X:Cx} {a b c:Expr} {ta tb tc:TE} {pos:Pos}
theorem bB {pins:List (Addr×Obj)} {σ:St} {H:Hp} {s:Shared} {Q:VK} {k k':Bool} (I:Inv X pins σ H s) (q:Q (.bl k) H) (e:k=k'):EP X pins σ Q (.bool k') s:=by
 subst e
 exact ⟨.bl k,H,I,rfl,q⟩
theorem G1:iE X (compareOp .Eq) Ur:=by
 intro pins s σ H x y v u Q I rx ry h
 obtain ⟨hs,q⟩:=h
 cases x with
 | fB=>
  cases rx
  cases y with
  | fB=>cases ry;exact PySem.EqNone.eq_none_none (bB I q (by simp))
  | bl j=>cases ry;exact PySem.EqNone.eq_none_bool (bB I q (by simp))
  | int j=>obtain ⟨t',rfl⟩:=ry;exact PySem.EqNone.eq_none_int (bB I q (by simp))
  | str j=>obtain ⟨t',rfl⟩:=ry;exact PySem.EqNone.eq_none_str (bB I q (by simp))
  | _=>exact absurd (show false=true from hs) Xv
 | bl i=>
  cases rx
  cases y with
  | fB=>cases ry;exact PySem.EqNone.eq_bool_none (bB I q (by simp))
  | bl j=>cases ry;exact eq_bool (bB I q BF)
  | str j=>obtain ⟨t',rfl⟩:=ry;exact PySem.EqMixed.eq_bool_str (bB I q (by simp))
  | _=>exact absurd (show false=true from hs) Xv
 | int i=>
  obtain ⟨t,rfl⟩:=rx
  cases y with
  | fB=>cases ry;exact PySem.EqNone.eq_int_none (bB I q (by simp))
  | int j=>obtain ⟨t',rfl⟩:=ry;exact eq_int (bB I q yI)
  | str j=>obtain ⟨t',rfl⟩:=ry;exact PySem.EqMixed.eq_int_str (bB I q (by simp))
  | _=>exact absurd (show false=true from hs) Xv
 | str i=>
  obtain ⟨t,rfl⟩:=rx
  cases y with
  | fB=>cases ry;exact PySem.EqNone.eq_str_none (bB I q (by simp))
  | bl j=>cases ry;exact PySem.EqMixed.eq_str_bool (bB I q (by simp))
  | int j=>obtain ⟨t',rfl⟩:=ry;exact PySem.EqMixed.eq_str_int (bB I q (by simp))
  | str j=>obtain ⟨t',rfl⟩:=ry;exact eq_str (bB I q yJ)
  | _=>exact absurd (show false=true from hs) Xv
 | yB i=>
  obtain ⟨t,rfl⟩:=rx
  cases y with
  | yB j=>obtain ⟨t',rfl⟩:=ry;exact PySem.W.eq_bytes (bB I q yK)
  | _=>exact absurd (show false=true from hs) Xv
 | _=>cases y<;>exact absurd (show false=true from hs) Xv
theorem G2:iE X (compareOp .NotEq) Us:=by
 intro pins s σ H x y v u Q I rx ry h
 obtain ⟨hs,q⟩:=h
 cases x with
 | fB=>
  cases rx
  cases y with
  | fB=>cases ry;exact PySem.EqNone.ne_none_none (bB I q (by simp))
  | bl j=>cases ry;exact PySem.EqNone.ne_none_bool (bB I q (by simp))
  | int j=>obtain ⟨t',rfl⟩:=ry;exact PySem.EqNone.ne_none_int (bB I q (by simp))
  | str j=>obtain ⟨t',rfl⟩:=ry;exact PySem.EqNone.ne_none_str (bB I q (by simp))
  | _=>exact absurd (show false=true from hs) Xv
 | bl i=>
  cases rx
  cases y with
  | fB=>cases ry;exact PySem.EqNone.ne_bool_none (bB I q (by simp))
  | bl j=>cases ry;exact ne_bool (bB I q (congrArg not BF))
  | str j=>obtain ⟨t',rfl⟩:=ry;exact PySem.EqMixed.ne_bool_str (bB I q (by simp))
  | _=>exact absurd (show false=true from hs) Xv
 | int i=>
  obtain ⟨t,rfl⟩:=rx
  cases y with
  | fB=>cases ry;exact PySem.EqNone.ne_int_none (bB I q (by simp))
  | int j=>obtain ⟨t',rfl⟩:=ry;exact ne_int (bB I q (congrArg not yI))
  | str j=>obtain ⟨t',rfl⟩:=ry;exact PySem.EqMixed.ne_int_str (bB I q (by simp))
  | _=>exact absurd (show false=true from hs) Xv
 | str i=>
  obtain ⟨t,rfl⟩:=rx
  cases y with
  | fB=>cases ry;exact PySem.EqNone.ne_str_none (bB I q (by simp))
  | bl j=>cases ry;exact PySem.EqMixed.ne_str_bool (bB I q (by simp))
  | int j=>obtain ⟨t',rfl⟩:=ry;exact PySem.EqMixed.ne_str_int (bB I q (by simp))
  | str j=>obtain ⟨t',rfl⟩:=ry;exact ne_str (bB I q (congrArg not yJ))
  | _=>exact absurd (show false=true from hs) Xv
 | yB i=>
  obtain ⟨t,rfl⟩:=rx
  cases y with
  | yB j=>obtain ⟨t',rfl⟩:=ry;exact PySem.W.ne_bytes (bB I q (congrArg not yK))
  | _=>exact absurd (show false=true from hs) Xv
 | _=>cases y<;>exact absurd (show false=true from hs) Xv
theorem mO:iE X (compareOp .Lt) (Ek fun i j=> .bl (decide (i<j))):=EM fun _ _ _ _ _ _ _ q=>lt_int q
theorem G3:iE X (compareOp .LtE) (Ek fun i j=> .bl (decide (i<=j))):=EM fun _ _ _ _ _ _ _ q=>le_int q
theorem qD:iE X (compareOp .Gt) (Ek fun i j=> .bl (decide (j<i))):=EM fun _ _ _ _ _ _ _ q=>gt_int q
theorem BG:iE X (compareOp .GtE) (Ek fun i j=> .bl (decide (j<=i))):=EM fun _ _ _ _ _ _ _ q=>ge_int q
theorem z9:iE X (compareOp .Lt) (fun x y H Q=> ∃i j,x= .str i/\y= .str j/\Q (.bl (decide (i.cps.toList<j.cps.toList))) H):=by
 intro pins s σ H x y v u Q I rx ry h
 obtain ⟨i,j,rfl,rfl,q⟩:=h
 obtain ⟨t,rfl⟩:=rx
 obtain ⟨t',rfl⟩:=ry
 exact lt_str (bB I q rfl)
theorem z_:iE X (compareOp .In) (fun x y H Q=> ∃i j,x= .str i/\y= .str j/\Q (.bl (!(Builtin.Str.occurrences j i 0 j.length 1).isEmpty)) H):=by
 intro pins s σ H x y v u Q I rx ry h
 obtain ⟨i,j,rfl,rfl,q⟩:=h
 obtain ⟨t,rfl⟩:=rx
 obtain ⟨t',rfl⟩:=ry
 exact in_str (bB I q rfl)
theorem aU (b:Expr) {op:CmpOp} (h:op≠ .In:=by decide) (h2:op≠ .NotIn:=by decide):behindInMarks op b=false:=by
 have e1:(op==CmpOp.In)=false:=by cases op<;>first | rfl | exact absurd rfl h
 have e2:(op==CmpOp.NotIn)=false:=by cases op<;>first | rfl | exact absurd rfl h2
 cases b<;>simp[behindInMarks,e1,e2]
theorem jk {op:CmpOp} {r:R2} (ho:iE X (compareOp op) r) (ha:PE X a ta) (hb:PE X b tb) (hm:behindInMarks op b=false):PE X (.Compare a [op] [b] pos) (OL r ta tb):=by
 intro pins s σ H Q I h
 exact wpAny_Compare1 (Ia ha hb I h fun v u s2 x y H2 I2 rx ry q=>ho pins s2 σ H2 x y v u Q I2 rx ry q) hm
def MD (t:TE):TT:=fun σ H Q=>t σ H fun x H'=> ∃k,x= .bl k/\Q k H'
theorem aL {op:CmpOp} {r:R2} (ho:iE X (compareOp op) r) (ha:PE X a ta) (hb:PE X b tb) (hm:behindInMarks op b=false):PT X (.Compare a [op] [b] pos) (MD (OL r ta tb)):=by
 intro pins s σ H Q I h
 refine wpAny_isTrue_Compare1 (b8 (ha pins s σ H _ I h) fun v s1 ⟨x,H1,I1,r1,q1⟩=>b8 (hb pins s1 σ H1 _ I1 q1) fun u s2 ⟨y,H2,I2,r2,q2⟩=>
  b8 (ho pins s2 σ H2 x y v u _ I2 r1 r2 q2) fun c s3 ⟨z,H3,I3,r3,k,e,q3⟩=>?_) hm
 subst e
 cases r3
 exact wpAny_truthy_bool ⟨H3,I3,q3⟩
def Qr (K:PySem.W.Frag) (x:V) (H:Hp) (k:Bool):Prop:=
 match x with
 | .fB=>k=false
 | .bl b=>k=b
 | .int i=>k=(i != 0)
 | .str y=>y.length<=sizeLine/\k=((y.length:Int) != 0)
 | .yB y=>y.size<=sizeLine/\k=((y.size:Int) != 0)
 | .ref p=>(∃xs,bC K H p xs/\k=!xs.isEmpty)\/(∃xs,cS K H p xs/\k=!xs.isEmpty)\/ ∃aP,H p=some (.dK aP)/\k=!aP.isEmpty
 | _=>False
theorem wQ {κ:Type} {aP:List (κ×V)} {vs:List (κ×Value)} (r:KV aP vs):(!vs.isEmpty)=!aP.isEmpty:=by
 cases r<;>rfl
theorem og {xs:List V} {aJ:List Value} (r:Vals xs aJ):(!aJ.toArray.isEmpty)=!xs.isEmpty:=by
 cases r<;>simp
theorem eG:(sizeLine:Nat)<2 ^ 63:=by rw[sizeLine_eq];decide
theorem Ib:Qo X (fun x H Q=> ∃k,Qr X.K x H k/\Q k H):=by
 intro pins s σ H x v Q I rx h
 obtain ⟨k,e,q⟩:=h
 have hl:=eG
 have hs:sizeLine=16777216:=sizeLine_eq
 cases x with
 | fB=>
  cases rx
  have e':k=false:=e
  subst e'
  exact truthy_none ⟨H,I,q⟩
 | bl b=>
  cases rx
  have e':k=b:=e
  subst e'
  exact wpAny_truthy_bool ⟨H,I,q⟩
 | int i=>
  obtain ⟨t,rfl⟩:=rx
  have e':k=(i != 0):=e
  subst e'
  exact PySem.P.truthy_int ⟨H,I,q⟩
 | str y=>
  obtain ⟨t,rfl⟩:=rx
  obtain ⟨hy,e'⟩:y.length<=sizeLine/\k=((y.length:Int) != 0):=e
  subst e'
  exact PySem.P.truthy_str (by omega) ⟨H,I.tok _,q⟩
 | yB y=>
  obtain ⟨t,rfl⟩:=rx
  obtain ⟨hy,e'⟩:y.size<=sizeLine/\k=((y.size:Int) != 0):=e
  subst e'
  exact PySem.W.truthy_bytes (by omega) ⟨H,I.tok _,q⟩
 | ref p=>
  cases rx
  have e':(∃xs,bC X.K H p xs/\k=!xs.isEmpty)\/(∃xs,cS X.K H p xs/\k=!xs.isEmpty)\/ ∃aP,H p=some (.dK aP)/\k=!aP.isEmpty:=e
  rcases e' with ⟨xs,hx,e'⟩ | ⟨xs,hx,e'⟩ | ⟨aP,hx,e'⟩
  ·subst e'
   obtain ⟨aJ,r,pl,hz⟩:=I.list hx
   have hlen:=r.length
   exact wpAny_truthy_list pl.isList (by simp only[WM];omega) ⟨H,I.tok _,by rw[og r];exact q⟩
  ·subst e'
   obtain ⟨aJ,r,pl,hz⟩:=I.tuple hx
   have hlen:=r.length
   exact truthy_tuple pl (by simp only[WM];omega) ⟨H,I.tok _,by rw[og r];exact q⟩
  ·subst e'
   obtain ⟨hz,hS,vs,r,m⟩:aP.length<=sizeLine/\(p==sysModules)=false/\ ∃vs,KV aP vs/\s.heap.DictOf (cA X.prog X.w) p vs:=I.bX p _ hx
   have hlen:aP.length=vs.length:=Paired.length r
   exact wpAny_truthy_dict hS m (by omega) ⟨H,I.tok _,by rw[wQ r];exact q⟩
 | _=>exact (show False from e).elim
theorem wR:iE X (binaryOp .Add) (fun x y H Q=> ∃i j,x= .str i/\y= .str j/\i.length+j.length<=sizeLine/\Q (.str (i++j)) H):=by
 intro pins s σ H x y v u Q I rx ry h
 obtain ⟨i,j,rfl,rfl,hz,q⟩:=h
 obtain ⟨t,rfl⟩:=rx
 obtain ⟨t',rfl⟩:=ry
 exact add_str (fun t' tk=>⟨.str (i++j),H,I.tok _,⟨_,rfl⟩,q⟩) hz
theorem vals1 {x:V} {us:List Value} (r:Vals [x] us): ∃u,us=[u]/\RelV x u:=by
 cases r with
 | cons r1 r2=>cases r2;exact ⟨_,rfl,r1⟩
theorem vals2 {x y:V} {us:List Value} (r:Vals [x,y] us): ∃u w',us=[u,w']/\RelV x u/\RelV y w':=by
 cases r with
 | cons r1 r2=>
  cases r2 with
  | cons r3 r4=>cases r4;exact ⟨_,_,rfl,r1,r3⟩
theorem Aa (hc:X.calm=true):dN X (.builtin "max") (fun xs H Q=> ∃i j,xs=[.int i, .int j]/\Q (.int (if j>i then j else i)) H):=by
 intro pins s σ H xs us Q I r h
 obtain ⟨i,j,rfl,q⟩:=h
 obtain ⟨u,w',rfl,⟨t,rfl⟩,⟨t',rfl⟩⟩:=vals2 r
 refine max_two_ints (I.ok.hd hc) fun h' tk k=>⟨_,H,I.kept k,?_,q⟩
 by_cases hj:j>i
 ·rw[if_pos hj,if_pos hj];exact ⟨_,rfl⟩
 ·rw[if_neg hj,if_neg hj];exact ⟨_,rfl⟩
theorem qE (hc:X.calm=true):dN X (.builtin "min") (fun xs H Q=> ∃i j,xs=[.int i, .int j]/\Q (.int (if j<i then j else i)) H):=by
 intro pins s σ H xs us Q I r h
 obtain ⟨i,j,rfl,q⟩:=h
 obtain ⟨u,w',rfl,⟨t,rfl⟩,⟨t',rfl⟩⟩:=vals2 r
 refine min_two_ints (I.ok.hd hc) fun h' tk k=>⟨_,H,I.kept k,?_,q⟩
 by_cases hj:j<i
 ·rw[if_pos hj,if_pos hj];exact ⟨_,rfl⟩
 ·rw[if_neg hj,if_neg hj];exact ⟨_,rfl⟩
theorem Ab:dN X (.type "int") (fun xs H Q=>(∃i,xs=[.int i]/\Q (.int i) H)\/ ∃k,xs=[.bl k]/\Q (.int (if k then 1 else 0)) H):=by
 intro pins s σ H xs us Q I r h
 rcases h with ⟨i,rfl,q⟩ | ⟨k,rfl,q⟩
 ·obtain ⟨u,rfl,t,rfl⟩:=vals1 r
  exact call_int_int ⟨.int i,H,I,⟨_,rfl⟩,q⟩
 ·obtain ⟨u,rfl,r1⟩:=vals1 r
  cases r1
  exact call_int_bool ⟨.int (if k then 1 else 0),H,I.tok _,⟨_,rfl⟩,q⟩
theorem sd:dN X (.type "str") (fun xs H Q=> ∃i,xs=[.int i]/\i.natAbs.log2<1920/\Q (.str (toString i)) H):=by
 intro pins s σ H xs us Q I r h
 obtain ⟨i,rfl,hz,q⟩:=h
 obtain ⟨u,rfl,t,rfl⟩:=vals1 r
 exact PySem.P.str_of_int hz ⟨.str _,H,I.tok _,⟨_,rfl⟩,q⟩
end
structure Ac (h:Heap) (x dx C:Addr) (mA:Str->Option Value):Prop where
 obj:h.get? x=some (PySem.W.instObj C dx)
 ns:h.Ns1 dx mA
 ne:dx≠x
theorem Ad {h:Heap} {dx:Addr} {mA:Str->Option Value} (n:h.Ns1 dx mA): ∃od,h.get? dx=some od/\ ∀name,PySem.W.lookIn name od=some (mA name):=by
 obtain ⟨o,es,ep,ho,hd,hk,_,hm⟩:=n
 refine ⟨o,ho,fun name=>?_⟩
 have e:=hm name
 unfold nsFind findBy at e
 rw[<-Array.find?_toList]at e
 unfold PySem.W.lookIn
 rw[hd]
 dsimp only
 split
 ·rename_i y q
  rw[q]at e
  exact congrArg some e
 ·rename_i q
  rw[q]at e
  have a:es.toList.any (·.refKey)=false:=by
   rw[Qad]
   intro y hy
   obtain ⟨z,t,Qs⟩:=hk y (Array.mem_toList_iff.mp hy)
   simp[DictEntry.refKey,Qs]
  have a': ¬es.toList.any (·.refKey)=true:=by rw[a];exact Xv
  rw[if_neg a']
  exact congrArg some e
theorem Ac.look {h:Heap} {x dx C:Addr} {mA:Str->Option Value} (I:Ac h x dx C mA): ∃od,PySem.W.InstAt h x (PySem.W.instObj C dx) C (some od)/\ ∀name,PySem.W.lookIn name od=some (mA name):=
 let ⟨od,ho,hl⟩:=Ad I.ns
 ⟨od,⟨I.obj,rfl,rfl,ho⟩,hl⟩
section
variable {prog:Program} {w:World} {A:Around} {E:Value->Shared->Prop} {s:Shared} {K:PySem.W.Frag} {x dx C f:Addr} {mA:Str->Option Value} {name:Str} {v:Value}
theorem get_map {expr:Bool} {Q:Value->Shared->Prop} (X:K.In s.heap) (I:Ac s.heap x dx C mA) (hg:PySem.W.plainGet K C name=true) (hh:PySem.W.hasDictIn K C=true)
  (ha:PySem.W.findIn K (.ref C) name=some none) (hv:mA name=some v) (ON:PySem.W.handedIn v=true) (h:Q v { s with toks:=s.toks+1 }):
  wpAny (model prog w) A (getAttr (.ref x) name expr) Q E s:=by
 obtain ⟨od,J,hl⟩:=I.look
 exact PySem.W.get_value X J (PySem.W.plainGet_of hg).1 (PySem.W.findObj_own hh ha rfl (by rw[hl,hv])) ON h
theorem EO {ns:List Str} {Q:Unit->Shared->Prop} (X:K.In s.heap) (I:Ac s.heap x dx C mA)
  (hs:PySem.W.findIn K (.ref C) "__setattr__"=some (some (.builtin "object.__setattr__"))) (hp:PySem.W.plainOver K C=true) (ht:PySem.W.takerIn K C name=some none) (hh:PySem.W.hasDictIn K C=true)
  (hw:PySem.Within mA ns) (hsz:ns.length<=sizeLine)
  (h: ∀h',Ac h' x dx C (fun y=>if y=name then some v else mA y)->Heap.SameBut dx s.heap h'->Q () { s with heap:=h',toks:=s.toks+2 }):
  wpAny (model prog w) A (setAttr (.ref x) name v) Q E s:=by
 obtain ⟨od,J,hl⟩:=I.look
 refine PySem.W.set_plain X J hs (PySem.W.osa_open (s:={ s with toks:=s.toks+1 }) (r:=none) X J hp ht fun b=>?_)
 obtain ⟨cd,hc,P7⟩:=PySem.W.any_some hh
 have hx:s.heap.get? x=some ⟨.ref C,some dx, .plain, #[]⟩:=I.obj
 refine wpAny_bind (wpAny_pure (wpAny_bind (wpAny_bind (wpAny_loadPart hx (wpAny_bind (PySem.W.Looks.here (s:={ s with toks:=s.toks+1 }) (PySem.W.looks_clsIn X hc) ?_))))))
 rw[P7]
 refine wpAny_pure (a:=some dx) (wpAny_bind (wpAny_pure (wpAny_bind ?_)))
 refine wpAny_nsSet1 (s:={ s with toks:=s.toks+1 }) I.ns fun h' uR HX=>?_
 obtain ⟨oD,WH,WI,Ut,Uu,Uv⟩:=uR.count (PySem.Within.cons name v hw)
 refine wpAny_bind (wpAny_lookBehind Ut (by rw[Uu];exact pastItsLine_dict (XM Uv (by rw[XR];omega))) ?_)
 exact wpAny_pure (h _ ⟨(HX.2 _ (Ne.symm I.ne)).trans I.obj,uR,I.ne⟩ HX)
theorem BH {R:Result->Shared->Prop} {vs:List Value} {kw:List (Str×Value)} (X:K.In s.heap) (hm:PySem.W.makesIn K C=true)
  (hi:PySem.W.findIn K (.ref C) "__init__"=some (some (.ref f))) (hf:PySem.W.typeIn K (.ref f)=some (.type "function"))
  (h:codeAny (model prog w) (A.under (.builtin "type.__call__" ⟨.ref C::vs,kw⟩)) (.call (.ref f) ⟨.ref (s.heap.objs.size+1)::vs,kw⟩) (PySem.W.InitBack (s.heap.objs.size+1) R)
   { s with heap:=(s.heap.push PySem.W.emptyDict).push (PySem.W.instObj C s.heap.objs.size) }):
  codeAny (model prog w) A (.call (.ref C) ⟨vs,kw⟩) R s:=by
 obtain ⟨hh,g,d,t,os⟩:=s
 exact PySem.W.make_core (PySem.W.makes_of X hm) (PySem.W.looks_findIn X hi) (fun self=>PySem.W.bind_fn X self hf) (.inl rfl) h
end
noncomputable def dP (f:Str) (v:V):List (Str×V)->List (Str×V)
 | []=>[(f,v)]
 |(g,x)::r=>if g=f then (g,v)::r else (g,x)::dP f v r
theorem aK (f g:Str) (v:V): ∀fs:List (Str×V),(dP f v fs).lookup g=if g=f then some v else fs.lookup g
 | []=>by
  show List.lookup g [(f,v)]=_
  by_cases h:g=f
  ·have hb:(g==f)=true:=beq_iff_eq.mpr h
   simp only[List.lookup,hb,if_pos h]
  ·have hb:(g==f)=false:=beq_eq_false_iff_ne.mpr h
   simp only[List.lookup,hb,if_neg h]
 |(k,x)::r=>by
  have ih:=aK f g v r
  rw[show dP f v ((k,x)::r)=(if k=f then (k,v)::r else (k,x)::dP f v r) from rfl]
  by_cases hk:k=f
  ·rw[if_pos hk]
   by_cases h:g=k
   ·have hb:(g==k)=true:=beq_iff_eq.mpr h
    simp only[List.lookup,hb,if_pos (h.trans hk)]
   ·have hb:(g==k)=false:=beq_eq_false_iff_ne.mpr h
    simp only[List.lookup,hb,if_neg (fun e:g=f=>h (e.trans hk.symm))]
  ·rw[if_neg hk]
   by_cases h:g=k
   ·have hb:(g==k)=true:=beq_iff_eq.mpr h
    simp only[List.lookup,hb,if_neg (fun e:g=f=>hk (h.symm.trans e))]
   ·have hb:(g==k)=false:=beq_eq_false_iff_ne.mpr h
    simp only[List.lookup,hb]
    exact ih
theorem lO (f:Str) (v:V): ∀fs:List (Str×V),f∈(dP f v fs).map (·.1)/\ ∀g,g∈fs.map (·.1)->g∈(dP f v fs).map (·.1)
 | []=>⟨by simp[dP],fun g h=>by simp at h⟩
 |(k,x)::r=>by
  obtain ⟨i1,i2⟩:=lO f v r
  rw[show dP f v ((k,x)::r)=(if k=f then (k,v)::r else (k,x)::dP f v r) from rfl]
  by_cases hk:k=f
  ·rw[if_pos hk]
   subst hk
   exact ⟨by simp,fun g h=>by simpa using h⟩
  ·rw[if_neg hk]
   refine ⟨?_,fun g h=>?_⟩
   ·rw[Xw]
    exact WN _ i1
   ·rw[Xw]at h ⊢
    rcases UE.mp h with e | e
    ·exact UE.mpr (.inl e)
    ·exact WN _ (i2 g e)
theorem mP (f:Str) (v:V): ∀fs:List (Str×V),(dP f v fs).length<=fs.length+1
 | []=>by simp[dP]
 |(k,x)::r=>by
  have ih:=mP f v r
  rw[show dP f v ((k,x)::r)=(if k=f then (k,v)::r else (k,x)::dP f v r) from rfl]
  by_cases hk:k=f
  ·rw[if_pos hk,XR,XR];omega
  ·rw[if_neg hk,XR,XR];omega
theorem lN.some_of {v:V} {o:Option Value} (r:lN (some v) o): ∃u,o=some u/\RelV v u:=by
 cases o with
 | none=>exact (show False from r).elim
 | some u=>exact ⟨u,rfl,r⟩
theorem Ae {v:V} {u:Value} (r:RelV v u):PySem.W.handedIn u=true:=by
 cases v with
 | fB=>cases (show u=Value.none from r);rfl
 | bl b=>cases (show u=Value.bool b from r);rfl
 | int i=>obtain ⟨t,e⟩:=(show ∃t,u=Value.int i t from r);cases e;rfl
 | str x=>obtain ⟨t,e⟩:=(show ∃t,u=Value.str x t from r);cases e;rfl
 | yB b=>obtain ⟨t,e⟩:=(show ∃t,u=Value.bytes b t from r);cases e;rfl
 | OE b=>obtain ⟨t,e⟩:=(show ∃t,u=Value.float b t from r);cases e;rfl
 | ref a=>cases (show u=Value.ref a from r);rfl
 | ty n=>cases (show u=Value.type n from r);rfl
section
variable {P:Program} {w:World} {H H':Hp} {h h':Heap} {a C dx:Addr} {fs Uj:List (Str×V)}
theorem yL (bX:jU P w H h) (e:H a=some (.ins C dx fs)): ∃mA,Ac h a dx C mA/\(∀f,lN (fs.lookup f) (mA f))/\PySem.Within mA (fs.map (·.1))/\fs.length<=1000/\H dx=some (.own a):=by
 obtain ⟨d,z,ne,ob,mA,n,r,q⟩:=(show cR P w H h a (.ins C dx fs) from bX a _ e)
 exact ⟨mA,⟨ob,n,ne⟩,r,q,z,d⟩
end
structure G4 (K:PySem.W.Frag) (C:Addr):Prop where
 pg:PySem.W.plainGet K C Str.empty=true
 hd:PySem.W.hasDictIn K C=true
 po:PySem.W.plainOver K C=true
 sa:PySem.W.findIn K (.ref C) "__setattr__"=some (some (.builtin "object.__setattr__"))
theorem G4.get {K:PySem.W.Frag} {C:Addr} (c:G4 K C) (f:Str):PySem.W.plainGet K C f=true:=c.pg
def dQ (K:PySem.W.Frag) (C:Addr) (f:Str):Prop:=PySem.W.findIn K (.ref C) f=some none
theorem dQ.ME {K:PySem.W.Frag} {C:Addr} {f:Str} (n:dQ K C f):PySem.W.takerIn K C f=some none:=by
 unfold PySem.W.takerIn
 rw[show PySem.W.findIn K (.ref C) f=some none from n]
 rfl
section
variable {X:Cx} {pins:List (Addr×Obj)} {σ:St} {H:Hp} {s:Shared} {a C dx:Addr} {fs:List (Str×V)} {f:Str} {v:V} {A:Around} {E:Value->Shared->Prop}
theorem wU {b:Bool} {Q:Value->Shared->Prop} (I:Inv X pins σ H s) (e:H a=some (.ins C dx fs)) (c:G4 X.K C) (n:dQ X.K C f) (l:fs.lookup f=some v)
  (h: ∀u s',Inv X pins σ H s'->RelV v u->Q u s'):wpAny (model X.prog X.w) A (getAttr (.ref a) f b) Q E s:=by
 obtain ⟨mA,O,r,_,_,_⟩:=yL I.bX e
 obtain ⟨u,hu,ru⟩:=lN.some_of (v:=v) (o:=mA f) (by rw[<-l];exact r f)
 exact get_map I.z5 O (c.get f) c.hd n hu (Ae ru) (h u _ (I.tok _) ru)
theorem wV {y:V} {u:Value} {Q:Unit->Shared->Prop} (I:Inv X pins σ H s) (e:H a=some (.ins C dx fs)) (c:G4 X.K C) (n:dQ X.K C f) (hl:fs.length<1000) (ry:RelV y u)
  (h: ∀s',Inv X pins σ (upd H a (.ins C dx (dP f y fs))) s'->Q () s'):wpAny (model X.prog X.w) A (setAttr (.ref a) f u) Q E s:=by
 obtain ⟨mA,O,r,wi,_,ho⟩:=yL I.bX e
 have hz:(fs.map (·.1)).length<=sizeLine:=by rw[Kw,sizeLine_eq];omega
 refine EO I.z5 O c.sa c.po n.ME c.hd wi hz fun h' O' sb=>h _ ?_
 have hd: ∃o,h'.get? dx=some o:=let ⟨o,_,_,e',_⟩:=O'.ns;⟨o,e'⟩
 refine I.write (x:=a) (e:=dx) (by rw[e];exact True.intro) (.inr ho) (fun b q hb z=>(sb.2 b hb).trans z) hd ?_
 refine ⟨by rw[au O.ne];exact ho,?_,O.ne,O'.obj,_,O'.ns,fun g=>?_,fun g hg=>?_⟩
 ·have:=mP f y fs;omega
 ·show lN ((dP f y fs).lookup g) (if g=f then some u else mA g)
  rw[aK]
  by_cases q:g=f
  ·rw[if_pos q,if_pos q];exact ry
  ·rw[if_neg q,if_neg q];exact r g
 ·by_cases q:g=f
  ·rw[q];exact (lO f y fs).1
  ·refine (lO f y fs).2 g (wi g fun z=>hg ?_)
   show (if g=f then some u else mA g)=none
   rw[if_neg q];exact z
theorem Inv.made (I:Inv X pins σ H s):Inv X pins σ (upd (upd H s.heap.objs.size (.own (s.heap.objs.size+1))) (s.heap.objs.size+1) (.ins C s.heap.objs.size []))
  { s with heap:=(s.heap.push PySem.W.emptyDict).push (PySem.W.instObj C s.heap.objs.size) }:=by
 have e1:(s.heap.push PySem.W.emptyDict).get? s.heap.objs.size=some PySem.W.emptyDict:=Xq s.heap rfl
 have e2:((s.heap.push PySem.W.emptyDict).push (PySem.W.instObj C s.heap.objs.size)).get? (s.heap.objs.size+1)=some (PySem.W.instObj C s.heap.objs.size):=by
  have:=Xq (s.heap.push PySem.W.emptyDict) (o:=PySem.W.instObj C s.heap.objs.size) rfl
  rwa [Ze]at this
 have e3:(s.heap.push PySem.W.emptyDict).Ns s.heap.objs.size (fun _=>none):=⟨PySem.W.emptyDict, #[],_,e1,rfl,(fun e he=>absurd he (by simp)),fun _=>rfl⟩
 have I1:=I.laid (a:=s.heap.objs.size) (o:= .own (s.heap.objs.size+1)) (h':=s.heap.push PySem.W.emptyDict) (t':=s.toks) (fun b u q=>Sy _ q) (OS _) ⟨_,e1⟩
 refine I1.laid (a:=s.heap.objs.size+1) (o:= .ins C s.heap.objs.size []) (t':=s.toks) (fun b u q=>Sy _ q) (Nat.le_of_eq (Ze _ _)) ?_
 have ne:s.heap.objs.size≠s.heap.objs.size+1:=Xy (Yz _)
 refine ⟨by rw[au ne,ah],WO _,ne,e2,fun _=>none,(Heap.Ns1.of_empty e3).at fun o q=>Sy _ q,fun _=>True.intro,fun y hy=>absurd rfl hy⟩
theorem ER {prog:Program} {w:World} {env:Env} {e:Expr} {f:Str} {pos:Pos} {s:Shared} {Q:Value->Shared->Prop} (hb:attributeBase e f env (eval e env)=eval e env)
  (h:wpAny (model prog w) A (eval e env) (fun o s₁=>wpAny (model prog w) A (getAttr o f true) Q E s₁) E s):wpAny (model prog w) A (eval (.Attribute e f pos) env) Q E s:=
 Attribute_any_ h (by rw[arm_eval_Attribute,hb])
end
def MF (K:PySem.W.Frag) (ta:TE) (f:Str):TE:=fun σ H Q=>ta σ H fun x H1=> ∃a C dx fs v,x= .ref a/\H1 a=some (.ins C dx fs)/\G4 K C/\dQ K C f/\fs.lookup f=some v/\Q v H1
def Qt (K:PySem.W.Frag) (ta tv:TE) (f:Str):TS:=fun D σ H=>tv σ H fun y H1=>ta σ H1 fun x H2=> ∃a C dx fs,x= .ref a/\H2 a=some (.ins C dx fs)/\G4 K C/\dQ K C f/\fs.length<1000/\
 D.nx σ (upd H2 a (.ins C dx (dP f y fs)))
section
variable {X:Cx} {o e value:Expr} {f:Str} {pos pos' MG:Pos} {ta tv:TE}
theorem Ic (he:PE X e ta) (hb:attributeBase e f X.env (eval e X.env)=eval e X.env):PE X (.Attribute e f pos) (MF X.K ta f):=by
 intro pins s σ H Q I h
 refine ER hb (b8 (he pins s σ H _ I h) fun u s1 ⟨x,H1,I1,rx,a,C,dx,fs,v,ex,ea,c,n,l,q⟩=>?_)
 subst ex
 obtain rfl:u=Value.ref a:=rx
 exact wU I1 ea c n l fun u' s2 I2 ru=>⟨v,H1,I2,ru,q⟩
theorem iK (ha:PE X o ta) (hv:PE X value tv) (hs:swapsWith value (some (.Attribute o f pos')) pos.line X.env=pure false):PS X (.Assign [.Attribute o f pos'] value pos) (Qt X.K ta tv f):=by
 intro pins s σ H D I h
 refine plainObj_wpAny_Assign_Attribute (b8 (hv pins s σ H _ I h) fun u s1 ⟨y,H1,I1,ry,q⟩=>b8 (ha pins s1 σ H1 _ I1 q) fun ov s2 ⟨x,H2,I2,rx,a,C,dx,fs,ex,ea,c,n,l,q2⟩=>?_) hs
 subst ex
 obtain rfl:ov=Value.ref a:=rx
 exact wV I2 ea c n l ry fun s3 I3=>⟨σ,_,I3,q2⟩
end
section
variable {X:Cx} {pins:List (Addr×Obj)} {σ:St} {H:Hp} {s:Shared} {A:Around} {E:Value->Shared->Prop} {Q:Value->Shared->Prop} {c:Value} {b:Bool}
end
structure eI (k:Nat) (A:Around):Prop where
 hd:A.handled=none
 dp:A.depth+3*k+5<recursionLimit
 un:A.units+16*k+200<cLine
 gd:A.guards=some []
theorem eI.mono {j k:Nat} {A:Around} (r:eI k A) (h:j<=k):eI j A:=⟨r.hd,by have:=r.dp;omega,by have:=r.un;omega,r.gd⟩
theorem eI.deeper {k:Nat} {A:Around} (r:eI (k+1) A) (env:Env):eI k (A.deeper env):=
 ⟨r.hd,by have:=r.dp;show A.depth+1+3*k+5<_;omega,by have:=r.un;show A.units+3+16*k+200<_;omega,r.gd⟩
theorem wW {A:Around} {C:Addr} {us:List Value} {kw:List (Str×Value)}:(A.under (.builtin "type.__call__" ⟨.ref C::us,kw⟩)).depth=A.depth+1:=by
 first | rfl | simp[Around.under,Code.weight,Code.isCreation,Code.isGuard,Code.isCaller,Code.frames,Code.isFrame,guardIds]
theorem wX {A:Around} {C:Addr} {us:List Value} {kw:List (Str×Value)}:(A.under (.builtin "type.__call__" ⟨.ref C::us,kw⟩)).units=A.units+1:=by
 first | rfl | simp[Around.under,Code.cUnits,Code.frames,Code.isFrame]
theorem eI.make {k:Nat} {A:Around} (r:eI (k+1) A) (C:Addr) (us:List Value) (kw:List (Str×Value)):eI k (A.under (.builtin "type.__call__" ⟨.ref C::us,kw⟩)):=
 ⟨r.hd,by have:=r.dp;rw[wW];omega,by have:=r.un;rw[wX];omega,by first | exact r.gd | (simpa [Around.under,Code.guards,Code.isGuard,pushGuards,guardIds]using r.gd)⟩
theorem eI.depth {k:Nat} {A:Around} (r:eI k A):A.depth<recursionLimit:=by have:=r.dp;omega
theorem eI.units {k:Nat} {A:Around} (r:eI k A):A.units+64<cLine:=by have:=r.un;omega
def Qu:TA:=fun _ H Q=>Q [] H
def MH (ta:TE) (tr:TA):TA:=fun σ H Q=>ta σ H fun x H1=>tr σ H1 fun xs H2=>Q (x::xs) H2
section
variable {X:Cx} {e:Expr} {es:List Expr} {te:TE} {t:TA} {pos:Pos}
theorem ae:PA X [] Qu:=fun _ _ _ _ H Q I h=>Calls.spliced_nil ⟨[],H,I, .nil,h⟩
theorem aa (ha:PE X e te) (hr:PA X es t) (hs:starEach (e::es) X.env=(false,eval e X.env)::starEach es X.env:=by rfl):PA X (e::es) (MH te t):=by
 intro pos pins s σ H Q I h
 rw[hs]
 show wpAny _ _ (spliced ((false,eval e X.env)::backTo pos (starEach es X.env))) _ _ s
 refine Calls.spliced_cons (b8 (ha pins s σ H _ I h) fun u s1 ⟨x,H1,I1,r1,q1⟩=>?_)
 exact b8 (hr pos pins s1 σ H1 _ I1 q1) fun us s2 ⟨xs,H2,I2,r2,q2⟩=>⟨x::xs,H2,I2, .cons r1 r2,q2⟩
def Qv (t:TA):TE:=fun σ H Q=>t σ H fun xs H1=>xs.length<=sizeLine/\ ∀p,H1 p=none->Q (.ref p) (upd H1 p (.tup xs))
def Qw (t:TA):TE:=fun σ H Q=>t σ H fun xs H1=>xs.length<=sizeLine/\ ∀p,H1 p=none->Q (.ref p) (upd H1 p (.lst xs))
theorem cB {x1} (h:PA X es t):PE X (.Tuple es x1 pos) (Qv t):=by
 intro pins s σ H Q I hq
 refine wpAny_Tuple_spliced (b8 (h pos pins s σ H _ I hq) fun us s1 ⟨xs,H1,I1,r,z,q⟩=>⟨by rw[<-r.length];exact z,?_⟩)
 have hf:H1 s1.heap.objs.size=none:=I1.bX.fresh (OS _)
 refine ⟨.ref s1.heap.objs.size,upd H1 s1.heap.objs.size (.tup xs),I1.laid (t':=s1.toks) (fun b u e=>Sy _ e) (OS _) ?_,rfl,q _ hf⟩
 exact ⟨z,us,r,⟨_,Xq _ rfl,rfl,_,rfl⟩⟩
theorem cT (h:PA X es t):PE X (.List es pos) (Qw t):=by
 intro pins s σ H Q I hq
 refine wpAny_List_spliced (b8 (h pos pins s σ H _ I hq) fun us s1 ⟨xs,H1,I1,r,z,q⟩=>⟨by rw[<-r.length];exact z,?_⟩)
 have hf:H1 s1.heap.objs.size=none:=I1.bX.fresh (OS _)
 refine ⟨.ref s1.heap.objs.size,upd H1 s1.heap.objs.size (.lst xs),I1.laid (t':=s1.toks) (fun b u e=>Sy _ e) (OS _) ?_,rfl,q _ hf⟩
 exact ⟨z,us,0,r,Xq _ rfl⟩
end
abbrev Sp:=List V->Hp->VK->XK->Prop
abbrev Af:=List Env->Hp->Shared->XK->Value->Shared->Prop
structure wY (P:Program) (w:World) (K:PySem.W.Frag) (mg:Str->Option Value) (base:Heap) (A:Around) (outer:List Env) (s:Shared) (H:Hp):Prop where
 frames:A.frames=some outer
 mod:Mod K mg base
 bs: ∀b o,base.get? b=some o->s.heap.get? b=some o/\H b=none
 EG:base.objs.size<=s.heap.objs.size
 mZ:s.heap.FunFrames base outer
 HJ: ∀b∈yC outer,H b=none
 bX:jU P w H s.heap
 bare:AllBare s.gens
def CE (outer:List Env) (P:Program) (w:World) (H:Hp) (s:Shared) (Q:VK) (u:Value) (s':Shared):Prop:=
 ∃v H',s'.os=s.os/\AllBare s'.gens/\Un (yC outer) [] H H' s.heap s'.heap/\jU P w H' s'.heap/\RelV v u/\Q v H'
def CR (CX:Af) (outer:List Env) (P:Program) (w:World) (H:Hp) (s:Shared) (Q:VK) (E:XK) (r:Result) (s':Shared):Prop:=
 match r with
 | .ok (.ret u)=>CE outer P w H s Q u s'
 | .ok _=>False
 | .error e=>CX outer H s E e s'
structure bI (P:Program) (w:World) (K:PySem.W.Frag) (mg:Str->Option Value) (base:Heap) (CX:Af) (k:Nat) (f:Addr) (fd:FuncData) (ps:List Str) (sp:Sp):Prop where
 len: ∀vs H Q E,sp vs H Q E->vs.length=ps.length
 run: ∀(A:Around) (outer:List Env) (s:Shared) (H:Hp) (args:Args) (us:List Value) (vs:List V) (Q:VK) (E:XK),eI k A->wY P w K mg base A outer s H->BindsTo s fd args (ps.zip us)->Vals vs us->sp vs H Q E->
  codeAny (model P w) A (.call (.ref f) args) (CR CX outer P w H s Q E) s
theorem wY.make {P:Program} {w:World} {K:PySem.W.Frag} {mg:Str->Option Value} {base:Heap} {A:Around} {outer:List Env} {s:Shared} {H:Hp} (e:wY P w K mg base A outer s H) (C:Addr) (us:List Value) (kw:List (Str×Value)):
  wY P w K mg base (A.under (.builtin "type.__call__" ⟨.ref C::us,kw⟩)) outer s H:=⟨by first | exact e.frames | (simpa [Around.under,Code.envs,Code.isFrame,pushEnvs]using e.frames),e.mod,e.bs,e.EG,e.mZ,e.HJ,e.bX,e.bare⟩
section
variable {X:Cx} {pins:List (Addr×Obj)} {σ:St} {H:Hp} {s s':Shared}
theorem Inv.MI (I:Inv X pins σ H s):wY X.prog X.w X.K X.mg X.base X.A X.stack s H:=
 ⟨I.ok.frames,I.ok.mod,I.bs,XM I.ok.EG I.sz,I.stack,I.yD,I.bX,I.bare⟩
theorem Inv.after {Q:VK} {u:Value} (I:Inv X pins σ H s) (h:CE X.stack X.prog X.w H s Q u s'):EP X pins σ Q u s':=by
 obtain ⟨v,H',os,bare,un,bX,r,q⟩:=h
 obtain ⟨hh,g,d,t,Uw⟩:=s'
 obtain rfl:Uw=s.os:=os
 exact ⟨v,H',I.call (h':=hh) (g':=g) (d':=d) (t':=t) (ch:=[]) un bX bare (fun b z=>absurd z (by simp)),r,q⟩
end
def MJ (sp:Sp) (dvs:List V) (E:XK) (t:TA):TE:=fun σ H Q=>t σ H fun vs H1=>sp (vs++dvs) H1 Q E
def MK (C:Addr) (sp:Sp) (dvs:List V) (E:XK) (t:TA):TE:=fun σ H Q=>t σ H fun vs H1=> ∀x dx,H1 x=none->H1 dx=none->dx≠x->
 sp (.ref x::(vs++dvs)) (upd (upd H1 dx (.own x)) x (.ins C dx [])) (fun v H2=>v= .fB/\Q (.ref x) H2) E
def Binds (K:PySem.W.Frag) (fd:FuncData) (ps:List Str) (ds:List Value):Prop:=
 ∀(s:Shared) (us:List Value),K.In s.heap->(us++ds).length=ps.length->BindsTo s fd ⟨us,[]⟩ (ps.zip (us++ds))
theorem Binds.all {K:PySem.W.Frag} {fd:FuncData} {ps:List Str} (h: ∀us:List Value,us.length=ps.length->bindArgs fd ⟨us,[]⟩=pure (ps.zip us)):Binds K fd ps []:=fun s us _ hl=>by
 rw[XZ]at hl ⊢
 exact .of_eq (h us hl)
def Passes (CX:Af) (X:Cx) (E:XK):Prop:= ∀(pins:List (Addr×Obj)) (σ:St) (H:Hp) (s:Shared) (e:Value) (s':Shared),Inv X pins σ H s->CX X.stack H s E e s'->X.xe e s'
section
variable {X:Cx} {CX:Af} {k:Nat} {f C:Addr} {fd:FuncData} {ps:List Str} {sp:Sp} {dvs:List V} {ds:List Value} {E:XK} {x m:Str} {p pos apos:Pos} {e o:Expr} {es:List Expr} {ta:TE} {t:TA}
theorem wZ {pins:List (Addr×Obj)} {σ:St} {H:Hp} {s:Shared} {Q:VK} {us:List Value} {vs:List V} (F:bI X.prog X.w X.K X.mg X.base CX k f fd ps sp) (hr:eI k X.A) (hb:Binds X.K fd ps ds) (hd:Vals dvs ds) (hx:Passes CX X E)
  (I:Inv X pins σ H s) (r:Vals vs us) (h:sp (vs++dvs) H Q E):wpAny (model X.prog X.w) X.A (call (.ref f) us) (EP X pins σ Q) X.xe s:=by
 have r2:Vals (vs++dvs) (us++ds):=r.append hd
 have hl:(us++ds).length=ps.length:=by rw[<-r2.length];exact F.len _ _ _ _ h
 refine wpAny_call (codeAny_mono (F.run X.A X.stack s H ⟨us,[]⟩ (us++ds) (vs++dvs) Q E hr I.MI (hb s us I.z5 hl) r2 h) fun r s' hq=>?_)
 cases r with
 | error e=>exact hx pins σ H s e s' I hq
 | ok fl=>
  cases fl with
  | ret u=>exact I.after hq
  | next=>exact False.elim hq
  | brk=>exact False.elim hq
  | cont=>exact False.elim hq
theorem ak (F:bI X.prog X.w X.K X.mg X.base CX k f fd ps sp) (hr:eI k X.A) (hg:Gl X x) (hm:X.mg x=some (.ref f)) (hk:PySem.W.keepIn X.K (.ref f)=true) (hb:Binds X.K fd ps ds) (hd:Vals dvs ds) (hx:Passes CX X E)
  (ha:PA X (e::es) t) (Ie:(x==("__debug__":Str))=false:=by decide) (he:starEach (e::es) X.env=(false,eval e X.env)::starEach es X.env:=by rfl) (km:(backTo pos (starEach es X.env)).any (·.1)=false:=by rfl):
  PE X (.Call (.Name x p) (e::es) [] pos) (MJ sp dvs E t):=by
 intro pins s σ H Q I h
 refine wpAny_Call_Name_kw (rZ I hg hm ?_ Ie)
 refine Zn (h₀:=X.base) I.ok.mod.Kr hk (b8 (ha pos pins s σ H _ I h) fun us s1 ⟨vs,H1,I1,r,q⟩=>⟨I1.z5,?_⟩) he km
 exact wZ F hr hb hd hx I1 r q
structure Mk (K:PySem.W.Frag) (C f:Addr):Prop where
 makes:PySem.W.makesIn K C=true
 init:PySem.W.findIn K (.ref C) "__init__"=some (some (.ref f))
 fn:PySem.W.isFn K (.ref f)=true
 kp:PySem.W.keepIn K (.ref C)=true
theorem BI {pins:List (Addr×Obj)} {σ:St} {H:Hp} {s:Shared} {Q:VK} {us:List Value} {vs:List V} (M:Mk X.K C f) (F:bI X.prog X.w X.K X.mg X.base CX k f fd ps sp) (hr:eI (k+1) X.A) (hb:Binds X.K fd ps ds) (hd:Vals dvs ds)
  (hx:Passes CX X E) (I:Inv X pins σ H s) (r:Vals vs us)
  (h: ∀x dx,H x=none->H dx=none->dx≠x->sp (.ref x::(vs++dvs)) (upd (upd H dx (.own x)) x (.ins C dx [])) (fun v H2=>v= .fB/\Q (.ref x) H2) E):
  wpAny (model X.prog X.w) X.A (call (.ref C) us) (EP X pins σ Q) X.xe s:=by
 have hq:=h (s.heap.objs.size+1) s.heap.objs.size (I.bX.fresh (YJ _)) (I.bX.fresh (OS _)) (Xy (Yz _))
 have I2:=Inv.made (C:=C) I
 have r2:Vals (V.ref (s.heap.objs.size+1)::(vs++dvs)) (Value.ref (s.heap.objs.size+1)::(us++ds)):= .cons rfl (r.append hd)
 have hl:(Value.ref (s.heap.objs.size+1)::us++ds).length=ps.length:=by
  have e:=r2.length
  rw[F.len _ _ _ _ hq]at e
  exact e.symm
 refine wpAny_call (BH (f:=f) I.z5 M.makes M.init (beq_iff_eq.mp M.fn) (codeAny_mono (F.run _ X.stack _ _ ⟨Value.ref (s.heap.objs.size+1)::us,[]⟩ (Value.ref (s.heap.objs.size+1)::(us++ds)) _ _ E (hr.make C us [])
  (I2.MI.make C us []) (hb _ (Value.ref (s.heap.objs.size+1)::us) I2.z5 hl) r2 hq) fun r s' ML=>?_))
 cases r with
 | error e=>exact hx pins σ _ _ e s' I2 ML
 | ok fl=>
  cases fl with
  | ret u=>
   obtain ⟨v,H',I3,rv,ev,q3⟩:=I2.after ML
   subst ev
   exact ⟨rv,⟨V.ref (s.heap.objs.size+1),H',I3,rfl,q3⟩⟩
  | next=>exact False.elim ML
  | brk=>exact False.elim ML
  | cont=>exact False.elim ML
theorem nI (M:Mk X.K C f) (F:bI X.prog X.w X.K X.mg X.base CX k f fd ps sp) (hr:eI (k+1) X.A) (hg:Gl X x) (hm:X.mg x=some (.ref C)) (hb:Binds X.K fd ps ds) (hd:Vals dvs ds) (hx:Passes CX X E)
  (ha:PA X (e::es) t) (Ie:(x==("__debug__":Str))=false:=by decide) (he:starEach (e::es) X.env=(false,eval e X.env)::starEach es X.env:=by rfl) (km:(backTo pos (starEach es X.env)).any (·.1)=false:=by rfl):
  PE X (.Call (.Name x p) (e::es) [] pos) (MK C sp dvs E t):=by
 intro pins s σ H Q I h
 refine wpAny_Call_Name_kw (rZ I hg hm ?_ Ie)
 refine Zn (h₀:=X.base) I.ok.mod.Kr M.kp (b8 (ha pos pins s σ H _ I h) fun us s1 ⟨vs,H1,I1,r,q⟩=>⟨I1.z5,?_⟩) he km
 exact BI M F hr hb hd hx I1 r q
end
section
variable {X:Cx} {CX:Af} {k:Nat} {f C:Addr} {fd:FuncData} {ps ks:List Str} {sp:Sp} {E:XK} {x m:Str} {p pos apos Ux:Pos} {e o:Expr} {es:List Expr} {WJ:List Keyword} {te ta:TE} {t tk:TA} {nm:Option Str}
variable {g:List Value->List Value->List Value} {gV:List V->List V->List V}
end
structure aF (N P:List Str) (sc:Scope):Prop where
 kind:sc.kind= .function
 co:sc.isCoroutine=false
 gen:sc.isGenerator=false
 nd:N.Nodup
 pre:N.take P.length=P
 par: ∀x∈P,sc.names.lookup x=some .local\/sc.names.lookup x=some .cell
 Ig: ∀y∈sc.names,y.2≠ .free
theorem qF {kindOf:Str->Option NameKind} {x:Str}: ∀{binds:List (Str×Value)} {m:Str->Option Value},(∀v,(x,v)∉binds)->bindL kindOf binds m x=m x
 | [],_,_=>rfl
 |(n,v)::r,m,h=>by
  unfold bindL
  rw[qF fun w hw=>h w (WN _ hw)]
  split
  ·have:x≠n:=by rintro rfl;exact h v Xp
   simp[this]
  ·rfl
theorem qG {kindOf:Str->Option NameKind} {x:Str}: ∀{binds:List (Str×Value)} {m:Str->Option Value},(∀v,(x,v)∉binds)->bindC kindOf binds m x=m x
 | [],_,_=>rfl
 |(n,v)::r,m,h=>by
  unfold bindC
  rw[qG fun w hw=>h w (WN _ hw)]
  split
  ·rfl
  ·have:x≠n:=by rintro rfl;exact h v Xp
   simp[this]
theorem qH {kindOf:Str->Option NameKind} {x:Str} {v:Value}: ∀{P:List Str} {vs:List Value} {i:Nat} {m:Str->Option Value},P.Nodup->P[i]? =some x->vs[i]? =some v->kindOf x=some .local->
  bindL kindOf (P.zip vs) m x=some v
 | [],_,_,_,_,h,_,_=>by simp at h
 | _::_,[],_,_,_,_,h,_=>by simp at h
 | p::P,w::vs,0,m,nd,h1,h2,hk=>by
  simp at h1 h2;subst h1;subst h2
  show bindL kindOf ((p,w)::P.zip vs) m p=_
  unfold bindL
  rw[qF fun v hv=>(XH.mp nd).1 (Qam hv).1,if_pos hk]
  simp
 | p::P,w::vs,i+1,m,nd,h1,h2,hk=>by
  show bindL kindOf ((p,w)::P.zip vs) m x=_
  unfold bindL
  exact qH (i:=i) (XH.mp nd).2 (by simpa using h1) (by simpa using h2) hk
theorem qI {kindOf:Str->Option NameKind} {x:Str} {v:Value}: ∀{P:List Str} {vs:List Value} {i:Nat} {m:Str->Option Value},P.Nodup->P[i]? =some x->vs[i]? =some v->kindOf x≠some .local->
  bindC kindOf (P.zip vs) m x=some v
 | [],_,_,_,_,h,_,_=>by simp at h
 | _::_,[],_,_,_,_,h,_=>by simp at h
 | p::P,w::vs,0,m,nd,h1,h2,hk=>by
  simp at h1 h2;subst h1;subst h2
  show bindC kindOf ((p,w)::P.zip vs) m p=_
  unfold bindC
  rw[qG fun v hv=>(XH.mp nd).1 (Qam hv).1,if_neg hk]
  simp
 | p::P,w::vs,i+1,m,nd,h1,h2,hk=>by
  show bindC kindOf ((p,w)::P.zip vs) m x=_
  unfold bindC
  exact qI (i:=i) (XH.mp nd).2 (by simpa using h1) (by simpa using h2) hk
noncomputable def start (N:List Str) (vs:List V):St:=vs.map some++List.replicate (N.length - vs.length) none
noncomputable def Ag (CX:Af) (P:Program) (w:World) (K:PySem.W.Frag) (mg:Str->Option Value) (base:Heap) (N:List Str) (qual:Str) (scope:Scope) (f:Addr) (cd:Value) (A:Around) (outer:List Env) (s:Shared) (H:Hp) (E:XK):Cx where
 prog:=P
 w:=w
 K:=K
 mg:=mg
 base:=base
 A:=A.deeper (envOfC qual scope s.heap.objs.size f cd)
 N:=N
 s₀:=s
 H₀:=H
 env:=envOfC qual scope s.heap.objs.size f cd
 outer:=outer
 stack:=envOfC qual scope s.heap.objs.size f cd::outer
 ex:=[]
 calm:=true
 fn:=fun _=>true
 pn:=[]
 xe:=fun e s'=>wpAny (model P w) (A.deeper (envOfC qual scope s.heap.objs.size f cd)) (leaving (envOfC qual scope s.heap.objs.size f cd) e) (fun _ MM=>CX outer H s E e MM) (fun e' MM=>CX outer H s E e' MM) s'
theorem uS {sc:Scope} {n:Nat} {x:Str} (h:sc.names.lookup x=some .cell): ∃c,(cellsFrom n sc.names []).lookup x=some c:=by
 have q:=PySem.W.cellsFrom_some sc.names n [] (.inl h)
 exact Option.isSome_iff_exists.mp q
theorem Ah {CX:Af} {P:Program} {w:World} {K:PySem.W.Frag} {mg:Str->Option Value} {base:Heap} {N ps:List Str} {qual:Str} {scope:Scope} {f:Addr} {cd:Value} {A:Around} {outer:List Env} {s s1:Shared} {H:Hp} {E:XK} {us:List Value} {vs:List V}
  (S:aF N ps scope) (hd:A.handled=none) (e0:wY P w K mg base A outer s H) (hl:vs.length=ps.length) (r:Vals vs us)
  (x:InCallC s s.heap.objs.size (bindL (envOfC qual scope s.heap.objs.size f cd).kindOf (ps.zip us) fun _=>none) (cellsFrom (s.heap.objs.size+1) scope.names []) (bindC (envOfC qual scope s.heap.objs.size f cd).kindOf (ps.zip us) fun _=>none) s1):
  Inv (Ag CX P w K mg base N qual scope f cd A outer s H E) [] (start N vs) H s1:=by
 have km:ps.length<=N.length:=by have:=congrArg List.length S.pre;rw[Xm]at this;omega
 obtain ⟨h1,tk,rfl,hk⟩:=x.done
 have MN: ∀b:Addr,b∉(Ag CX P w K mg base N qual scope f cd A outer s H E).ex:=fun b z=>absurd (show b∈([]:List Addr) from z) (by simp)
 refine ⟨⟨e0.mod,S.kind,rfl,rfl,OS _,fun y z c h1 h2=>?_,fun y hy=>?_,fun y c _ h=>?_,fun _=>hd,Around.frames_deeper e0.frames, .inr ⟨rfl,rfl⟩,fun b z=>absurd z (MN b),e0.bs,e0.EG,fun b _ _=>MN b,fun b z=>absurd z (MN b),e0.mZ,e0.HJ⟩,
  rfl,e0.bare,Un.kept hk,⟨_,x.toInCall.ns,fun i y v h1 h2 h3=>?_⟩,fun y c h=>⟨_,x.cell y c h⟩,e0.bX.fresh (OS _),fun y c h=>?_,fun p hp=>absurd (show p∈([]:List (Addr×Obj)) from hp) (by simp),e0.bX.kept hk,?_⟩
 ·exact name_of_addr x.apart (YZ h1) (YZ h2)
 ·have hy:scope.names.lookup y=some .cell\/scope.names.lookup y=some .free:=hy
  rcases hy with hy | hy
  ·exact uS hy
  ·exact absurd rfl (S.Ig _ (YZ hy))
 ·exact XU (x.above y c (YZ h))
 ·have hi:i<vs.length:=by
   unfold start at h2
   by_cases hi:i<vs.length
   ·exact hi
   ·rw[Yf (by simpa using hi)]at h2
    rw[List.getElem?_replicate]at h2
    split at h2<;>cases h2
  have ha:vs[i]? =some v:=by
   unfold start at h2
   rw[XT (by simpa using hi),Xo]at h2
   cases e:vs[i]? with
   | none=>rw[e]at h2;cases h2
   | some a=>rw[e]at h2;cases h2;rfl
  obtain ⟨u,hu,rv⟩:=r.get ha
  have hp:ps[i]? =some y:=by
   rw[<-S.pre,List.getElem?_take_of_lt (by omega)];exact h1
  have Sq:ps.Nodup:=by rw[<-S.pre];exact S.nd.sublist (List.take_sublist _ _)
  refine ⟨u,rv,?_⟩
  rcases S.par y (WQ hp) with k | k
  ·exact .inl ⟨k,qH Sq hp hu k⟩
  ·obtain ⟨c,e⟩:=uS (n:=s.heap.objs.size+1) k
   refine .inr ⟨.inl k,c,e,?_⟩
   have q:=x.cell y c e
   rw[qI Sq hp hu (by show scope.names.lookup y≠_;rw[k];decide)]at q
   exact q
 ·exact e0.bX.fresh (XU (x.above y c (YZ h)))
 ·unfold start
  show _=N.length
  rw[UD,Kw,List.length_replicate]
  omega
theorem MO {CX:Af} {P:Program} {w:World} {K:PySem.W.Frag} {mg:Str->Option Value} {base:Heap} {k:Nat} {f:Addr} {name qual:Str} {params:Arguments} {body:List Stmt} {scope:Scope} {dV kV doc pm cJ ct oc:Value} {an od:Option Addr}
  {El:Array (Option Value)} {N ps:List Str} {sp:Sp} (lk:K.lookup f=some ⟨oc,od, .func (PySem.W.fnOf name qual params body scope dV kV doc pm an cJ ct),El⟩) (m4:PySem.W.codeIn K cJ qual=true) (S:aF N ps scope)
  (len: ∀vs H Q E,sp vs H Q E->vs.length=ps.length)
  (BJ: ∀(A:Around) (outer:List Env) (s:Shared) (H:Hp) (vs:List V) (Q:VK) (E:XK),eI k (A.deeper (envOfC qual scope s.heap.objs.size f cJ))->sp vs H Q E->
   ∃t,wM (Ag CX P w K mg base N qual scope f cJ A outer s H E) body t/\t { nx:=fun _ H'=>Q .fB H',rt:=Q } (start N vs) H):
  bI P w K mg base CX (k+1) f (PySem.W.fnOf name qual params body scope dV kV doc pm an cJ ct) ps sp:=by
 refine ⟨len,fun A outer s H args us vs Q E hr e0 hb r G5=>?_⟩
 have hl:=len _ _ _ _ G5
 have KX:K.In s.heap:=e0.mod.Kr.keeps fun b o e=>(e0.bs b o e).1
 have lim:s.heap.NoLimit:=e0.mod.nolimit.keeps fun b o e=>(e0.bs b o e).1
 have hW: ∀y∈ps.zip us,scope.names.lookup y.1=some .local\/(scope.names.lookup y.1=some .cell/\((cellsFrom (s.heap.objs.size+1) scope.names []).lookup y.1).isSome=true):=fun ⟨n,v⟩ hy=>by
  rcases S.par n (Qam hy).1 with q | q
  ·exact .inl q
  ·exact .inr ⟨q,PySem.W.cellsFrom_some _ _ _ (.inl q)⟩
 refine codeAny_call_function hr.depth (KX _ _ lk) rfl S.co S.gen rfl (PySem.W.codeRec_of KX m4) (hb _ _ _ _ ?_)
 refine wpAny_newFunctionEnv_cells S.kind hW fun env he s1 x=>?_
 subst he
 refine ⟨lim.keeps x.toInCall.keep,codeAny_func ?_⟩
 obtain ⟨t,ht,hq⟩:=BJ A outer s H vs Q E (hr.deeper _) G5
 have I:Inv (Ag CX P w K mg base N qual scope f cJ A outer s H E) [] (start N vs) H s1:=Ah S hr.hd e0 hl r x
 refine wpAny_mono (ht [] s1 (start N vs) H _ I hq) (fun fl s' hs=>?_) fun e s' hs=>hs
 have fin: ∀{σ':St} {H':Hp} {v:V} {u:Value},Inv (Ag CX P w K mg base N qual scope f cJ A outer s H E) [] σ' H' s'->RelV v u->Q v H'->CE outer P w H s Q u s':=
  fun {σ' H' v u} J rv q=>⟨v,H',J.os,J.bare,J.base,J.bX,rv,q⟩
 cases fl with
 | ret u=>
  obtain ⟨v,σ',H',J,rv,q⟩:=hs
  exact fin J rv q
 | next=>
  obtain ⟨σ',H',J,q⟩:=hs
  exact fin (v:=V.fB) (u:=Value.none) J rfl q
 | brk=>
  obtain ⟨_,_,_,q⟩:=hs
  exact False.elim q
 | cont=>
  obtain ⟨_,_,_,q⟩:=hs
  exact False.elim q
section
variable {X:Cx} {x:Str} {p pos:Pos} {e:Expr} {es:List Expr} {t:TA} {id T:String} {r:List V->Hp->VK->Prop}
def Sr (r:List V->Hp->VK->Prop) (t:TA):TE:=fun σ H Q=>t σ H fun vs H1=>r vs H1 Q
theorem aC (hc:dN X (.builtin id) r) (hg:Gl X x) (hm:X.mg x=none) (hv:bootBuiltins x=some (.builtin id)) (ha:PA X (e::es) t) (hn:x≠"__name__":=by decide) (Ie:(x==("__debug__":Str))=false:=by decide)
  (he:starEach (e::es) X.env=(false,eval e X.env)::starEach es X.env:=by rfl) (km:(backTo pos (starEach es X.env)).any (·.1)=false:=by rfl):PE X (.Call (.Name x p) (e::es) [] pos) (Sr r t):=by
 intro pins s σ H Q I h
 refine wpAny_Call_Name_kw (gv I hg hm hv ?_ hn Ie)
 exact PyProof.Rows.callWith_builtin1 (b8 (ha pos pins s σ H _ I h) fun us s1 ⟨vs,H1,I1,r1,q1⟩=>hc pins s1 σ H1 vs us Q I1 r1 q1) he km
theorem cK (hc:dN X (.type T) r) (hg:Gl X x) (hm:X.mg x=none) (hv:bootBuiltins x=some (.type T)) (ha:PA X (e::es) t) (hn:x≠"__name__":=by decide) (Ie:(x==("__debug__":Str))=false:=by decide)
  (he:starEach (e::es) X.env=(false,eval e X.env)::starEach es X.env:=by rfl) (km:(backTo pos (starEach es X.env)).any (·.1)=false:=by rfl):PE X (.Call (.Name x p) (e::es) [] pos) (Sr r t):=by
 intro pins s σ H Q I h
 refine wpAny_Call_Name_kw (gv I hg hm hv ?_ hn Ie)
 exact X1 (b8 (ha pos pins s σ H _ I h) fun us s1 ⟨vs,H1,I1,r1,q1⟩=>hc pins s1 σ H1 vs us Q I1 r1 q1) he km
end
end L2
namespace HT
open PySem PyProof.Rows
section
open PySem.SeqAt
open PySem.AutoSeq1 (wpAny_loadPart')
open PySem.MeetsSeq PySem.MeetsSeq2 PySem.MeetsSeq3
end
section
variable {prog:Program} {w:World} {A:Around} {E:Value->Shared->Prop} {s:Shared}
noncomputable def hX (n d:Nat):Option Int->Nat
 | none=>d
 | some v=>if v<0 then (v+(n:Int)).toNat else min v.toNat n
theorem kA (n d:Nat):hX n d none=d:=rfl
theorem gh (n d k:Nat):hX n d (some (k:Int))=min k n:=by
 show (if (k:Int)<0 then ((k:Int)+(n:Int)).toNat else min (k:Int).toNat n)=min k n
 rw[if_neg (by omega),UG]
theorem Ih (n d:Nat) (hd:d<=n) (o:Option Int):hX n d o<=n:=by
 cases o with
 | none=>exact hd
 | some v=>
  show (if v<0 then (v+(n:Int)).toNat else min v.toNat n)<=n
  by_cases hv:v<0
  ·rw[if_pos hv];omega
  ·rw[if_neg hv];exact Nat.min_le_right _ _
end
end HT
namespace L2
open PySem PySem.Spec PyProof.Rows
abbrev TO:=St->Hp->(Option Int->Hp->Prop)->Prop
def PO (X:Cx) (e:Option Expr) (t:TO):Prop:=
 ∀(pins:List (Addr×Obj)) (s:Shared) (σ:St) (H:Hp) (Q:Option Int->Hp->Prop),Inv X pins σ H s->t σ H Q->
  wpAny (model X.prog X.w) X.A (evalPart e X.env) (fun u s'=> ∃o H',Inv X pins σ H' s'/\IsPart u o/\Q o H') X.xe s
def ES:TO:=fun _ H Q=>Q none H
def MP (t:TE):TO:=fun σ H Q=>t σ H fun x H1=> ∃i,x= .int i/\Q (some i) H1
theorem intsAre_of {ns:List Int}: ∀{us:List Value},Vals (ns.map V.int) us->IntsAre us ns:=by
 induction ns with
 | nil=>intro us r;rw[List.map_nil]at r;cases r;exact .nil
 | cons n ns ih=>
  intro us r
  rw[Xw]at r
  cases r with
  | cons r1 r2=>
   obtain ⟨t,e⟩:=r1
   subst e
   exact .cons n t (ih r2)
section
variable {X:Cx} {e:Expr} {te:TE} {lo hi:Option Expr} {tl th:TO} {pos p2:Pos}
theorem bT:PO X none ES:=by
 intro pins s σ H Q I h
 rw[evalPart_none]
 exact wpAny_pure ⟨none,H,I, .none,h⟩
theorem ba (h:PE X e te):PO X (some e) (MP te):=by
 intro pins s σ H Q I hw
 rw[evalPart_some]
 refine b8 (h pins s σ H _ I hw) fun u s1 ⟨x,H1,I1,r1,q1⟩=>?_
 obtain ⟨i,rfl,q⟩:=q1
 obtain ⟨t,rfl⟩:=r1
 exact ⟨some i,H1,I1, .int i t,q⟩
def OO (X:Cx) (r:V->Option Int->Option Int->Hp->VK->Prop):Prop:=
 ∀(pins:List (Addr×Obj)) (s:Shared) (σ:St) (H:Hp) (x:V) (v vl vu:Value) (lo hi:Option Int) (sl:Addr) (Q:VK),Inv X pins σ H s->RelV x v->s.heap.IsSliceOf sl vl vu .none->IsPart vl lo->IsPart vu hi->r x lo hi H Q->
  ∃T id,typeLookup (.type T) "__getitem__"=pure (some (.builtin id))/\s.TypeIs v T/\wpAny (model X.prog X.w) X.A (getItem v (.ref sl)) (EP X pins σ Q) X.xe s
def Uy (r:V->Option Int->Option Int->Hp->VK->Prop) (te:TE) (tl th:TO):TE:=fun σ H Q=>te σ H fun x H1=>tl σ H1 fun l H2=>th σ H2 fun u H3=>r x l u H3 Q
theorem bf {r:V->Option Int->Option Int->Hp->VK->Prop} (hr:OO X r) (he:PE X e te) (hl:PO X lo tl) (hu:PO X hi th):PE X (.Subscript e (.Slice lo hi none p2) pos) (Uy r te tl th):=by
 intro pins s σ H Q I h
 refine Subscript_ (b8 (he pins s σ H _ I h) fun v s1 ⟨x,H1,I1,r1,q1⟩=>?_)
 refine wpAny_Slice (b8 (hl pins s1 σ H1 _ I1 q1) fun vl s2 ⟨l,H2,I2,pl,q2⟩=>b8 (hu pins s2 σ H2 _ I2 q2) fun vu s3 ⟨u,H3,I3,pu,q3⟩=>?_)
 rw[evalPart_none]
 refine wpAny_pure ?_
 have I4:Inv X pins σ H3 { s3 with heap:=s3.heap.push { cls:= .type "slice",data:= .fields #[vl,vu, .none] } }:=I3.kept (t':=s3.toks) fun b ob q=>Sy _ q
 obtain ⟨T,id,hT,ht,hg⟩:=hr pins { s3 with heap:=s3.heap.push { cls:= .type "slice",data:= .fields #[vl,vu, .none] } } σ H3 x v vl vu l u s3.heap.objs.size Q I4 r1 (Heap.IsSliceOf.new ..) pl pu q3
 show wpAny (model X.prog X.w) X.A (subscriptTail e (.Slice lo hi none p2) v (.ref s3.heap.objs.size)) (EP X pins σ Q) X.xe { s3 with heap:=s3.heap.push { cls:= .type "slice",data:= .fields #[vl,vu, .none] } }
 exact tail_any (ops:=[.ref s3.heap.objs.size,v]) ht hT hg (by with_unfolding_all rfl)
noncomputable def lQ (xs:List V) (lo hi:Option Int):List V:=(xs.drop (HT.hX xs.length 0 lo)).take (HT.hX xs.length xs.length hi - HT.hX xs.length 0 lo)
theorem uT (xs:List V) (lo hi:Option Int):(lQ xs lo hi).length<=xs.length:=by
 unfold lQ
 rw[Xm,Xx]
 omega
end
noncomputable def Em (n:Nat) (i:Int):Option Nat:=if 0<=i then (if i<n then some i.toNat else none) else if -(n:Int)<=i then some (i+n).toNat else none
noncomputable def m6 {α:Type} (xs:List α) (i:Int):Option α:=(Em xs.length i).bind fun j=>xs[j]?
theorem yM {n:Nat} {i:Int} {j:Nat} (h:Em n i=some j):seqIndex? i n=some j/\j<n/\ -(n:Int)<=i/\i<n:=by
 unfold Em at h
 by_cases h0:0<=i
 ·rw[if_pos h0]at h
  by_cases h1:i<n
  ·rw[if_pos h1]at h
   have e:i.toNat=j:=Xr h
   exact ⟨by rw[seqIndex_of h0 h1,e],by omega,by omega,h1⟩
  ·rw[if_neg h1]at h;cases h
 ·rw[if_neg h0]at h
  by_cases h1: -(n:Int)<=i
  ·rw[if_pos h1]at h
   have e:(i+n).toNat=j:=Xr h
   exact ⟨by rw[seqIndex_neg (by omega) h1,e],by omega,h1,by omega⟩
  ·rw[if_neg h1]at h;cases h
theorem se {α:Type} {xs:List α} {i:Int} {v:α} (h:m6 xs i=some v): ∃j,seqIndex? i xs.length=some j/\xs[j]? =some v/\j<xs.length/\ -(xs.length:Int)<=i/\i<xs.length:=by
 unfold m6 at h
 cases e:Em xs.length i with
 | none=>rw[e]at h;cases h
 | some j=>
  rw[e]at h
  obtain ⟨h1,h2,h3,h4⟩:=yM e
  exact ⟨j,h1,h,h2,h3,h4⟩
theorem b9 {α:Type} {xs:List α} {j:Nat} {v:α} (h:xs[j]? =some v):m6 xs (j:Int)=some v:=by
 have hj:j<xs.length:=(Iy.mp h).1
 have e:Em xs.length (j:Int)=some j:=by
  unfold Em
  rw[if_pos (by omega),if_pos (by omega)];simp
 unfold m6;rw[e];exact h
theorem uU {α:Type} (xs:List α) (v:α):m6 (xs++[v]) (-1)=some v:=by
 have hl:(xs++[v]).length=xs.length+1:=by simp
 have e:Em (xs++[v]).length (-1)=some xs.length:=by
  unfold Em
  rw[hl,if_neg (by decide),if_pos (by omega)]
  congr 1
  omega
 unfold m6
 rw[e]
 show (xs++[v])[xs.length]? =some v
 simp
def ET (b:Expr):Prop:= ∀o i,subscripted b false o i=operate [o,i] (getItem o i)
def Ii (X:Cx) (r:R2):Prop:=
 ∀(value slice:Expr) (pins:List (Addr×Obj)) (s:Shared) (σ:St) (H:Hp) (x y:V) (v u:Value) (Q:VK),Inv X pins σ H s->RelV x v->RelV y u->r x y H Q->
  subscripted slice false v u=operate [v,u] (getItem v u)->wpAny (model X.prog X.w) X.A (subscriptTail value slice v u) (EP X pins σ Q) X.xe s
def Ai (X:Cx) (id:String) (r:V->List V->Hp->VK->Prop):Prop:=
 ∀(pins:List (Addr×Obj)) (s:Shared) (σ:St) (H:Hp) (x:V) (xs:List V) (v:Value) (us:List Value) (Q:VK),Inv X pins σ H s->RelV x v->Vals xs us->r x xs H Q->
  wpAny (model X.prog X.w) X.A (call (.builtin id) (v::us)) (EP X pins σ Q) X.xe s
section
variable {X:Cx} {a b:Expr} {ta tb:TE} {pos:Pos}
theorem aR {r:R2} (hr:Ii X r) (ha:PE X a ta) (hb:PE X b tb) (hs:ET b):PE X (.Subscript a b pos) (OL r ta tb):=by
 intro pins s σ H Q I h
 exact Subscript_ (Ia ha hb I h fun v u s2 x y H2 I2 rx ry q=>hr a b pins s2 σ H2 x y v u Q I2 rx ry q (hs _ _))
def MQ (K:PySem.W.Frag):R2:=fun x y H Q=> ∃p xs i v,x= .ref p/\y= .int i/\bC K H p xs/\m6 xs i=some v/\Q v H
def MR (K:PySem.W.Frag):R2:=fun x y H Q=> ∃p xs i v,x= .ref p/\y= .int i/\cS K H p xs/\m6 xs i=some v/\Q v H
def Qx:R2:=fun x y H Q=> ∃z i c,x= .str z/\y= .int i/\z.length<=sizeLine/\m6 z.cps.toList i=some c/\Q (.str ⟨#[c]⟩) H
theorem EU:Ii X (MQ X.K):=by
 intro value slice pins s σ H x y v u Q I rx ry h hs
 obtain ⟨p,xs,i,z,rfl,rfl,hq,he,q⟩:=h
 cases rx
 obtain ⟨t,rfl⟩:=ry
 obtain ⟨aJ,r,pl,hz⟩:=I.list hq
 obtain ⟨j,h1,h2,h3,h4,h5⟩:=se he
 obtain ⟨w,ew,uV⟩:=r.get h2
 have hl:=r.length
 have hn:=eG
 have fin:EP X pins σ Q w s:=⟨z,H,I,uV,q⟩
 by_cases h0:0<=i
 ·have hj:i.toNat=j:=by
   rw[seqIndex_of h0 h5]at h1
   exact Xr h1
  exact item_listR pl.isList h0 (by omega) (by rw[hj];simpa using ew) fin hs
 ·have hj:(i+(aJ.toArray.size:Int)).toNat=j:=by
   rw[seqIndex_neg (by omega) h4]at h1
   rw[WM, <-hl]
   exact Xr h1
  exact subscriptTail_builtinR (x:=w) pl.isList.typeIs slot_list_getitem.lookup
   (wpAny_getItem_list_neg (Q:=fun r s'=>r=w/\EP X pins σ Q r s') pl.isList (by omega) (by rw[WM]<;>omega) (by omega) (by rw[hj];simpa using ew) ⟨rfl,fin⟩) hs
theorem Ij:Ii X (MR X.K):=by
 intro value slice pins s σ H x y v u Q I rx ry h hs
 obtain ⟨p,xs,i,z,rfl,rfl,hq,he,q⟩:=h
 cases rx
 obtain ⟨t,rfl⟩:=ry
 obtain ⟨aJ,r,pl,hz⟩:=I.tuple hq
 obtain ⟨j,h1,h2,h3,h4,h5⟩:=se he
 obtain ⟨w,ew,uV⟩:=r.get h2
 have hl:=r.length
 have hn:=eG
 have fin:EP X pins σ Q w s:=⟨z,H,I,uV,q⟩
 exact subscriptTail_builtinR (x:=w) pl.typeIs slot_tuple_getitem.lookup
  (getItem_tuple (j:=j) (Q:=fun r s'=>r=w/\EP X pins σ Q r s') pl (by omega) (by omega) (by rw[WM, <-hl];exact h1) (by simpa using ew) ⟨rfl,fin⟩) hs
theorem Ik:Ii X Qx:=by
 intro value slice pins s σ H x y v u Q I rx ry h hs
 obtain ⟨z,i,c,rfl,rfl,hz,he,q⟩:=h
 obtain ⟨t,rfl⟩:=rx
 obtain ⟨t',rfl⟩:=ry
 obtain ⟨j,h1,h2,h3,h4,h5⟩:=se he
 have hl:z.cps.toList.length=z.length:=by simp[Str.length]
 rw[hl]at h1 h4 h5
 have hn:=eG
 exact tail_any (typeIs_str s z t) slot_str_getitem.lookup (getItem_str (c:=c) (by
  have e1:decide (i< -(2 ^ 63:Int))=false:=decide_eq_false (by omega)
  have e2:decide (i ≥ 2 ^ 63)=false:=decide_eq_false (by omega)
  rw[e1,e2,Z7]) (by rw[h1];simpa using h2) ⟨.str ⟨#[c]⟩,H,I.tok _,⟨_,rfl⟩,q⟩) hs
theorem w4 (aJ:List Value) (n j:Nat) (u:Value):Obj.mapSeq (·.setIfInBounds j u) { cls:= .type "list",data:= .seq aJ.toArray n }={ cls:= .type "list",data:= .seq (aJ.set j u).toArray n }:=by
 simp[Obj.mapSeq]
theorem Inv.lst {pins:List (Addr×Obj)} {σ:St} {H:Hp} {s:Shared} {p:Addr} {xs:List V} (I:Inv X pins σ H s) (h:H p=some (.lst xs)):
  ∃(aJ:List Value) (n:Nat),Vals xs aJ/\s.heap.get? p=some { cls:= .type "list",data:= .seq aJ.toArray n }/\xs.length<=sizeLine:=by
 obtain ⟨z,aJ,n,r,e⟩:=I.bX p _ h
 exact ⟨aJ,n,r,e,z⟩
theorem Inv.Il {pins:List (Addr×Obj)} {σ:St} {H:Hp} {s:Shared} {p:Addr} {xs ys:List V} {aJ its':List Value} {n n':Nat} {f:Obj->Obj} (I:Inv X pins σ H s) (h:H p=some (.lst xs))
  (ho:s.heap.get? p=some { cls:= .type "list",data:= .seq aJ.toArray n }) (hf:f { cls:= .type "list",data:= .seq aJ.toArray n }={ cls:= .type "list",data:= .seq its'.toArray n' }) (r:Vals ys its') (hz:ys.length<=sizeLine) (t:Nat):
  Inv X pins σ (upd H p (.lst ys)) { s with heap:=s.heap.update p f,toks:=t }:=by
 have e:(s.heap.update p f).get? p=some { cls:= .type "list",data:= .seq its'.toArray n' }:=by
  rw[X9 f ho (by rw[hf]<;>rfl),hf]
 refine I.write (x:=p) (e:=p) (by rw[h];trivial) (.inl rfl) (fun b u hb q=>(XO _ _ (Ne.symm hb)).trans q) ⟨_,e⟩ ?_
 exact ⟨hz,its',n',r,e⟩
def MS:V->V->V->Hp->(Hp->Prop)->Prop:=fun o i v H Q=> ∃p xs k j,o= .ref p/\i= .int k/\H p=some (.lst xs)/\Em xs.length k=some j/\Q (upd H p (.lst (xs.set j v)))
theorem set_list:Mr X MS:=by
 intro pins s σ H o i v ov iv u Q I ro ri rv h
 obtain ⟨p,xs,k,j,rfl,rfl,hp,hj,q⟩:=h
 cases ro
 obtain ⟨t,rfl⟩:=ri
 obtain ⟨aJ,n,r,ho,hz⟩:=I.lst hp
 obtain ⟨h1,h2,h3,h4⟩:=yM hj
 have hl:=r.length
 have hn:=eG
 have I':Inv X pins σ (upd H p (.lst (xs.set j v))) { s with heap:=s.heap.update p (Obj.mapSeq (·.setIfInBounds j u)) }:=
  I.Il hp ho (w4 aJ n j u) (r.set rv j) (by rw[List.length_set];exact hz) s.toks
 by_cases h0:0<=k
 ·have hk:k.toNat=j:=by
   rw[seqIndex_of h0 h4]at h1
   exact Xr h1
  exact PySem.W.ki_setAt ho h0 (by omega) (by rw[WM, <-hl];exact h4) (by rw[hk];exact ⟨_,I',q⟩)
 ·have hk:(k+(aJ.toArray.size:Int)).toNat=j:=by
   rw[seqIndex_neg (by omega) h3]at h1
   rw[WM, <-hl]
   exact Xr h1
  exact PySem.W.ki_setBack ho (by omega) (by rw[WM, <-hl];exact h3) (by omega) (by rw[hk];exact ⟨_,I',q⟩)
theorem sg (lo hi:Option Int) (n:Nat):(sliceBounds lo hi none n).1=((HT.hX n 0 lo:Nat):Int)/\(sliceBounds lo hi none n).2.1=((HT.hX n n hi:Nat):Int)/\(sliceBounds lo hi none n).2.2=1:=by
 refine ⟨?_,?_,rfl⟩
 ·cases lo with
  | none=>simp[sliceBounds,HT.hX]
  | some i=>
   simp only[sliceBounds,HT.hX,Option.getD_none,show (1:Int)>0 by decide,if_true]
   by_cases h:i<0
   ·simp only[h,if_true]<;>omega
   ·simp only[h,if_false]<;>omega
 ·cases hi with
  | none=>simp[sliceBounds,HT.hX]
  | some i=>
   simp only[sliceBounds,HT.hX,Option.getD_none,show (1:Int)>0 by decide,if_true]
   by_cases h:i<0
   ·simp only[h,if_true]<;>omega
   ·simp only[h,if_false]<;>omega
theorem qd (aJ:List Value) (lo hi:Option Int):slicePick aJ.toArray lo hi none=((aJ.drop (HT.hX aJ.length 0 lo)).take (HT.hX aJ.length aJ.length hi - HT.hX aJ.length 0 lo)).toArray:=by
 obtain ⟨h1,h2,h3⟩:=sg lo hi aJ.toArray.size
 unfold slicePick
 rw[h1,h2,h3]
 simp only[sliceRange_one,pick_run,WM]<;>rfl
def MT (K:PySem.W.Frag):V->Option Int->Option Int->Hp->VK->Prop:=fun x lo hi H Q=> ∃a xs,x= .ref a/\bC K H a xs/\ ∀p,H p=none->Q (.ref p) (upd H p (.lst (lQ xs lo hi)))
theorem EV:OO X (MT X.K):=by
 intro pins s σ H x v vl vu lo hi sl Q I rx hs pl pu h
 obtain ⟨a,xs,rfl,hx,q⟩:=h
 cases rx
 obtain ⟨aJ,r,ht,hz⟩:=I.list hx
 have hlen:=r.length
 refine ⟨"list",_,slot_list_getitem.lookup,ht.isList.typeIs,?_⟩
 refine wpAny_getItem_list_slice ht.isList hs pl pu .none (by simp) ?_ (by rw[WM]<;>omega)
 rw[qd, <-hlen]
 refine ⟨.ref s.heap.objs.size,_,I.laid (t':=s.toks) (o:= .lst (lQ xs lo hi)) (fun b ob q=>Sy _ q) (OS _) ?_,rfl,q _ (I.bX.fresh (OS _))⟩
 exact ⟨XM (uT xs lo hi) hz,_,0,(r.drop (HT.hX xs.length 0 lo)).take (HT.hX xs.length xs.length hi - HT.hX xs.length 0 lo),Xq _ rfl⟩
noncomputable def mQ:V->Bool
 | .fB=>true
 | .bl _=>true
 | .int _=>true
 | .str _=>true
 | _=>false
noncomputable def EW:V->V->Bool
 | .fB, .fB=>true
 | .bl a, .bl b=>a==b
 | .bl a, .int b=>(if a then 1 else 0)==b
 | .int a, .bl b=>a==(if b then 1 else 0)
 | .int a, .int b=>a==b
 | .str a, .str b=>a==b
 | _,_=>false
theorem Im {A:Around} {s:Shared} {y x:V} {u v:Value} (ry:RelV y u) (rx:RelV x v) (fy:mQ y=true) (fx:mQ x=true):SeqAt.EqAt A s u v (EW y x):=by
 cases y with
 | fB=>
  cases ry
  cases x with
  | fB=>cases rx;exact SeqAt.EqAt.same _
  | bl b=>cases rx;exact SeqAt.EqAt.none_bool b
  | int b=>obtain ⟨t,rfl⟩:=rx;exact SeqAt.EqAt.none_int b t
  | str b=>obtain ⟨t,rfl⟩:=rx;exact SeqAt.EqAt.none_str b t
  | _=>exact absurd (show false=true from fx) Xv
 | bl a=>
  cases ry
  cases x with
  | fB=>cases rx;exact SeqAt.EqAt.bool_none a
  | bl b=>cases rx;exact SeqAt.EqAt.bool_bool a b
  | int b=>obtain ⟨t,rfl⟩:=rx;exact SeqAt.EqAt.bool_int a b t
  | str b=>obtain ⟨t,rfl⟩:=rx;exact SeqAt.EqAt.bool_str a b t
  | _=>exact absurd (show false=true from fx) Xv
 | int a=>
  obtain ⟨t',rfl⟩:=ry
  cases x with
  | fB=>cases rx;exact SeqAt.EqAt.int_none a t'
  | bl b=>cases rx;exact SeqAt.EqAt.int_bool a t' b
  | int b=>obtain ⟨t,rfl⟩:=rx;exact SeqAt.EqAt.int_int a t' b t
  | str b=>obtain ⟨t,rfl⟩:=rx;exact SeqAt.EqAt.int_str a t' b t
  | _=>exact absurd (show false=true from fx) Xv
 | str a=>
  obtain ⟨t',rfl⟩:=ry
  cases x with
  | fB=>cases rx;exact SeqAt.EqAt.str_none a t'
  | bl b=>cases rx;exact SeqAt.EqAt.str_bool a t' b
  | int b=>obtain ⟨t,rfl⟩:=rx;exact SeqAt.EqAt.str_int a t' b t
  | str b=>obtain ⟨t,rfl⟩:=rx;exact SeqAt.EqAt.str_str a t' b t
  | _=>exact absurd (show false=true from fx) Xv
 | _=>exact absurd (show false=true from fy) Xv
noncomputable def EX (x:V) (u:Value):Bool:=match u with
 | .none=>EW .fB x
 | .bool b=>EW (.bl b) x
 | .int i _=>EW (.int i) x
 | .str z _=>EW (.str z) x
 | _=>false
theorem BK {x y:V} {u:Value} (r:RelV y u) (f:mQ y=true):EX x u=EW y x:=by
 cases y with
 | fB=>cases r;rfl
 | bl b=>cases r;rfl
 | int i=>obtain ⟨t,rfl⟩:=r;rfl
 | str z=>obtain ⟨t,rfl⟩:=r;rfl
 | _=>exact absurd (show false=true from f) Xv
theorem si {x:V}: ∀{xs:List V} {us:List Value},Vals xs us->xs.all mQ=true->us.any (EX x)=xs.any fun y=>EW y x
 | _,_, .nil,_=>rfl
 | y::xs,u::us, .cons r t,f=>by
  rw[List.all_cons,X8]at f
  rw[Yx,Yx,BK r f.1,si t f.2]
theorem oh {A:Around} {s:Shared} {x:V} {v:Value} (rx:RelV x v) (fx:mQ x=true): ∀{xs:List V} {us:List Value},Vals xs us->xs.all mQ=true-> ∀u∈us,SeqAt.EqAt A s u v (EX x u)
 | _,_, .nil,_=>fun u hu=>by cases hu
 | y::xs,u::us, .cons r t,f=>fun u' hu=>by
  rw[List.all_cons,X8]at f
  rcases UE.mp hu with rfl | hu
  ·rw[BK r f.1];exact Im r rx f.1 fx
  ·exact oh rx fx t f.2 u' hu
noncomputable def Kv (x:V) (xs:List V):Bool:=xs.any fun y=>EW y x
def Ss (K:PySem.W.Frag) (neg:Bool):R2:=fun x y H Q=> ∃p xs,y= .ref p/\(bC K H p xs\/cS K H p xs)/\mQ x=true/\xs.all mQ=true/\Q (.bl (if neg then !Kv x xs else Kv x xs)) H
theorem sj:iE X (compareOp .NotIn) (Ss X.K true):=by
 intro pins s σ H x y v u Q I rx ry h
 obtain ⟨p,xs,rfl,hq,fx,fs,q⟩:=h
 cases ry
 rcases hq with hq | hq
 ·obtain ⟨aJ,r,pl,hz⟩:=I.list hq
  refine SeqAt.notIn_listAt (EX x) pl.isList (fun w hw=>oh rx fx r fs w (by simpa using hw)) ⟨.bl _,H,I,rfl,?_⟩
  rw[show aJ.toArray.any (EX x)=aJ.any (EX x) by simp,si r fs]
  exact q
 ·obtain ⟨aJ,r,pl,hz⟩:=I.tuple hq
  refine SeqAt.notIn_tupleAt (EX x) pl (fun w hw=>oh rx fx r fs w (by simpa using hw)) ⟨.bl _,H,I,rfl,?_⟩
  rw[show aJ.toArray.any (EX x)=aJ.any (EX x) by simp,si r fs]
  exact q
theorem sk:iE X (compareOp .NotIn) (fun x y H Q=> ∃i j,x= .str i/\y= .str j/\Q (.bl (!(!(Builtin.Str.occurrences j i 0 j.length 1).isEmpty))) H):=by
 intro pins s σ H x y v u Q I rx ry h
 obtain ⟨i,j,rfl,rfl,q⟩:=h
 obtain ⟨t,rfl⟩:=rx
 obtain ⟨t',rfl⟩:=ry
 exact notIn_str ⟨.bl _,H,I,rfl,q⟩
theorem sr:dN X (.builtin "len") (fun xs H Q=> ∃p ys,xs=[.ref p]/\(bC X.K H p ys\/cS X.K H p ys)/\Q (.int ys.length) H):=by
 intro pins s σ H xs us Q I r h
 obtain ⟨p,ys,rfl,hq,q⟩:=h
 obtain ⟨u,rfl,rx⟩:=vals1 r
 cases rx
 have hn:=eG
 rcases hq with hq | hq
 ·obtain ⟨aJ,r',pl,hz⟩:=I.list hq
  have hlen:=r'.length
  exact Calls.call_len_list pl.isList (by simp only[WM]<;>omega) ⟨.int ys.length,H,I.tok _,⟨s.toks+1,by rw[WM,hlen]⟩,q⟩
 ·obtain ⟨aJ,r',pl,hz⟩:=I.tuple hq
  have hlen:=r'.length
  exact len_tuple pl (by simp only[WM]<;>omega) ⟨.int ys.length,H,I.tok _,⟨s.toks+1,by rw[WM,hlen]⟩,q⟩
theorem sx:dN X (.builtin "len") (fun xs H Q=> ∃z,xs=[.str z]/\z.length<=sizeLine/\Q (.int z.length) H):=by
 intro pins s σ H xs us Q I r h
 obtain ⟨z,rfl,hz,q⟩:=h
 obtain ⟨u,rfl,t,rfl⟩:=vals1 r
 have hn:=eG
 exact len_str (by omega) ⟨.int z.length,H,I.tok _,⟨_,rfl⟩,q⟩
theorem sC:dN X (.type "list") (fun xs H Q=> ∃p ys,xs=[.ref p]/\(bC X.K H p ys\/cS X.K H p ys)/\ ∀l,H l=none->Q (.ref l) (upd H l (.lst ys))):=by
 intro pins s σ H xs us Q I r h
 obtain ⟨p,ys,rfl,hq,q⟩:=h
 obtain ⟨u,rfl,rx⟩:=vals1 r
 cases rx
 have fin: ∀(aJ:List Value),Vals ys aJ->ys.length<=sizeLine-> ∀(h':Heap) (c':Nat),(∀b o',s.heap.get? b=some o'->h'.get? b=some o')->
   h'.get? s.heap.objs.size=some { cls:= .type "list",dict:=none,data:= .seq aJ.toArray c',slots:= #[] }->EP X pins σ Q (.ref s.heap.objs.size) { s with heap:=h' }:=fun aJ r' hz h' c' kp e=>
  ⟨.ref s.heap.objs.size,_,I.laid (t':=s.toks) kp (OS _) (show cR X.prog X.w _ h' _ (.lst ys) from ⟨hz,aJ,c',r',e⟩),rfl,q _ (I.bX.fresh (OS _))⟩
 rcases hq with hq | hq
 ·obtain ⟨aJ,r',pl,hz⟩:=I.list hq
  have hlen:=r'.length
  obtain ⟨o,ho,hc,n,hd⟩:=pl.isList
  exact call_list_seq p (.inl rfl) ho hc hd (fun h' c' kp e=>fin aJ r' hz h' c' kp e) (by simp only[WM]<;>omega)
 ·obtain ⟨aJ,r',pl,hz⟩:=I.tuple hq
  have hlen:=r'.length
  obtain ⟨o,ho,hc,n,hd⟩:=pl
  exact call_list_seq p (.inr rfl) ho hc hd (fun h' c' kp e=>fin aJ r' hz h' c' kp e) (by simp only[WM]<;>omega)
theorem qe:dN X (.type "tuple") (fun xs H Q=> ∃p ys,xs=[.ref p]/\((bC X.K H p ys/\ ∀l,H l=none->Q (.ref l) (upd H l (.tup ys)))\/(cS X.K H p ys/\Q (.ref p) H))):=by
 intro pins s σ H xs us Q I r h
 obtain ⟨p,ys,rfl,h⟩:=h
 obtain ⟨u,rfl,rx⟩:=vals1 r
 cases rx
 rcases h with ⟨hq,q⟩ | ⟨hq,q⟩
 ·obtain ⟨aJ,r',pl,hz⟩:=I.list hq
  have hlen:=r'.length
  refine call_tuple_list pl.isList (fun h' kp=>?_) (by simp only[WM]<;>omega)
  have I1:Inv X pins σ H { s with heap:=h' }:=I.kept (t':=s.toks) kp
  have I2:Inv X pins σ (upd H h'.objs.size (.tup ys)) { s with heap:=h'.push { cls:= .type "tuple",data:= .seq aJ.toArray } }:=
   I1.laid (t':=s.toks) (fun b o e=>Sy _ e) (OS _) (show cR X.prog X.w _ _ _ (.tup ys) from ⟨hz,aJ,r',IsTup.new _ _⟩)
  exact ⟨.ref h'.objs.size,_,I2,rfl,q _ (I1.bX.fresh (OS _))⟩
 ·obtain ⟨aJ,r',pl,hz⟩:=I.tuple hq
  exact call_tuple_same pl ⟨.ref p,H,I,rfl,q⟩
def OP (K:PySem.W.Frag) (T:String) (x:V) (H:Hp):Prop:=match x with
 | .str _=>T="str"
 | .int _=>T="int"
 | .ref p=>(T="list"/\ ∃xs,bC K H p xs)\/(T="tuple"/\ ∃o,K.lookup p=some o/\o.cls= .type "tuple"/\o.dict=none)\/
   (T="dict"/\((∃aP,H p=some (.dK aP))\/ ∃aP,H p=some (.dT aP)))\/(T="set"/\ ∃S n,H p=some (.set S n))
 | _=>False
theorem w5 {pins:List (Addr×Obj)} {σ:St} {H:Hp} {s:Shared} {T:String} {x:V} {v:Value} (I:Inv X pins σ H s) (r:RelV x v) (ty:OP X.K T x H):
  s.TypeIs v T/\ ∀a,v= .ref a-> ∃ob,s.heap.get? a=some ob/\ob.dict=none:=by
 cases x with
 | str z=>
  obtain ⟨t,rfl⟩:=r
  cases (show T="str" from ty)
  exact ⟨typeIs_str s z t,fun _ e=>nomatch e⟩
 | int i=>
  obtain ⟨t,rfl⟩:=r
  cases (show T="int" from ty)
  exact ⟨typeIs_int s i t,fun _ e=>nomatch e⟩
 | ref p=>
  cases r
  rcases ty with ⟨rfl,xs,hq⟩ | ⟨rfl,o,hk,hc,hd⟩ | ⟨rfl,hk⟩ | ⟨rfl,S,n,hk⟩
  ·obtain ⟨aJ,_,pl,_⟩:=I.list hq
   refine ⟨pl.isList.typeIs,fun a e=>?_⟩
   cases e
   obtain ⟨o,n,e,c,hd,_⟩:=pl
   exact ⟨o,e,hd⟩
  ·refine ⟨⟨o,I.z5 p o hk,hc⟩,fun a e=>?_⟩
   cases e
   exact ⟨o,I.z5 _ o hk,hd⟩
  ·have z: ∃o,s.heap.get? p=some o/\o.ExactDict:=by
    rcases hk with ⟨aP,hk⟩ | ⟨aP,hk⟩
    ·obtain ⟨_,_,_,_,o,_,_,e,ex,_⟩:=I.bX p _ hk
     exact ⟨o,e,ex⟩
    ·obtain ⟨_,_,_,_,o,_,_,e,ex,_⟩:=I.bX p _ hk
     exact ⟨o,e,ex⟩
   obtain ⟨o,e,ex⟩:=z
   refine ⟨⟨o,e,ex.1⟩,fun a e2=>?_⟩
   cases e2
   exact ⟨o,e,ex.2.1⟩
  ·obtain ⟨o,_,_,_,e,ex,_⟩:=I.bX p _ hk
   refine ⟨⟨o,e,ex.1⟩,fun a e2=>?_⟩
   cases e2
   exact ⟨o,e,ex.2.1⟩
 | _=>exact False.elim ty
def MU (K:PySem.W.Frag) (T:String) (r:V->List V->Hp->VK->Prop) (to:TE):TE:=fun σ H Q=>to σ H fun x H1=>OP K T x H1/\r x [] H1 Q
def Su (K:PySem.W.Frag) (T:String) (r:V->List V->Hp->VK->Prop) (to:TE) (t:TA):TE:=fun σ H Q=>to σ H fun x H1=>OP K T x H1/\t σ H1 fun xs H2=>r x xs H2 Q
variable {o e:Expr} {es:List Expr} {to:TE} {t:TA} {name:Str} {apos fQ:Pos} {T id:String} {r:V->List V->Hp->VK->Prop}
theorem Io (pa:PlainAttrs T) (slot:Slot T name id) (Ip:typeOf (.builtin id)=pure (.type "method_descriptor")) (hm:Ai X id r) (ho:PE X o to)
  (kB:attributeBase o name X.env (eval o X.env)=eval o X.env:=by rfl) (jG:(apos.endLine==fQ.line)=true:=by rfl):PE X (.Call (.Attribute o name apos) [] [] fQ) (MU X.K T r to):=by
 intro pins s σ H Q I h
 refine wpAny_Call_method0_late kB jG (b8 (ho pins s σ H _ I h) fun v s1 ⟨x,H1,I1,r1,ty,q1⟩=>?_)
 obtain ⟨h1,h2⟩:=w5 I1 r1 ty
 exact ⟨T,id,pa,slot,Ip,h1,h2,Z2 rfl (PySem.evalArgs_none (hm pins s1 σ H1 x [] v [] Q I1 r1 .nil q1))⟩
theorem MV (pa:PlainAttrs T) (slot:Slot T name id) (Ip:typeOf (.builtin id)=pure (.type "method_descriptor")) (hm:Ai X id r) (ho:PE X o to) (ha:PA X (e::es) t)
  (kB:attributeBase o name X.env (eval o X.env)=eval o X.env:=by rfl)
  (Aj:((backTo fQ (starEach (e::es) X.env)).all (fun x=>!x.1)&&(backToKw fQ (keywordEach [] X.env)).all (fun x=>x.1.isSome)
   &&decide ((e::es).length+([]:List Keyword).length+(if ([]:List Keyword).isEmpty then 0 else 1)<30))=true:=by rfl)
  (jG:(apos.endLine==fQ.line)=true:=by rfl) (hs:starEach (e::es) X.env=(false,eval e X.env)::starEach es X.env:=by rfl) (w6:(backTo fQ (starEach es X.env)).any (·.1)=false:=by rfl):
  PE X (.Call (.Attribute o name apos) (e::es) [] fQ) (Su X.K T r to t):=by
 intro pins s σ H Q I h
 refine wpAny_Call_method_late kB Aj jG rfl (b8 (ho pins s σ H _ I h) fun v s1 ⟨x,H1,I1,r1,ty,q1⟩=>?_)
 obtain ⟨h1,h2⟩:=w5 I1 r1 ty
 refine ⟨T,id,pa,slot,Ip,h1,h2,?_⟩
 have hA:=ha fQ pins s1 σ H1 _ I1 q1
 rw[hs]at hA ⊢
 refine Z2 (by show (false||(backTo fQ (starEach es X.env)).any (·.1))=false;rw[w6]<;>rfl) (Calls.evalArgs_plain ?_)
 exact b8 hA fun us s2 ⟨vs,H2,I2,r2,q2⟩=>hm pins s2 σ H2 x vs v us Q I2 r1 r2 q2
end
def MW (X:Cx) (id:String) (r:V->List V->Hp->VK->Prop):Prop:=
 ∀(pins:List (Addr×Obj)) (s:Shared) (σ:St) (H:Hp) (x:V) (xs:List V) (v:Value) (us:List Value) (Q:VK),Inv X pins σ H s->RelV x v->Vals xs us->r x xs H Q->
  wpAny (model X.prog X.w) X.A (call (.builtin id) (v::us)) (EP X pins σ Q) X.xe s
theorem Vals.one: ∀{x:V} {us:List Value},Vals [x] us-> ∃u,us=[u]/\RelV x u
 | _,_, .cons r .nil=>⟨_,rfl,r⟩
theorem Vals.zero: ∀{us:List Value},Vals [] us->us=[]
 | _, .nil=>rfl
theorem Vals.dropLast {xs:List V} {us:List Value} (h:Vals xs us):Vals xs.dropLast us.dropLast:=by
 induction h with
 | nil=>exact .nil
 | cons r t ih=>
  cases t with
  | nil=>exact .nil
  | cons q t'=>exact .cons r ih
theorem Vals.eraseIdx: ∀{xs:List V} {us:List Value} (i:Nat),Vals xs us->Vals (xs.eraseIdx i) (us.eraseIdx i)
 | _,_,_, .nil=> .nil
 | _,_,0, .cons _ t=>t
 | _,_,i+1, .cons r t=> .cons r (Vals.eraseIdx i t)
theorem Vals.reverse {xs:List V} {us:List Value} (h:Vals xs us):Vals xs.reverse us.reverse:=by
 induction h with
 | nil=>exact .nil
 | cons r t ih=>rw[List.reverse_cons,List.reverse_cons];exact Vals.append ih (.cons r .nil)
theorem w9 {α:Type} (l:List α):l.eraseIdx (l.length - 1)=l.dropLast:=by
 induction l with
 | nil=>rfl
 | cons a r ih=>
  cases r with
  | nil=>rfl
  | cons b r=>
   have e:(a::b::r).length - 1=((b::r).length - 1)+1:=by
    have h1:(a::b::r).length=r.length+2:=rfl
    have h2:(b::r).length=r.length+1:=rfl
    omega
   rw[e,Y4,ih]
   all_goals rfl
theorem qJ {α:Type}: ∀(l:List α) (i:Nat),(l.eraseIdx i).length<=l.length
 | [],_=>OS _
 | _::_,0=>YJ _
 | _::r,i+1=>Yp (qJ r i)
section
variable {X:Cx} {pins:List (Addr×Obj)} {σ:St} {H:Hp} {s:Shared} {l b:Addr} {xs ys zs:List V}
theorem Inv.BM {aJ its':List Value} {n:Nat} {f:Array Value->Array Value} {t':Nat} (I:Inv X pins σ H s) (hH:H l=some (.lst xs))
  (e:s.heap.get? l=some { cls:= .type "list",data:= .seq aJ.toArray n }) (hf:f aJ.toArray=its'.toArray) (hv:Vals ys its') (hz:ys.length<=sizeLine):
  Inv X pins σ (upd H l (.lst ys)) { s with heap:=s.heap.update l (Obj.mapSeq f),toks:=t' }:=by
 have q:=PySem.IsL.update e f
 rw[hf]at q
 refine I.write (x:=l) (e:=l) (by rw[hH];exact trivial) (.inl rfl) (fun b' u hb hu=>(XO s.heap (Obj.mapSeq f) (Ne.symm hb)).trans hu) ⟨_,q⟩ ?_
 exact ⟨hz,its',_,hv,q⟩
theorem Inv.Qy {aJ:List Value} {t':Nat} (I:Inv X pins σ H s) (hv:Vals ys aJ) (hz:ys.length<=sizeLine):
  Inv X pins σ (upd H s.heap.objs.size (.lst ys)) { s with heap:=s.heap.push { cls:= .type "list",data:= .seq aJ.toArray },toks:=t' }:=
 I.laid (fun _ _ q=>Sy _ q) (OS _) ⟨hz,aJ,0,hv,Xq _ rfl⟩
theorem Inv.fresh (I:Inv X pins σ H s):H s.heap.objs.size=none:=I.bX.fresh (OS _)
theorem Inv.w_ (I:Inv X pins σ H s) (hH:H l=some (.lst xs)):xs.length<=sizeLine/\ ∃(aJ:List Value) (n:Nat),Vals xs aJ/\xs.length=aJ.length/\s.heap.get? l=some { cls:= .type "list",data:= .seq aJ.toArray n }:=by
 obtain ⟨z,aJ,n,r,e⟩:=I.bX l _ hH
 exact ⟨z,aJ,n,r,r.length,e⟩
end
section
variable {X:Cx}
def EY:V->List V->Hp->VK->Prop:=fun x vs H Q=> ∃l xs y,x= .ref l/\vs=[y]/\H l=some (.lst xs)/\xs.length<sizeLine/\Q .fB (upd H l (.lst (xs++[y])))
theorem eJ:MW X "list.append" EY:=by
 intro pins s σ H x vs v us Q I rx rv h
 obtain ⟨l,xs,y,rfl,rfl,hH,hz,q⟩:=h
 cases rx
 obtain ⟨u,rfl,ru⟩:=rv.one
 obtain ⟨z,aJ,n,r,hl,e⟩:=I.w_ hH
 refine call_meets F.slot_list_append ⟨_,e,rfl⟩ F.entry_list_append (F.args_list_append_2 _ _) (PySem.list_append l aJ.toArray n u (by rw[WM];omega)) ⟨e,?_⟩
 refine ⟨.fB,_,I.BM (its':=aJ++[u]) hH e (by simp) (r.append (.cons ru .nil)) ?_,rfl,q⟩
 rw[UD,List.length_singleton]
 omega
def Qz:V->List V->Hp->VK->Prop:=fun x vs H Q=> ∃l xs y,x= .ref l/\vs=[]/\H l=some (.lst xs)/\xs[xs.length - 1]? =some y/\Q y (upd H l (.lst xs.dropLast))
theorem Iq:MW X "list.pop" Qz:=by
 intro pins s σ H x vs v us Q I rx rv h
 obtain ⟨l,xs,y,rfl,rfl,hH,hy,q⟩:=h
 cases rx
 have Bs:=rv.zero
 subst Bs
 obtain ⟨z,aJ,n,r,hl,e⟩:=I.w_ hH
 obtain ⟨u,hu,ru⟩:=r.get hy
 have Uz:aJ.toArray[aJ.toArray.size - 1]? =some u:=by
  show aJ.toArray[aJ.length - 1]? =some u
  rw[<-Array.getElem?_toList, <-hl]
  exact hu
 refine call_meets F.slot_list_pop ⟨_,e,rfl⟩ F.entry_list_pop (F.args_list_pop_1 _) (MeetsSeq.list_pop_last l aJ.toArray n u Uz (by rw[WM];omega)) ⟨e,?_⟩
 refine ⟨y,_,I.BM (its':=aJ.dropLast) hH e ?_ r.dropLast ?_,ru,q⟩
 ·show aJ.toArray.eraseIdxIfInBounds (aJ.toArray.size - 1)=aJ.dropLast.toArray
  rw[WM,List.eraseIdxIfInBounds_toArray,w9]
 ·rw[List.length_dropLast]
  omega
def Ir:V->List V->Hp->VK->Prop:=fun x vs H Q=> ∃l xs i k y,x= .ref l/\vs=[.int i]/\H l=some (.lst xs)/\ -(2 ^ 63)<=i/\i<2 ^ 63/\seqIndex? i xs.length=some k/\xs[k]? =some y/\Q y (upd H l (.lst (xs.eraseIdx k)))
theorem kC:MW X "list.pop" Ir:=by
 intro pins s σ H x vs v us Q I rx rv h
 obtain ⟨l,xs,i,k,y,rfl,rfl,hH,h1,h2,hk,hy,q⟩:=h
 cases rx
 obtain ⟨u,rfl,ru⟩:=rv.one
 obtain ⟨t,rfl⟩:=ru
 obtain ⟨z,aJ,n,r,hl,e⟩:=I.w_ hH
 obtain ⟨w,hw,uV⟩:=r.get hy
 refine call_meets F.slot_list_pop ⟨_,e,rfl⟩ F.entry_list_pop (F.args_list_pop_2 _ _)
  (MeetsSeq.list_pop_at l aJ.toArray n i t k w (fitsIndex_both h1 h2) (by rw[WM, <-hl];exact hk) (by rw[<-Array.getElem?_toList];exact hw) (by rw[WM];omega)) ⟨e,?_⟩
 refine ⟨y,_,I.BM (its':=aJ.eraseIdx k) hH e ?_ (r.eraseIdx k) ?_,uV,q⟩
 ·show aJ.toArray.eraseIdxIfInBounds k=(aJ.eraseIdx k).toArray
  rw[List.eraseIdxIfInBounds_toArray]
 ·have:=qJ xs k
  omega
def BN:V->List V->Hp->VK->Prop:=fun x vs H Q=> ∃l xs,x= .ref l/\vs=[]/\H l=some (.lst xs)/\Q .fB (upd H l (.lst xs.reverse))
theorem xa:MW X "list.reverse" BN:=by
 intro pins s σ H x vs v us Q I rx rv h
 obtain ⟨l,xs,rfl,rfl,hH,q⟩:=h
 cases rx
 have Bs:=rv.zero
 subst Bs
 obtain ⟨z,aJ,n,r,hl,e⟩:=I.w_ hH
 refine call_meets F.slot_list_reverse ⟨_,e,rfl⟩ F.entry_list_reverse (F.args_list_reverse_1 _) (AutoSeq1.list_reverse_list_0 l aJ.toArray n (by rw[WM];omega)) ⟨e,?_⟩
 refine ⟨.fB,_,I.BM (its':=aJ.reverse) hH e (by simp) r.reverse ?_,rfl,q⟩
 rw[XB]
 omega
def QA:R2:=fun x y H Q=> ∃l b xs zs,x= .ref l/\y= .ref b/\H l=some (.lst xs)/\H b=some (.lst zs)/\xs.length+zs.length<=sizeLine/\ ∀p,H p=none->Q (.ref p) (upd H p (.lst (xs++zs)))
theorem BO:iE X (binaryOp .Add) QA:=by
 intro pins s σ H x y v u Q I rx ry h
 obtain ⟨l,b,xs,zs,rfl,rfl,hH,hB,hz,q⟩:=h
 cases rx
 cases ry
 obtain ⟨z,aJ,n,r,hl,e⟩:=I.w_ hH
 obtain ⟨z2,MX,n2,r2,Ak,e2⟩:=I.w_ hB
 refine PySem.P.add_list e e2 ?_ (by rw[WM,WM];omega)
 have ea:aJ.toArray++MX.toArray=(aJ++MX).toArray:=by simp
 rw[ea]
 exact ⟨.ref _,_,I.Qy (t':=s.toks) (r.append r2) (by rw[UD];omega),rfl,q _ I.fresh⟩
end
section
variable {prog:Program} {w:World} {A:Around} {E:Value->Shared->Prop} {s:Shared}
end
section
variable {X:Cx}
end
end L2
namespace Sv
open PySem PySem.W PySem.Calls PyProof.Rows
theorem m7 {P:Params} {h:Heap}: ∀(ns:List Int) (vs:List Value),WellAll P h vs (ns.map WData.int)->IntsAre vs ns:=by
 intro ns
 induction ns with
 | nil=>
  intro vs w
  rw[List.map_nil]at w
  cases w
  exact .nil
 | cons n ns ih=>
  intro vs w
  rw[Xw]at w
  cases w with
  | cons a b=>
   cases a
   exact .cons _ _ (ih _ b)
theorem Al {l:OpenLaw} {n:Nat} (hn:l.most=some n) {P:Params} {h:Heap} {args:List WData} {vals:List Value}
  (EZ:l.row.toRowW.claim.pre args=true) (xb:WellAll P h vals args):
  ∃a vs ns,vals=[Value.ref a]/\args=[WData.list (ns.map WData.int)]/\h.get? a=some { cls:= .type "list",data:= .seq vs.toArray }/\IntsAre vs ns/\ns.length<=n:=by
 have UA:WShape.hasAll [] args [.list .int]=true:=(pre_splitW EZ).1
 have hc:l.pre.holds [] { args:=args }=true:=(pre_splitW EZ).2
 obtain ⟨d,r,rfl,h1,h2⟩:=hasAllW_cons UA
 obtain rfl:=hasAllW_nil h2
 obtain ⟨xs,rfl,h3⟩:=hasW_list h1
 obtain ⟨ns,rfl⟩:=items_int h3
 have hlen:ns.length<=n:=by
  unfold OpenLaw.pre at hc
  have h4:(WTm.not (.lt (.lit (.int (n:Int))) (.len (.arg 0)))).holds [] { args:=[.list (ns.map .int)] }=true:=by
   have h4:=(holds_andW hc).1
   rw[hn]at h4
   exact h4
  have h5:=condW_of h4 (w_not (w_lt w_lit (w_len_list (w_arg rfl))))
  rw[Kw]at h5
  refine Qah fun q=>?_
  have q':(n:Int)<((ns.length:Nat):Int):=by omega
  first
   |(rw[decide_eq_true q']at h5;exact absurd h5 (by decide))
   |(simp at h5;omega)
 cases xb with
 | cons w1 w2=>
  cases w2
  cases w1 with
  | list ho QB=>exact ⟨_,_,ns,rfl,rfl,ho,m7 ns _ QB,hlen⟩
theorem Am (l:OpenLaw) (args:List WData):l.row.toRowW.claim.post args (.bool true) args=true:=
 postW_of (r:=l.row.toRowW) (X:=(true==true))
  (show WShape.has [] (.bool true) .bool=true by first | rfl | decide | simp[WShape.has,WShape.arms,WShape.armsAll])
  (show (WTm.eq .res (.lit (.bool true))).value [] { args:=args,res:=some (.bool true),after:=args }=some (.bool (true==true)) from w_eq_bool (w_res rfl) w_lit) rfl
theorem uW {l:OpenLaw} {n:Nat} {q:Program} {loose:List Str} {XP:(Str->Option Value)->Heap->Prop} {YP:World->Heap->Prop} {d:DefRec}
  (hn:l.most=some n) (MY:d.params.defaults=[])
  (call: ∀(w:World) (s₀ s₁:Shared) (mg mb:Str->Option Value) (fa:Addr) (o:Obj) (pm cd doc:Value) (a:Addr) (vs:List Value) (ns:List Int),
   Ground q loose [] XP w s₀ mg mb s₁.heap->YP w s₁.heap->
   s₁.heap.get? fa=some o->o.data= .func (docDef d.name d.params d.body d.scope pm cd doc)->s₁.heap.CodeRec cd d.name->mg d.name=some (.ref fa)->
   s₁.heap.get? a=some { cls:= .type "list",data:= .seq vs.toArray }->IntsAre vs ns->ns.length<=n->s₁.gens= #[]->
   codeAny (model l.prog w) callerA (.call (.ref fa) ⟨[.ref a],[]⟩) (fun r s'=>r= .ok (.ret (.bool true))/\OldK s₁.heap s'.heap/\s'.os=s₁.os/\AllBare s'.gens) s₁):
  WalkO q loose XP YP l.row.toRowW d [] (fun f vs=>PySem.call f vs):=by
 intro w s₀ s₁ mg mb G Y fa o pm cd doc dV kV ho hd m4 hD hmg hg args vals as EZ UB WK xb WL
 obtain rfl:dV= .none:=Dflts.none hD MY
 obtain rfl:kV= .none:=Dflts.noKw hD
 obtain ⟨a,vs,ns,rfl,rfl,Iu,hints,hlen⟩:=Al hn EZ xb
 refine enter_call (codeAny_mono (call w s₀ s₁ mg mb fa o pm cd doc a vs ns G Y ho (fd_plain hd) m4 hmg Iu hints hlen hg) fun r s' hq=>?_)
 obtain ⟨rfl,h2,h3,h4⟩:=hq
 exact ⟨.inl ⟨.bool true, .bool true,[],rfl,fun _=>rfl, .bool true,Am l _,fun _=>⟨List.Pairwise.nil,fun _ hm=>(nomatch hm)⟩⟩,h2,h3,h4⟩
section
variable {prog:Program} {w:World} {A:Around} {E:Value->Shared->Prop} {s:Shared} {K:Frag}
end
end Sv
namespace L2
open PySem PySem.Spec PyProof.Rows
theorem qK: ∀{vs:List Value} {ns:List Int},IntsAre vs ns->Vals (ns.map V.int) vs
 | _,_, .nil=> .nil
 | _,_, .cons n t h=> .cons ⟨t,rfl⟩ (qK h)
def Iv (H:Hp):Prop:= ∀b,H b=none\/ ∃o xs,H b=some (.Eg o (.lst xs))
theorem BP {P:Program} {w:World} {K:PySem.W.Frag} {mg mb:Str->Option Value} {CX:Af} {k:Nat} {fa a:Addr} {fd:FuncData} {x:Str} {sp:Sp} {s₁:Shared} {vs:List Value} {ns:List Int}
  (KX:K.In s₁.heap) (OQ:s₁.heap.Ns mainGlobals mg) (hb:s₁.heap.Ns builtinsNs mb) (UC: ∀x:Str,x≠"__name__"->mb x=bootBuiltins x) (QC:s₁.heap.NoLimit) (hg:s₁.gens= #[])
  (ha:s₁.heap.get? a=some { cls:= .type "list",data:= .seq vs.toArray }) (hi:IntsAre vs ns) (hl:ns.length<=sizeLine) (hr:eI k callerA)
  (F: ∀base:Heap,K.In base->base.Ns mainGlobals mg->bI P w K mg base CX k fa fd [x] sp) (MZ: ∀(s:Shared) (u:Value),BindsTo s fd ⟨[u],[]⟩ [(x,u)])
  (G5: ∀H:Hp,Iv H->bC K H a (ns.map V.int)->sp [.ref a] H (fun v _=>v= .bl true) fun _ _ _=>False)
  (QD: ∀H e s',CX [] H s₁ (fun _ _ _=>False) e s'->False):
  codeAny (model P w) callerA (.call (.ref fa) ⟨[.ref a],[]⟩) (fun r s'=>r= .ok (.ret (.bool true))/\OldK s₁.heap s'.heap/\s'.os=s₁.os/\AllBare s'.gens) s₁:=by
 have rv:=qK hi
 have QE:=hi.length
 -- from an abstract heap in Sw nothing but Ej script may be tracked
 have core: ∀H:Hp,Iv H->bC K H a (ns.map V.int)->jU P w H s₁.heap->(∀b,H b≠none->b=a)->(H a≠none->K.lookup a=none)->
   codeAny (model P w) callerA (.call (.ref fa) ⟨[.ref a],[]⟩) (fun r s'=>r= .ok (.ret (.bool true))/\OldK s₁.heap s'.heap/\s'.os=s₁.os/\AllBare s'.gens) s₁:=by
  intro H hO hS bX hA hK
  have yN: ∀{b:Addr} {o:Obj},s₁.heap.get? b=some o->H b=none->(rY s₁.heap H).get? b=some o:=fun e n=>BA e n
  have MN: ∀{b:Addr} {o:Obj} {es:Array DictEntry} {ep:Nat},s₁.heap.get? b=some o->o.data= .dict es ep->H b=none:=fun {b o es ep} e d=>by
   cases q:H b with
   | none=>rfl
   | some u=>
    have e':b=a:=hA b (by rw[q];simp)
    subst e'
    rw[ha]at e;cases e
    have d':Data.seq vs.toArray _=Data.dict es ep:=d
    cases d'
  have OR: ∀{b:Addr} {m:Str->Option Value},s₁.heap.Ns b m->(rY s₁.heap H).Ns b m:=fun {b m} ⟨o,es,ep,e,d,r⟩=>⟨o,es,ep,yN e (MN e d),d,r⟩
  have Sx:K.In (rY s₁.heap H):=fun b o e=>yN (KX b o e) (by
   cases q:H b with
   | none=>rfl
   | some u=>
    have e':b=a:=hA b (by rw[q];simp)
    subst e'
    rw[hK (by rw[q];simp)]at e;cases e)
  have hM:Mod K mg (rY s₁.heap H):=⟨Sx,OR OQ,⟨mb,OR hb,UC⟩,let ⟨mc,h1,h2⟩:=QC;⟨mc,OR h1,h2⟩⟩
  have e0:wY P w K mg (rY s₁.heap H) callerA [] s₁ H:=⟨rfl,hM,fun b o e=>EF e,Nat.le_of_eq (z4 _ _),trivial,fun b hb=>absurd (show b∈([]:List Addr) from hb) (by simp),bX, .of_eq hg⟩
  refine codeAny_mono ((F _ Sx (OR OQ)).run callerA [] s₁ H ⟨[.ref a],[]⟩ [.ref a] [.ref a] _ _ hr e0 (MZ s₁ (.ref a)) (.cons rfl .nil) (G5 H hO hS)) fun r s' h=>?_
  cases r with
  | error e=>exact (QD H e s' h).elim
  | ok fl=>
   cases fl with
   | next=>exact False.elim h
   | brk=>exact False.elim h
   | cont=>exact False.elim h
   | ret u=>
    obtain ⟨v,H',os,bare,un,QF,r',q⟩:=h
    have q':v= .bl true:=q
    subst q'
    obtain rfl:u=Value.bool true:=r'
    refine ⟨rfl,OldK.of_keep fun b o e=>?_,os,bare⟩
    cases q:H b with
    | none=>exact un.keep b o e q (by intro z;exact absurd (show b∈([]:List Addr) from z) (by simp)) (by simp)
    | some u=>
     rcases hO b with z | ⟨ob,xs,z⟩
     ·rw[q]at z;cases z
     ·have z2:=un.n5 b ob _ z
      obtain ⟨e1,_⟩:=bX b _ z
      obtain ⟨e2,_⟩:=QF b _ z2
      rw[e]at e1;cases e1
      exact e2
 cases hk:K.lookup a with
 | some o=>
  -- Ej script is one of Ej BL own objects
  have e:=KX a o hk
  rw[ha]at e
  cases e
  refine core (fun _=>none) (fun _=> .inl rfl) (.inr ⟨_,vs.toArray,_,hk,rfl,rfl,rfl,by rw[WM,QE];exact hl,by simpa using rv⟩) (fun b u z=>by have z':(none:Option HO)=some u:=z;cases z') (fun b z=>absurd rfl z) fun z=>absurd rfl z
 | none=>
  refine core (fun b=>if b=a then some (.Eg { cls:= .type "list",data:= .seq vs.toArray } (.lst (ns.map V.int))) else none) (fun b=>?_) (.inl (.inr ⟨{ cls:= .type "list",data:= .seq vs.toArray },if_pos rfl⟩)) (fun b u z=>?_) (fun b z=>?_) fun _=>hk
  ·by_cases hb:b=a
   ·exact .inr ⟨_,_,if_pos hb⟩
   ·exact .inl (if_neg hb)
  ·by_cases hb:b=a
   ·have z':=(if_pos hb).symm.trans z
    cases z'
    subst hb
    exact ⟨ha,by rw[Kw];exact hl,vs,_,rv,ha⟩
   ·have z':=(if_neg hb).symm.trans z
    cases z'
  ·by_cases hb:b=a
   ·exact hb
   ·exact absurd (if_neg hb) z
theorem yO {l:PySem.W.OpenLaw} {n k:Nat} {q:Program} {loose:List Str} {XP:(Str->Option Value)->Heap->Prop} {YP:World->Heap->Prop} {d:DefRec} {K:Params->PySem.W.Frag} {CX:World->Af} {sp:World->Sp} {x:Str}
  (hn:l.most=some n) (uR:n<=sizeLine) (MY:d.params.defaults=[]) (hr:eI k callerA)
  (hY: ∀(w:World) (h:Heap),YP w h->(K w.params).In h)
  (F: ∀(w:World) (mg:Str->Option Value) (fa:Addr) (h:Heap),(K w.params).In h->h.Ns mainGlobals mg->mg d.name=some (.ref fa)->
   ∃fd:FuncData,(∀(s:Shared) (u:Value),BindsTo s fd ⟨[u],[]⟩ [(x,u)])/\
    ∀base:Heap,(K w.params).In base->base.Ns mainGlobals mg->bI l.prog w (K w.params) mg base (CX w) k fa fd [x] (sp w))
  (G5: ∀(w:World) (H:Hp) (a:Addr) (ns:List Int),ns.length<=n->Iv H->bC (K w.params) H a (ns.map V.int)->sp w [.ref a] H (fun v _=>v= .bl true) fun _ _ _=>False)
  (QD: ∀(w:World) (H:Hp) (s:Shared) (e:Value) (s':Shared),CX w [] H s (fun _ _ _=>False) e s'->False):
  PySem.W.WalkO q loose XP YP l.row.toRowW d [] (fun f vs=>PySem.call f vs):=by
 refine Sv.uW hn MY fun w s₀ s₁ mg mb fa o pm cd doc a vs ns G Y ho hd m4 hmg Iu hints hlen hg=>?_
 have KX:=hY w _ Y
 obtain ⟨fd,hb,hF⟩:=F w mg fa _ KX G.T.g hmg
 exact BP KX G.T.g G.T.b G.T.builtins G.T.nolimit hg Iu hints (XM hlen uR) hr hF hb (fun H hO hS=>G5 w H a ns hlen hO hS) fun H e s'=>QD w H s₁ e s'
noncomputable def fH (s:Stmt):Arguments:=match s with
 | .FunctionDef _ a _ _ _ _ _ _ _ _=>a
 | _=>{ posonlyargs:=[],args:=[],vararg:=none,kwonlyargs:=[],kw_defaults:=[],kwarg:=none,defaults:=[] }
noncomputable def eS (s:Stmt):List Stmt:=match s with
 | .FunctionDef _ _ b _ _ _ _ _ _ _=>b
 | _=>[]
noncomputable def ar (s:Stmt):Scope:=match s with
 | .FunctionDef _ _ _ _ _ _ sc _ _ _=>sc
 | _=>{ kind:= .function,names:=[],isGenerator:=false,isCoroutine:=false }
abbrev fj:Af:=fun _ _ _ _ _ _=>False
abbrev E0:XK:=fun _ _ _=>False
theorem az {X:Cx}:Passes fj X E0:=fun _ _ _ _ _ _ _ h=>h.elim
structure E1 (K:PySem.W.Frag) (x qual:Str) (st:Stmt) (f:Addr) (fd:FuncData):Prop where
 ex: ∃(oc:Value) (od:Option Addr) (kV doc pm:Value) (an:Option Addr) (cJ ct:Value) (El:Array (Option Value)),
  fd=PySem.W.fnOf x qual (fH st) (eS st) (ar st) .none kV doc pm an cJ ct/\K.lookup f=some ⟨oc,od, .func fd,El⟩/\PySem.W.codeIn K cJ qual=true
 kp:PySem.W.keepIn K (.ref f)=true
section
variable {P:Program} {w:World} {K:PySem.W.Frag} {mg:Str->Option Value} {base:Heap}
theorem E1.ok {x qual:Str} {st:Stmt} {f:Addr} {fd:FuncData} {N ps:List Str} {k:Nat} {sp:Sp} (F:E1 K x qual st f fd) (S:aF N ps (ar st)) (len: ∀vs H Q E,sp vs H Q E->vs.length=ps.length)
  (BJ: ∀(cJ:Value) (A:Around) (outer:List Env) (s:Shared) (H:Hp) (vs:List V) (Q:VK) (E:XK),eI k (A.deeper (envOfC qual (ar st) s.heap.objs.size f cJ))->sp vs H Q E->
   ∃t,wM (Ag fj P w K mg base N qual (ar st) f cJ A outer s H E).OJ (eS st) t/\t { nx:=fun _ H'=>Q .fB H',rt:=Q } (start N vs) H):bI P w K mg base fj (k+1) f fd ps sp:=by
 obtain ⟨oc,od,kV,doc,pm,an,cJ,ct,El,rfl,lk,m4⟩:=F.ex
 refine MO lk m4 S len fun A outer s H vs Q E hr G5=>?_
 obtain ⟨t,h,q⟩:=BJ cJ A outer s H vs Q E hr G5
 exact ⟨t,h.OJ,q⟩
theorem E1.binds {x qual:Str} {st:Stmt} {f:Addr} {fd:FuncData} {ps:List Str} (F:E1 K x qual st f fd)
  (h: ∀(kV doc pm:Value) (an:Option Addr) (cJ ct:Value) (us:List Value),us.length=ps.length->bindArgs (PySem.W.fnOf x qual (fH st) (eS st) (ar st) .none kV doc pm an cJ ct) ⟨us,[]⟩=pure (ps.zip us)):Binds K fd ps []:=by
 obtain ⟨oc,od,kV,doc,pm,an,cJ,ct,El,rfl,lk,m4⟩:=F.ex
 exact .all (h kV doc pm an cJ ct)
theorem xc {x qual:Str} {st:Stmt} {f:Addr} {oc:Value} {od an:Option Addr} {El:Array (Option Value)} {kV doc pm cJ ct:Value} (l:K.lookup f=some ⟨oc,od, .func (PySem.W.fnOf x qual (fH st) (eS st) (ar st) .none kV doc pm an cJ ct),El⟩)
  (c:PySem.W.codeIn K cJ qual=true) (k:PySem.W.keepIn K (.ref f)=true):E1 K x qual st f (PySem.W.fnOf x qual (fH st) (eS st) (ar st) .none kV doc pm an cJ ct):=⟨⟨oc,od,kV,doc,pm,an,cJ,ct,El,rfl,l,c⟩,k⟩
end
theorem iL {A:Around} {k:Nat} (hr:eI k A):A.units+1<cLine:=XN (Nat.add_le_add_left (by decide:1<=64) _) hr.units
section
variable {X:Cx}
theorem pv (i:Nat) {x:Str} {pos:Pos} (hN:X.N[i]? =some x:=by rfl) (hv:Mf X.env.scope x:=by first | exact Or.inl rfl | exact Or.inr (Or.inl rfl) | exact Or.inr (Or.inr rfl)) (hd:(x==("__debug__":Str))=false:=by decide)
  (m4:(x==("__classdict__":Str))=false:=by decide):PE X (.Name x pos) (HN i):=HP hN hv hd m4
end
theorem xf {A B:Prop} (h:B):if false=true then A else B:=by
 rw[if_neg Xv]
 exact h
theorem Iz {A B:Prop} (h:A):if true=true then A else B:=by
 rw[if_pos rfl]
 exact h
theorem b5 {c A B:Prop} [Decidable c] (h1:c->A) (h2: ¬c->B):if c then A else B:=by
 by_cases h:c
 ·rw[if_pos h]
  exact h1 h
 ·rw[if_neg h]
  exact h2 h
def aq (H H':Hp):Prop:= ∀b o,H b=some o->H' b=some o
theorem aq.refl (H:Hp):aq H H:=fun _ _ h=>h
theorem aq.trans {H H1 H2:Hp} (a:aq H H1) (b:aq H1 H2):aq H H2:=fun c o h=>b c o (a c o h)
theorem aq.free {H H':Hp} (e:aq H H') {l:Addr} (h:H' l=Option.none):H l=Option.none:=by
 cases q:H l with
 | none=>rfl
 | some o=>
  rw[e l o q]at h
  cases h
theorem aq.seq {K:PySem.W.Frag} {H H':Hp} {a:Addr} {xs:List V} (e:aq H H') (h:bC K H a xs):bC K H' a xs:=by
 rcases h with (h | ⟨o,h⟩) | h
 ·exact .inl (.inl (e _ _ h))
 ·exact .inl (.inr ⟨o,e _ _ h⟩)
 ·exact .inr h
noncomputable def iw (env:Env):List (Str×NameKind)->List (Str×Addr)->List (Str×Addr)
 | [],acc=>acc
 |(n,k)::r,acc=>iw env r (if k== .free then (match env.cells.lookup n with | some a=>(n,a)::acc | none=>acc) else acc)
theorem fq {env:Env}: ∀(names:List (Str×NameKind)) (acc:List (Str×Addr)),(∀y∈names,y.2= .free-> ∃c,env.cells.lookup y.1=some c)->
  (forIn names acc fun (x:Str×NameKind) (cs:List (Str×Addr))=>(if (x.2==NameKind.free)=true then do let a <-cellOf env x.1;pure (ForInStep.yield ((x.1,a)::cs)) else pure (ForInStep.yield cs):Sem (ForInStep (List (Str×Addr)))))=pure (iw env names acc)
 | [],acc,_=>rfl
 |(n,k)::r,acc,h=>by
  rw[Zg]
  have hr: ∀y∈r,y.2= .free-> ∃c,env.cells.lookup y.1=some c:=fun y hy=>h y (WN _ hy)
  cases hk:(k==NameKind.free) with
  | false=>
   have e1:iw env ((n,k)::r) acc=iw env r acc:=by
    show iw env r (if (k==NameKind.free)=true then (match env.cells.lookup n with | some a=>(n,a)::acc | none=>acc) else acc)=_
    rw[hk,if_neg Xv]
   rw[e1, <-fq r acc hr]
   simp only[hk,YN,if_false,pure_bind]
  | true=>
   obtain ⟨c,hc⟩:=h (n,k) Xp (by simpa using hk)
   have e1:iw env ((n,k)::r) acc=iw env r ((n,c)::acc):=by
    have nG:env.cells.lookup n=some c:=hc
    show iw env r (if (k==NameKind.free)=true then (match env.cells.lookup n with | some a=>(n,a)::acc | none=>acc) else acc)=_
    rw[hk,nG,if_pos rfl]
   have e2:cellOf env n=pure c:=by
    have nG:env.cells.lookup n=some c:=hc
    unfold cellOf
    rw[nG]
   rw[e1, <-fq r ((n,c)::acc) hr]
   simp only[hk,if_true,e2,pure_bind]
theorem jH {scope:Scope} {env:Env} (h: ∀y∈scope.names,y.2= .free-> ∃c,env.cells.lookup y.1=some c):closureFor scope env=pure (iw env scope.names []):=by
 have e:=fq scope.names [] h
 simp only[closureFor]
 rw[e]
 rfl
theorem lS {env:Env} {x:Str} {c:Addr}: ∀(names:List (Str×NameKind)) (acc:List (Str×Addr)),(∀y d,acc.lookup y=some d->env.cells.lookup y=some d)->(iw env names acc).lookup x=some c->env.cells.lookup x=some c
 | [],acc,ha,h=>ha x c h
 |(n,k)::r,acc,ha,h=>by
  refine lS r _ (fun y d q=>?_) h
  by_cases hk:(k==NameKind.free)=true
  ·rw[if_pos hk]at q
   cases e:env.cells.lookup n with
   | none=>rw[e]at q;exact ha y d q
   | some a=>
    rw[e]at q
    have q':List.lookup y ((n,a)::acc)=some d:=q
    rw[XX]at q'
    cases hy:(y==n) with
    | true=>
     rw[hy]at q'
     have:y=n:=by simpa using hy
     subst this
     rw[e];exact q'
    | false=>rw[hy]at q';exact ha y d q'
  ·rw[if_neg hk]at q;exact ha y d q
theorem uX {env:Env} {x:Str}: ∀(names:List (Str×NameKind)) (acc:List (Str×Addr)),(∃c,acc.lookup x=some c)-> ∃c,(iw env names acc).lookup x=some c
 | [],acc,h=>h
 |(n,k)::r,acc,⟨c,hc⟩=>by
  refine uX r _ ?_
  by_cases hk:(k==NameKind.free)=true
  ·rw[if_pos hk]
   cases e:env.cells.lookup n with
   | none=>exact ⟨c,hc⟩
   | some a=>
    show ∃c,List.lookup x ((n,a)::acc)=some c
    rw[XX]
    cases hy:(x==n) with
    | true=>exact ⟨a,rfl⟩
    | false=>exact ⟨c,hc⟩
  ·rw[if_neg hk];exact ⟨c,hc⟩
theorem oj {env:Env} {x:Str}: ∀(names:List (Str×NameKind)) (acc:List (Str×Addr)),(∀y∈names,y.2= .free-> ∃c,env.cells.lookup y.1=some c)->names.lookup x=some .free-> ∃c,(iw env names acc).lookup x=some c
 | [],acc,_,h=>by simp at h
 |(n,k)::r,acc,hf,h=>by
  have hr: ∀y∈r,y.2= .free-> ∃c,env.cells.lookup y.1=some c:=fun y hy=>hf y (WN _ hy)
  rw[XX]at h
  cases hy:(x==n) with
  | true=>
   rw[hy]at h
   have hk:k= .free:=Xr h
   subst hk
   have hx:x=n:=by simpa using hy
   subst hx
   obtain ⟨c,hc⟩:=hf (x, .free) Xp rfl
   have nG:env.cells.lookup x=some c:=hc
   refine uX r _ ⟨c,?_⟩
   rw[if_pos (show (NameKind.free==NameKind.free)=true by decide),nG]
   show List.lookup x ((x,c)::acc)=some c
   rw[XX]
   simp
  | false=>
   rw[hy]at h
   exact oj r _ hr h
theorem kD {env:Env}: ∀{names:List (Str×NameKind)} {x:Str},names.lookup x=some .free->
  ((names.map fun (n,k)=>if (k==NameKind.free&&env.scope.kind== .function&&env.kindOf n==some .cell) then (n,NameKind.cell) else (n,k)).lookup x=some .cell\/
   (names.map fun (n,k)=>if (k==NameKind.free&&env.scope.kind== .function&&env.kindOf n==some .cell) then (n,NameKind.cell) else (n,k)).lookup x=some .free)
 | [],_,h=>by simp at h
 |(n,k)::r,x,h=>by
  have ih:= @kD env r x
  show (List.lookup x ((if (k==NameKind.free&&env.scope.kind== .function&&env.kindOf n==some .cell)=true then (n,NameKind.cell) else (n,k))::_)=_\/List.lookup x ((if (k==NameKind.free&&env.scope.kind== .function&&env.kindOf n==some .cell)=true then (n,NameKind.cell) else (n,k))::_)=_)
  cases hx:x==n with
  | true=>
   simp only[XX,hx]at h
   cases h
   by_cases hc:((NameKind.free==NameKind.free)&&env.scope.kind== .function&&env.kindOf n==some .cell)=true
   ·rw[if_pos hc];simp[XX,hx]
   ·rw[if_neg hc];simp[XX,hx]
  | false=>
   simp only[XX,hx]at h
   by_cases hc:(k==NameKind.free&&env.scope.kind== .function&&env.kindOf n==some .cell)=true
   ·rw[if_pos hc];simp only[XX,hx];exact ih h
   ·rw[if_neg hc];simp only[XX,hx];exact ih h
theorem kE {env:Env}: ∀{names:List (Str×NameKind)} {x:Str},(∀y∈names,y.2≠ .cell)->
  ((names.map fun (n,k)=>if (k==NameKind.free&&env.scope.kind== .function&&env.kindOf n==some .cell) then (n,NameKind.cell) else (n,k)).lookup x=some .cell\/
   (names.map fun (n,k)=>if (k==NameKind.free&&env.scope.kind== .function&&env.kindOf n==some .cell) then (n,NameKind.cell) else (n,k)).lookup x=some .free)->names.lookup x=some .free
 | [],_,_,h=>by simp at h
 |(n,k)::r,x,hn,h=>by
  have ih:= @kE env r x (fun y hy=>hn y (WN _ hy))
  have hk:=hn (n,k) Xp
  have h':(List.lookup x ((if (k==NameKind.free&&env.scope.kind== .function&&env.kindOf n==some .cell)=true then (n,NameKind.cell) else (n,k))::(r.map fun (n,k)=>if (k==NameKind.free&&env.scope.kind== .function&&env.kindOf n==some .cell) then (n,NameKind.cell) else (n,k)))=some .cell\/List.lookup x ((if (k==NameKind.free&&env.scope.kind== .function&&env.kindOf n==some .cell)=true then (n,NameKind.cell) else (n,k))::(r.map fun (n,k)=>if (k==NameKind.free&&env.scope.kind== .function&&env.kindOf n==some .cell) then (n,NameKind.cell) else (n,k)))=some .free):=h
  cases hx:x==n with
  | true=>
   rw[XX,hx]
   by_cases hc:(k==NameKind.free&&env.scope.kind== .function&&env.kindOf n==some .cell)=true
   ·have:(k==NameKind.free)=true:=by
     rw[X8,X8]at hc;exact hc.1.1
    have IA:k= .free:=by simpa using this
    rw[IA]
   ·rw[if_neg hc]at h'
    simp only[XX,hx]at h'
    rcases h' with h' | h'
    ·exact absurd (Xr h') hk
    ·exact h'
  | false=>
   rw[XX,hx]
   by_cases hc:(k==NameKind.free&&env.scope.kind== .function&&env.kindOf n==some .cell)=true
   ·rw[if_pos hc]at h';simp only[XX,hx]at h';exact ih h'
   ·rw[if_neg hc]at h';simp only[XX,hx]at h';exact ih h'
abbrev En:Value->Shared->Prop:=fun _ _=>False
theorem sE {prog:Program} {w:World} {A:Around} {R:Result->Shared->Prop} {s:Shared} {elt target iter:Expr} {ifs:List Expr} {scope:Scope} {pos:Pos} {it acc:Value} {env:Env} (I:Nat->Shared->Prop)
  (turn: ∀n s,I n s->wpAny (model prog w) A (pyNext it) (fun r s₁=>match r with
   | none=>R (.ok .next) s₁
   | some v=>wpAny (model prog w) A (letOwnedTupleGo target it v) (fun _ SE=>wpAny (model prog w) A (assign target env v) (fun _ s₂=>
     wpAny (model prog w) A (forIn ifs true fun c r=>if r=true then do let ok <-isTrue c env (eval c env);pure (ForInStep.yield ok) else pure (ForInStep.yield r)) (fun ok s₃=>
      if ok=true then wpAny (model prog w) A (eval elt env) (fun x s₄=>
       wpAny (model prog w) A (call (.builtin "list.append") [acc,x]) (fun _ s₅=> ∃m,m<n/\I m s₅) En s₄) En s₃
      else ∃m,m<n/\I m s₃) En s₂) En SE) En s₁) En s)
  (n:Nat) (h:I n s):codeAny (model prog w) A (.compLoop (.ListComp elt [⟨target,iter,ifs,0⟩] scope pos) 0 it acc env) R s:=by
 refine codeAny_loop rfl I (fun n s hI=>?_) n h
 show wpAny _ A ((compTurn (.ListComp elt [⟨target,iter,ifs,0⟩] scope pos) 0 it acc env).onRaise (fun x=>do noteFrame x env;theTreesLotGoes x)) _ _ s
 refine wpAny_noted ?_
 rw[compTurn_list]
 have no: ∀{F:Value->Shared->Prop} (e:Value) (s':Shared),En e s'->F e s':=fun _ _ h=>h.elim
 refine wpAny_bind (wpAny_standAt (wpAny_bind (wpAny_mono (turn n s hI) (fun r s₁ h₁=>?_) no)))
 cases r with
 | none=>exact wpAny_pure h₁
 | some v=>
  refine wpAny_bind (wpAny_mono h₁ (fun _ SE UJ=>?_) no)
  refine wpAny_bind (wpAny_mono UJ (fun _ s₂ h₂=>wpAny_bind (wpAny_mono h₂ (fun ok s₃ h₃=>?_) no)) no)
  cases ok with
  | false=>exact wpAny_pure ⟨rfl,h₃⟩
  | true=>
   exact wpAny_bind (wpAny_bind (wpAny_mono h₃ (fun x s₄ h₄=>wpAny_bind (wpAny_mono h₄ (fun _ s₅ h₅=>wpAny_pure (wpAny_pure ⟨rfl,h₅⟩)) no)) no))
noncomputable def bP (X:Cx) (scope:Scope) (C:Addr) (Nc:List Str) (s:Shared) (H:Hp) (fp:List Addr):Cx where
 prog:=X.prog
 w:=X.w
 K:=X.K
 mg:=X.mg
 base:=X.base
 A:=X.A
 N:=Nc
 s₀:=s
 H₀:=H
 env:=compEnvC scope (iw X.env scope.names []) C X.env
 outer:=X.stack
 stack:=X.stack
 ex:=fp
 fn:=fun _=>false
 calm:=X.calm
 pn:=[]
 xe:=En
def jB (X:Cx) (scope:Scope):List Str->List (Option Nat)->Prop
 | [],[]=>True
 | _::ys,none::os=>jB X scope ys os
 | y::ys,some j::os=>(X.N[j]? =some y/\scope.names.lookup y=some .free/\(X.env.kindOf y=some .cell\/X.env.kindOf y=some .free))/\jB X scope ys os
 | _,_=>False
noncomputable def kF (σ:St) (ix:List (Option Nat)):St:=ix.map fun o=>match o with | none=>none | some j=>(σ[j]?).getD none
def Wk:St->St->Prop
 | [],[]=>True
 | none::a,_::b=>Wk a b
 | some v::a,w::b=>w=some v/\Wk a b
 | _,_=>False
theorem Wk.len: ∀{a b:St},Wk a b->a.length=b.length
 | [],[],_=>rfl
 | none::a,_::b,h=>congrArg (· +1) (Wk.len (a:=a) (b:=b) h)
 | some _::a,_::b,h=>congrArg (· +1) (Wk.len (a:=a) (b:=b) h.2)
theorem Wk.get: ∀{a b:St} {i:Nat} {v:V},Wk a b->a[i]? =some (some v)->b[i]? =some (some v)
 | [],[],i,v,_,h=>by simp at h
 | none::a,x::b,0,v,_,h=>by simp at h
 | none::a,x::b,i+1,v,k,h=>by
  have:=Wk.get (a:=a) (b:=b) (i:=i) (v:=v) k (by simpa using h)
  simpa using this
 | some y::a,x::b,0,v,k,h=>by
  have e:y=v:=by simpa using h
  subst e
  simp[k.1]
 | some y::a,x::b,i+1,v,k,h=>by
  have:=Wk.get (a:=a) (b:=b) (i:=i) (v:=v) k.2 (by simpa using h)
  simpa using this
theorem jB.len {X:Cx} {scope:Scope}: ∀{N:List Str} {ix:List (Option Nat)},jB X scope N ix->ix.length=N.length
 | [],[],_=>rfl
 | _::ys,none::os,h=>congrArg (· +1) (jB.len (N:=ys) (ix:=os) h)
 | _::ys,some _::os,h=>congrArg (· +1) (jB.len (N:=ys) (ix:=os) h.2)
theorem jB.get {X:Cx} {scope:Scope}: ∀{N:List Str} {ix:List (Option Nat)} {i j:Nat},jB X scope N ix->ix[i]? =some (some j)-> ∃y,N[i]? =some y/\X.N[j]? =some y/\scope.names.lookup y=some .free/\(X.env.kindOf y=some .cell\/X.env.kindOf y=some .free)
 | [],[],i,j,_,h=>by simp at h
 | y::ys,none::os,0,j,_,h=>by simp at h
 | y::ys,none::os,i+1,j,k,h=>by
  obtain ⟨z,h1,h2⟩:=jB.get (N:=ys) (ix:=os) (i:=i) (j:=j) k (by simpa using h)
  exact ⟨z,by simpa using h1,h2⟩
 | y::ys,some j'::os,0,j,k,h=>by
  have e:j'=j:=by simpa using h
  subst e
  exact ⟨y,by simp,k.1⟩
 | y::ys,some j'::os,i+1,j,k,h=>by
  obtain ⟨z,h1,h2⟩:=jB.get (N:=ys) (ix:=os) (i:=i) (j:=j) k.2 (by simpa using h)
  exact ⟨z,by simpa using h1,h2⟩
theorem An {σ:St} {ix:List (Option Nat)} {i:Nat} {v:V} (h:(kF σ ix)[i]? =some (some v)): ∃j,ix[i]? =some (some j)/\σ[j]? =some (some v):=by
 unfold kF at h
 rw[Xo]at h
 cases e:ix[i]? with
 | none=>rw[e]at h;cases h
 | some o=>
  rw[e]at h
  cases o with
  | none=>cases h
  | some j=>
   refine ⟨j,rfl,?_⟩
   have h':some ((σ[j]?).getD none)=some (some v):=h
   cases q:σ[j]? with
   | none=>rw[q]at h';cases h'
   | some z=>rw[q]at h';cases h';rfl
theorem xg {X:Cx} {pins:List (Addr×Obj)} {σ:St} {H:Hp} {s:Shared} (I:Inv X pins σ H s) {scope:Scope} {Nc:List Str} {ix:List (Option Nat)} (xh:jB X scope Nc ix) (gH: ∀y∈scope.names,y.2≠ .cell)
  (hW:scope.kind= .function) (E2: ∀y∈scope.names,y.2= .free->X.env.kindOf y.1=some .cell\/X.env.kindOf y.1=some .free) {fp:List Addr} (hf: ∀b∈fp,m5 X pins H b) (M0: ∀b∈fp, ∃o,s.heap.get? b=some o)
  {C:Addr} {h':Heap} {t':Nat} {m0:Str->Option Value} (hC:s.heap.objs.size<=C) (OQ:h'.Ns C m0) (k: ∀b o,s.heap.get? b=some o->h'.get? b=some o):
  Inv (bP X scope C Nc s H fp) [] (kF σ ix) H { s with heap:=h',toks:=t' }:=by
 have Kx: ∀y∈scope.names,y.2= .free-> ∃c,X.env.cells.lookup y.1=some c:=fun y hy e=>I.ok.has y.1 (E2 y hy e)
 have kG: ∀{x:Str} {c:Addr},(iw X.env scope.names []).lookup x=some c->X.env.cells.lookup x=some c:=fun {x c} e=>lS scope.names [] (fun y d q=>by simp at q) e
 refine ⟨⟨I.ok.mod,hW,I.ok.glob,I.ok.blt,hC,fun x y c h1 h2=>I.ok.inj x y c (kG h1) (kG h2),fun x hx=>?_,fun x c h=>?_,I.ok.hd,I.ok.frames, .inl rfl,fun b hb=>?_,I.bs,XM I.ok.EG I.sz,fun b o e hb=>?_,fun b hb hs=>?_,I.stack,I.yD⟩,
  rfl,I.bare,Un.kept k,⟨m0,OQ,fun i x v h1 h2 h3=>?_⟩,fun x c e=>?_,I.bX.fresh hC,fun x c e=>I.iH x c (kG e),fun p hp=>absurd (show p∈([]:List (Addr×Obj)) from hp) (by simp),I.bX.kept k,?_⟩
 ·have Ky:scope.names.lookup x=some .free:=kE gH hx
  exact oj scope.names [] Kx Ky
 ·exact absurd (show false=true from h) (by decide)
 ·refine ⟨?_,fun x c e=>(hf b hb).2.2.2.2.1 x c (kG e)⟩
  obtain ⟨o,ho⟩:=M0 b hb
  exact Xy (XD (Xs ho) hC)
 ·rcases (hf b hb).2.2.2.1 with z | z
  ·exact I.ok.BB b o e z
  ·exact absurd (XD (Xs e) (XM I.ok.EG z)) (XY _)
 ·rcases UE.mp (I.n6 b hs) with z | z
  ·exact (hf b hb).2.1 z
  ·exact (hf b hb).2.2.1 z
 ·obtain ⟨j,e1,e2⟩:=An h2
  obtain ⟨y,y1,y2,y3,y4⟩:=xh.get e1
  have SF:Nc[i]? =some x:=h1
  rw[y1]at SF
  cases SF
  obtain ⟨m,hn,hl⟩:=I.loc
  have hv:Mf X.env.scope x:=by
   rcases y4 with z | z
   ·exact .inr (.inl z)
   ·exact .inr (.inr z)
  obtain ⟨u,r,l⟩:=hl j x v y2 e2 hv
  refine ⟨u,r, .inr ⟨kD y3,?_⟩⟩
  rcases l with ⟨l,_⟩ | ⟨_,c,hc,q⟩
  ·rcases y4 with z | z
   ·rw[z]at l;cases l
   ·rw[z]at l;cases l
  ·obtain ⟨c',nG⟩:=oj scope.names [] Kx y3
   have e:=kG nG
   rw[hc]at e
   cases e
   obtain ⟨o,ho,hd⟩:=q
   exact ⟨c,nG,o,k _ _ ho,hd⟩
 ·obtain ⟨v,o,ho,hd⟩:=I.cell x c (kG e)
  exact ⟨v,o,k _ _ ho,hd⟩
 ·show (kF σ ix).length=Nc.length
  unfold kF
  rw[Kw]
  exact xh.len
theorem Ao {X:Cx} {pins yF:List (Addr×Obj)} {σ σ':St} {H H':Hp} {s s':Shared} (I:Inv X pins σ H s) {scope:Scope} {Nc:List Str} {fp:List Addr} {C D:Addr} (J:Inv (bP X scope C Nc s H fp) yF σ' H' s')
  (hf: ∀b∈fp,m5 X pins H b) (hD:s.heap.objs.size<=D) (hC:s.heap.objs.size<=C) (IB:D≠C) {aJ:List Value} {n:Nat} {acc:List V} (eD:s'.heap.get? D=some { cls:= .type "list",data:= .seq aJ.toArray n }) (r:Vals acc aJ)
  (hz:acc.length<=sizeLine) (nD:H' D=none) {oC:Obj} (eC:s'.heap.get? C=some oC) (dC: ∀v,oC.data≠ .cell v):Inv X (pins++[(C,oC)]) σ (upd H' D (.lst acc)) s':=by
 have lt: ∀b o,s.heap.get? b=some o->b≠D:=fun b o e=>Xy (XD (Xs e) hD)
 have U:Un (yC X.stack) fp H H' s.heap s'.heap:=J.base
 have U':Un (yC X.stack) fp H (upd H' D (.lst acc)) s.heap s'.heap:=
  ⟨U.keep,U.slot,fun b o e n hx=>by rw[au (lt b o e)];exact U.free b o e n hx,U.there,fun b xs e=>by rw[au (ay (U.qa b xs e) nD)];exact U.qa b xs e,
   fun b o u e=>by rw[au (ay (U.n5 b o u e) nD)];exact U.n5 b o u e,fun b ps e=>by
    obtain ⟨more,q⟩:=U.rX b ps e
    exact ⟨more,by rw[au (ay q nD)];exact q⟩⟩
 have bX:jU X.prog X.w (upd H' D (.lst acc)) s'.heap:=fun b u e=>by
  by_cases hb:b=D
  ·subst hb
   rw[ah]at e;cases e
   exact ⟨hz,aJ,n,r,eD⟩
  ·rw[au hb]at e
   exact (J.bX b u e).uK (fun c v _ q=>q) (fun c q=>by rw[au (ay q nD)];exact q) fun c xs q=>by rw[au (ay q nD)];exact q
 have I':Inv X pins σ (upd H' D (.lst acc)) s':=I.Ml (ch:=fp) J.os U' bX J.bare fun b hb=>by
  obtain ⟨_,h1,_,h2,h3,h4⟩:=hf b hb
  exact ⟨h2,h1,h3,h4⟩
 refine I'.kx fun p hp=>?_
 rcases Xn.mp hp with z | z
 ·exact I'.pin p (XC _ z)
 ·have e:p=(C,oC):=Sz.mp z
  subst e
  refine ⟨eC,?_,ZK (XD I.lt hC),I.HK hC,dC⟩
  rw[au (Ne.symm IB)]
  exact J.free
def PF (Y:Cx) (ifs:List Expr) (tc:TT):Prop:=
 ∀(pins:List (Addr×Obj)) (s:Shared) (σ:St) (H:Hp) (Q:Bool->Hp->Prop),Inv Y pins σ H s->tc σ H Q->
  wpAny (model Y.prog Y.w) Y.A (forIn ifs true fun c r=>if r=true then do let ok <-isTrue c Y.env (eval c Y.env);pure (ForInStep.yield ok) else pure (ForInStep.yield r)) (TP Y pins σ Q) Y.xe s
def M1:TT:=fun _ H Q=>Q true H
theorem gx {Y:Cx}:PF Y [] M1:=fun _ _ _ H _ I h=>wpAny_tests_nil ⟨H,I,h⟩
theorem BQ {Y:Cx} {c:Expr} {tc:TT} (h:PT Y c tc):PF Y [c] tc:=fun pins s σ H Q I hw=>wpAny_tests_one (h pins s σ H Q I hw)
def qL (J:It) (σc:St) (g:TG) (tc:TT) (te:TE) (Q:VK) (H1:Hp):Prop:=
 ∃W:Nat->Nat->List V->Hp->Prop,(∃m,W 0 m [] H1)/\ ∀i m acc H,W i m acc H->acc.length<sizeLine/\
 ((J.stop i H/\ ∀D,H D=none->Q (.ref D) (upd H D (.lst acc)))\/
  (J.go i H/\ ∀x H',J.Br i H x H'->g x σc H' fun σ2 H2=>Wk σc σ2/\tc σ2 H2 fun b H3=>if b=true then te σ2 H3 fun v H4=> ∃m',m'<m/\W (i+1) m' (acc++[v]) H4 else ∃m',m'<m/\W (i+1) m' acc H3))
def uY (wi:TI) (ix:List (Option Nat)) (g:TG) (tc:TT) (te:TE):TE:=fun σ H Q=>wi σ H fun J H1=>qL J (kF σ ix) g tc te Q H1
theorem qM {X:Cx} {tg iter elt:Expr} {ifs:List Expr} {scope:Scope} {pos:Pos} {wi:TI} {g:TG} {tc:TT} {te:TE} {Nc:List Str} {ix:List (Option Nat)} (hi:PI X tg iter wi) (jI:X.calm=true) (xh:jB X scope Nc ix)
  (gH: ∀y∈scope.names,y.2≠ .cell) (hW:scope.kind= .function) (E2: ∀y∈scope.names,y.2= .free->X.env.kindOf y.1=some .cell\/X.env.kindOf y.1=some .free)
  (hG: ∀C s H fp,PG (bP X scope C Nc s H fp) tg g) (hT: ∀C s H fp,PF (bP X scope C Nc s H fp) ifs tc) (hE: ∀C s H fp,PE (bP X scope C Nc s H fp) elt te)
  {pins:List (Addr×Obj)} {s:Shared} {σ:St} {H:Hp} {Q:VK} (I:Inv X pins σ H s) (h:uY wi ix g tc te σ H Q) {RR:Value->Addr->Result->Shared->Prop}
  (UK: ∀(D C:Addr) (oC:Obj) (m:Str->Option Value) (H':Hp) (s':Shared),s'.heap.get? C=some oC->s'.heap.Ns C m->m5 X pins H' C->Inv X (pins++[(C,oC)]) σ H' s'->Q (.ref D) H'->RR (.ref D) C (.ok .next) s'):
  wpAny (model X.prog X.w) X.A (eval iter X.env) (fun v s1=>wpAny (model X.prog X.w) X.A (pyIter v) (fun it s2=>wpAny (model X.prog X.w) X.A (newList []) (fun acc s3=>
   wpAny (model X.prog X.w) X.A (newFunctionEnv scope X.env.globals (iw X.env scope.names []) [] X.env.qual none .none (some X.env)) (fun M3 s4=>
    codeAny (model X.prog X.w) X.A (.compStart (.ListComp elt [⟨tg,iter,ifs,0⟩] scope pos) 0 it acc { M3 with scope:=relabel scope X.env }) (RR acc M3.locals) s4) X.xe s3) X.xe s2) X.xe s1) X.xe s:=by
 refine b8 (hi pins s σ H _ I h) fun v s1 h1=>b8 h1 fun Qj s2 h2=>?_
 obtain ⟨it,fp,tn,J,H2,e,I2,T,wB,f2,W,⟨m0,w0⟩,turn⟩:=h2
 subst e
 refine wpAny_newObj_type (wpAny_newFunctionEnv gH (by intro y hy;simp at hy) (fun h₁ IC E3=>?_) hW)
 dsimp only at IC E3 ⊢
 generalize G6:s2.heap.push { cls:= .type "list",dict:=none,data:= .seq ([]:List Value).toArray }=P2 at IC E3 ⊢
 have hC:P2.objs.size=s2.heap.objs.size+1:=by rw[<-G6,Ze]
 have IB:s2.heap.objs.size≠P2.objs.size:=by rw[hC];exact Xy (Yz _)
 have ID:s2.heap.objs.size<=P2.objs.size:=by rw[hC];exact YJ _
 have HM: ∀b,b<s2.heap.objs.size->b≠P2.objs.size:=fun b hb=>by rw[hC];exact Xy (YT hb)
 have old: ∀b o,s2.heap.get? b=some o->h₁.get? b=some o:=fun b o e=>E3.extBut b o (HM b (Xs e)) (Sy _ (G6▸Sy _ e))
 have iA:h₁.get? s2.heap.objs.size=some { cls:= .type "list",data:= .seq ([]:List Value).toArray }:=E3.extBut _ _ IB (Sy _ (G6▸Xq _ rfl))
 have SG:tn 0 h₁:=T.keep 0 _ _ wB fun b _ o e=>old b o e
 have M0: ∀b∈fp, ∃o,s2.heap.get? b=some o:=fun b hb=>let ⟨o,e,_⟩:=T.obj 0 _ wB b hb;⟨o,e⟩
 have SH: ∀b∈fp,s2.heap.objs.size≠b:=fun b hb=>let ⟨o,e⟩:=M0 b hb;ZK (Xs e)
 have IY:=xg I2 xh gH hW E2 f2 M0 (t':=s2.toks+([]:List (Str×Value)).length) ID IC old
 have QG: ∀b,s2.heap.objs.size<=b->b∉yC X.stack:=fun b hb hs=>by
  rcases UE.mp (I2.n6 b hs) with z | z
  ·exact absurd (XD I2.lt hb) (by rw[z];exact XY _)
  ·exact I2.HK hb z
 have kG: ∀{x:Str} {c:Addr},(iw X.env scope.names []).lookup x=some c->X.env.cells.lookup x=some c:=fun {x c} e=>lS scope.names [] (fun y d q=>by simp at q) e
 have M4: ∀x c,(iw X.env scope.names []).lookup x=some c->c≠s2.heap.objs.size:=fun x c e z=>by
  obtain ⟨v,q⟩:=I2.cell x c (kG e)
  exact absurd (q.lt) (by rw[z];exact XY _)
 have fY: ∀{pl:List (Addr×Obj)} {H':Hp},(∀p∈pl,p.1=s2.heap.objs.size)->(∀b∈fp,H' b=none)-> ∀b∈fp,m5 (bP X scope P2.objs.size Nc s2 H2 fp) pl H' b:=fun {pl H'} km hn b hb=>by
  refine ⟨hn b hb,?_,?_, .inl hb,fun x c e=>(f2 b hb).2.2.2.2.1 x c (kG e),fun p hp=>?_⟩
  ·obtain ⟨o,e⟩:=M0 b hb
   exact HM b (Xs e)
  ·intro hs
   rcases UE.mp (I2.n6 b hs) with z | z
   ·exact (f2 b hb).2.1 z
   ·exact (f2 b hb).2.2.1 z
  ·rw[km p hp]
   exact SH b hb
 have loop: ∀s₃:Shared,s₃={ s2 with heap:=h₁,toks:=s2.toks+([]:List (Str×Value)).length }->
   codeAny (model X.prog X.w) X.A (.compLoop (.ListComp elt [⟨tg,iter,ifs,0⟩] scope pos) 0 (.ref it) (.ref s2.heap.objs.size) (compEnvC scope (iw X.env scope.names []) P2.objs.size X.env)) (RR (.ref s2.heap.objs.size) P2.objs.size) s₃:=by
  rintro s₃ rfl
  refine sE (fun n s'=> ∃i acc aJ nn H',Inv (bP X scope P2.objs.size Nc s2 H2 fp) [] (kF σ ix) H' s'/\tn i s'.heap/\(∀b∈fp,H' b=none)/\
   s'.heap.get? s2.heap.objs.size=some { cls:= .type "list",data:= .seq (aJ:List Value).toArray nn }/\Vals acc aJ/\H' s2.heap.objs.size=none/\W i n acc H') ?_ m0
   ⟨0,[],[],0,H2,IY,SG,fun b hb=>(f2 b hb).1,iA, .nil,I2.bX.fresh (OS _),w0⟩
  rintro n s3 ⟨i,acc,aJ,nn,H3,I3,Mz,MA,eD,rv,nD,w3⟩
  obtain ⟨hz,alt⟩:=turn i n acc H3 w3
  have IP:Inv (bP X scope P2.objs.size Nc s2 H2 fp) [(s2.heap.objs.size,{ cls:= .type "list",data:= .seq aJ.toArray nn })] (kF σ ix) H3 s3:=I3.kx fun p hp=>by
   have e:p=(s2.heap.objs.size,_):=Sz.mp hp
   subst e
   refine ⟨eD,nD,IB,QG _ (OS _),fun v z=>?_⟩
   have z':Data.seq aJ.toArray nn=Data.cell v:=z
   cases z'
  have km: ∀p∈[(s2.heap.objs.size,({ cls:= .type "list",data:= .seq aJ.toArray nn }:Obj))],p.1=s2.heap.objs.size:=fun p hp=>by
   have e:p=(s2.heap.objs.size,_):=Sz.mp hp
   rw[e]
  rcases alt with ⟨stop,fin⟩ | ⟨go,step⟩
  ·refine b8 (T.done (bP X scope P2.objs.size Nc s2 H2 fp) rfl rfl rfl jI i _ s3 _ H3 En IP (fY km MA) Mz stop) fun r s4 zz=>?_
   obtain ⟨hr,I4⟩:=zz
   subst hr
   obtain ⟨m,hn,_⟩:=id I4.loc
   obtain ⟨oC,es,ep,eC,dC,_⟩:=id hn
   have UL:=(I4.pin (s2.heap.objs.size,_) (XC _ (Sz.mpr rfl))).1
   have QH:=fin _ nD
   refine UK _ _ oC m _ s4 eC hn ?_ (Ao I2 I4 f2 (OS _) ID IB UL rv (XU hz) nD eC fun v z=>?_) QH
   ·refine I2.qc ID ?_
    rw[au (Ne.symm IB)]
    exact I4.free
   ·rw[dC]at z;cases z
  ·refine b8 (T.item (bP X scope P2.objs.size Nc s2 H2 fp) rfl rfl rfl jI i _ s3 _ H3 En IP (fY km MA) Mz go) fun r s4 zz=>?_
   obtain ⟨u,hr,h4⟩:=zz
   subst hr
   refine b8 h4 fun _ s5 zz=>?_
   obtain ⟨x,H5,I5,r5,y5,H_,Ql⟩:=zz
   have Qm:=I5.pinned (fY km Ql) (T.obj _ _ H_)
   refine b8 (hG _ s2 H2 fp _ s5 _ H5 x u _ Qm r5 (step x H5 y5)) fun _ s6 zz=>?_
   obtain ⟨σ6,H6,I6,wk,q6⟩:=zz
   refine b8 (hT _ s2 H2 fp _ s6 σ6 H6 _ I6 q6) fun b s7 zz=>?_
   obtain ⟨H7,I7,q7⟩:=zz
   have again: ∀{H9:Hp} {s9:Shared} {m':Nat},Inv (bP X scope P2.objs.size Nc s2 H2 fp) ([(s2.heap.objs.size,({ cls:= .type "list",data:= .seq aJ.toArray nn }:Obj))]++oe fp s5.heap) σ6 H9 s9->
     (s9.heap.get? s2.heap.objs.size=some { cls:= .type "list",data:= .seq aJ.toArray nn }/\H9 s2.heap.objs.size=none)/\tn (i+1) s9.heap/\(∀b∈fp,H9 b=none)/\Inv (bP X scope P2.objs.size Nc s2 H2 fp) [] (kF σ ix) H9 s9:=fun {H9 s9 m'} I9=>by
    have pD:=I9.pin (s2.heap.objs.size,_) (XC _ (Yr _ (Sz.mpr rfl)))
    refine ⟨⟨pD.1,pD.2.1⟩,T.keep _ _ _ H_ fun b hb o e=>(I9.pin (b,o) (XC _ (XC _ (gW hb e)))).1,fun b hb=>?_,?_⟩
    ·obtain ⟨o,e,d⟩:=T.obj _ _ H_ b hb
     exact (I9.pin (b,o) (XC _ (XC _ (gW hb e)))).2.1
    ·exact (I9.weak wk.len fun i v e=>wk.get e).kx fun p hp=>absurd hp (by simp)
   cases b with
   | false=>
    rw[if_neg Xv]at q7 ⊢
    obtain ⟨m',hm,w7⟩:=q7
    obtain ⟨⟨e7,n7⟩,t7,f7,J7⟩:=again (m':=0) I7
    exact ⟨m',hm,i+1,acc,aJ,nn,H7,J7,t7,f7,e7,rv,n7,w7⟩
   | true=>
    rw[if_pos rfl]at q7 ⊢
    refine b8 (hE _ s2 H2 fp _ s7 σ6 H7 _ I7 q7) fun y s8 zz=>?_
    obtain ⟨v,H8,I8,r8,m',hm,w8⟩:=zz
    obtain ⟨⟨e8,n8⟩,t8,f8,J8⟩:=again (m':=0) I8
    refine wpAny_list_append_plain (items:=aJ.toArray) ⟨nn,e8⟩ (fun h9 UM SI=>?_) (by rw[WM, <-rv.length];exact XU hz)
    obtain ⟨n9,e9⟩:=UM
    refine ⟨m',hm,i+1,acc++[v],aJ++[y],n9,H8,J8.turned (t':=s8.toks) (fun b o hb e=>(SI.2 b hb).trans e) n8 IB (.inr (OS _)) M4 (fun p hp=>absurd hp (by simp[bP])),?_,f8,?_,rv.append (.cons r8 .nil),n8,w8⟩
    ·exact T.keep _ _ _ t8 fun b hb o e=>(SI.2 b (Ne.symm (SH b hb))).trans e
    ·simpa using e9
 exact codeAny_compStart_list (loop _ rfl) (T.self _ 0 _ _ _ SG (loop _ rfl))
theorem E4 {X:Cx} {tg iter elt:Expr} {ifs:List Expr} {scope:Scope} {pos:Pos} {wi:TI} {g:TG} {tc:TT} {te:TE} (Nc:List Str) (ix:List (Option Nat)) (hi:PI X tg iter wi) (jI:X.calm=true) (xh:jB X scope Nc ix)
  (gH: ∀y∈scope.names,y.2≠ .cell) (hW:scope.kind= .function) (E2: ∀y∈scope.names,y.2= .free->X.env.kindOf y.1=some .cell\/X.env.kindOf y.1=some .free)
  (xi: ∀x∈scope.names,x.2= .local->scope.names.lookup x.1=some .local)
  (hG: ∀C s H fp,PG (bP X scope C Nc s H fp) tg g) (hT: ∀C s H fp,PF (bP X scope C Nc s H fp) ifs tc) (hE: ∀C s H fp,PE (bP X scope C Nc s H fp) elt te)
  (hs: ∀x,foldedSetIterable iter X.env x=pure x:=by intro _;rfl):PE X (.ListComp elt [⟨tg,iter,ifs,0⟩] scope pos) (uY wi ix g tc te):=by
 intro pins s σ H Q I h
 rw[eval_ListComp]
 have Kx: ∀y∈scope.names,y.2= .free-> ∃c,X.env.cells.lookup y.1=some c:=fun y hy e=>I.ok.has y.1 (E2 y hy e)
 refine wpAny_comprehension_free (use:=none) rfl hs (jH Kx) hW xi (qM hi jI xh gH hW E2 hG hT hE I h (RR:=fun acc C=>compPost (model X.prog X.w) X.A X.xe none (EP X pins σ Q) acc C) ?_)
 intro D C oC m H' s' eC hn fC I' q
 refine ⟨m,hn,fun h' IE=>⟨.ref D,H',?_,rfl,q⟩⟩
 exact I'.iJ.turned (t':=s'.toks) (fun b o hb e=>(IE.2 b hb).trans e) fC.1 fC.2.1 fC.2.2.2.1 fC.2.2.2.2.1 fC.2.2.2.2.2
theorem E5 {X:Cx} {i:Nat} {x:Str} {tg iter elt:Expr} {ifs:List Expr} {scope:Scope} {pos BR pos':Pos} {wi:TI} {g:TG} {tc:TT} {te:TE} (Nc:List Str) (ix:List (Option Nat)) (hN:X.N.Nodup) (M5:X.N[i]? =some x) (hx:Loc X.env.scope x)
  (M6:swapsWith (.ListComp elt [⟨tg,iter,ifs,0⟩] scope pos) (some (.Name x pos')) BR.line X.env=pure true) (hi:PI X tg iter wi) (jI:X.calm=true) (xh:jB X scope Nc ix)
  (gH: ∀y∈scope.names,y.2≠ .cell) (hW:scope.kind= .function) (E2: ∀y∈scope.names,y.2= .free->X.env.kindOf y.1=some .cell\/X.env.kindOf y.1=some .free)
  (xi: ∀x∈scope.names,x.2= .local->scope.names.lookup x.1=some .local)
  (hG: ∀C s H fp,PG (bP X scope C Nc s H fp) tg g) (hT: ∀C s H fp,PF (bP X scope C Nc s H fp) ifs tc) (hE: ∀C s H fp,PE (bP X scope C Nc s H fp) elt te)
  (hs: ∀x,foldedSetIterable iter X.env x=pure x:=by intro _;rfl) (hf:X.fn x=true\/X.env.scope.names.lookup x=some .local:=by first | exact .inl rfl | exact .inr rfl | assumption):
  PS X (.Assign [.Name x pos'] (.ListComp elt [⟨tg,iter,ifs,0⟩] scope pos) BR) (EJ (uY wi ix g tc te) (uN i)):=by
 intro pins s σ H E I h
 have Kx: ∀y∈scope.names,y.2= .free-> ∃c,X.env.cells.lookup y.1=some c:=fun y hy e=>I.ok.has y.1 (E2 y hy e)
 rw[exec_Assign_Name_used _ _ _ _ M6]
 refine wpAny_bind (wpAny_standAt (wpAny_bind ?_))
 show wpAny _ X.A (do let _ <-comprehension (.ListComp elt [⟨tg,iter,ifs,0⟩] scope pos) scope X.env _ (newList []) false (eval iter X.env) (some (assign (.Name x pos') X.env))) _ _ s
 refine wpAny_bind (wpAny_mono (wpAny_comprehension_free (use:=some (assign (.Name x pos') X.env)) (Q:=fun _ s'=>SP X pins E .next s') rfl hs (jH Kx) hW xi
  (qM hi jI xh gH hW E2 hG hT hE I h (RR:=fun acc C=>compPost (model X.prog X.w) X.A X.xe (some (assign (.Name x pos') X.env)) (fun _ s'=>SP X pins E .next s') acc C) ?_)) (fun _ s' hq=>wpAny_pure (wpAny_pure hq)) fun _ _ e=>e)
 intro D C oC m H' s' eC hn fC I' q
 show wpAny _ X.A (assign (.Name x pos') X.env (.ref D)) _ _ _
 refine wpAny_assign_Name (ky I' hN M5 hx (show RelV (.ref D) _ from rfl) (fun MM SJ=>?_) hf)
 have pC:=SJ.pin (C,oC) (XC _ (XC _ (Sz.mpr rfl)))
 refine ⟨m,?_,fun h' IE=>?_⟩
 ·obtain ⟨o,es,ep,e,r⟩:=hn
  rw[eC]at e;cases e
  exact ⟨oC,es,ep,pC.1,r⟩
 ·refine ⟨_,H',SJ.iJ.turned (t':=MM.toks) (fun b o hb e=>(IE.2 b hb).trans e) fC.1 fC.2.1 fC.2.2.2.1 fC.2.2.2.2.1 fC.2.2.2.2.2,q⟩
noncomputable def S (l:List Nat):Str:=⟨l.toArray⟩
theorem dR (l:List Nat):(S l).cps.toList=l:=by simp[S]
theorem b_ (l:List Nat):(S l).length=l.length:=by simp[S,Str.length]
theorem lT (l:List Nat):(S l).cps.size=l.length:=by simp[S]
theorem BS {a b:List Nat} (h:S a=S b):a=b:=by
 have:=congrArg (fun x:Str=>x.cps.toList) h
 simpa [S]using this
theorem M7 (x:Str):x=S x.cps.toList:=by cases x;simp[S]
theorem M8 (a b:List Nat):S a++S b=S (a++b):=by
 apply Str.ext'
 apply ZD.mp
 simp[S,Str.cps_append]
theorem G7 {a b:List Nat}:decide (V.str (S a)=V.str (S b))=decide (a=b):=by
 by_cases h:a=b
 ·subst h;simp
 ·rw[decide_eq_false h,decide_eq_false]
  intro q
  exact h (BS (V.str.inj q))
noncomputable def cut {α:Type} (xs:List α) (lo hi:Option Int):List α:=(xs.drop (HT.hX xs.length 0 lo)).take (HT.hX xs.length xs.length hi - HT.hX xs.length 0 lo)
theorem uZ (n d:Nat) (v:Int):max 0 (min (if v<0 then v+(n:Int) else v) (n:Int))=((HT.hX n d (some v):Nat):Int):=by
 show _=(((if v<0 then (v+(n:Int)).toNat else min v.toNat n):Nat):Int)
 by_cases hv:v<0
 ·simp only[if_pos hv];omega
 ·simp only[if_neg hv];omega
theorem mR (lo hi:Option Int) (n:Nat):Builtin.Str.strSliceIndices lo hi 1 n=(List.range (HT.hX n n hi - HT.hX n 0 lo)).map (HT.hX n 0 lo+ ·):=by
 have h1:(1:Int)>0:=by decide
 rw[<-sliceRange_one]
 unfold Builtin.Str.strSliceIndices
 simp only[h1,if_true]
 congr 1
 ·cases lo with
  | none=>rfl
  | some v=>exact uZ n 0 v
 ·cases hi with
  | none=>rfl
  | some v=>exact uZ n n v
theorem E6 (l:List Nat) (lo hi:Option Int):Txt.slice (S l) lo hi=S (cut l lo hi):=by
 have hx:((Builtin.Str.strSliceIndices lo hi 1 (S l).length).filterMap ((S l).cps[·]?))=cut l lo hi:=by
  rw[b_,mR,pick_run,dR]
  rfl
 have hlen:(Builtin.Str.strSliceIndices lo hi 1 (S l).length).length=HT.hX l.length l.length hi - HT.hX l.length 0 lo:=by
  rw[b_,mR,Kw,Zs]
 unfold Txt.slice
 by_cases hc:((1:Int)==1&&(Builtin.Str.strSliceIndices lo hi 1 (S l).length).length==(S l).length)=true
 ·rw[if_pos hc]
  rw[hlen,b_]at hc
  have e:HT.hX l.length l.length hi - HT.hX l.length 0 lo=l.length:=by simpa using hc
  have h2:=HT.Ih l.length l.length (OS _) hi
  have e0:HT.hX l.length 0 lo=0\/l.length=0:=by omega
  unfold cut
  rw[e]
  rcases e0 with z | z
  ·rw[z];simp
  ·have:l=[]:=Zc z
   subst this
   simp
 ·rw[if_neg hc]
  rw[hx]
  rfl
section
variable {X:Cx}
theorem iM {x:Str} {j pos} (l:List Nat) (h:x=S l):PE X (.Constant (.str x) j pos) (tC (.str (S l))):=by
 subst h
 exact HQ
def M9:R2:=fun x y H Q=> ∃a b,x= .str (S a)/\y= .str (S b)/\a.length+b.length<=sizeLine/\Q (.str (S (a++b))) H
theorem dS:iE X (binaryOp .Add) M9:=by
 intro pins s σ H x y v u Q I rx ry h
 obtain ⟨a,b,rfl,rfl,hz,q⟩:=h
 exact wR pins s σ H _ _ v u Q I rx ry ⟨S a,S b,rfl,rfl,by rw[b_,b_];exact hz,by rw[M8];exact q⟩
def M_:R2:=fun x y H Q=> ∃l i c,x= .str (S l)/\y= .int i/\l.length<=sizeLine/\m6 l i=some c/\Q (.str (S [c])) H
theorem iB:Ii X M_:=by
 intro value slice pins s σ H x y v u Q I rx ry h hs
 obtain ⟨l,i,c,rfl,rfl,hz,he,q⟩:=h
 exact Ik value slice pins s σ H _ _ v u Q I rx ry ⟨S l,i,c,rfl,rfl,by rw[b_];exact hz,by rw[dR];exact he,q⟩ hs
def QI:V->Option Int->Option Int->Hp->VK->Prop:=fun x lo hi H Q=> ∃l,x= .str (S l)/\l.length<=sizeLine/\Q (.str (S (cut l lo hi))) H
theorem iC:OO X QI:=by
 intro pins s σ H x v vl vu lo hi sl Q I rx hs pl pu h
 obtain ⟨l,rfl,hz,q⟩:=h
 obtain ⟨t,rfl⟩:=rx
 refine ⟨"str",_,F.slot_str_getitem.lookup,typeIs_str _ _ _,?_⟩
 have key: ∀(a b:Option (Int×Tok)),vl=partValue a->vu=partValue b->a.map (·.1)=lo->b.map (·.1)=hi->wpAny (model X.prog X.w) X.A (getItem (.str (S l) t) (.ref sl)) (EP X pins σ Q) X.xe s:=by
  rintro a b rfl rfl rfl rfl
  obtain ⟨o,e,c,d⟩:=hs
  refine wpAny_getItem_str_slice (l:=a) (u:=b) (st:=none) ⟨o,e,c,d⟩ rfl (post_val_or_str ⟨?_,fun t' k=>?_⟩)
  ·exact XM (Txt.slice_le (S l) _ _) (by rw[b_];exact hz)
  ·exact ⟨.str (S (cut l _ _)),H,I.tok _,⟨t',congrArg (fun z=>Value.str z t') (E6 l _ _)⟩,q⟩
 cases pl with
 | none=>
  cases pu with
  | none=>exact key none none rfl rfl rfl rfl
  | int i ti=>exact key none (some (i,ti)) rfl rfl rfl rfl
 | int i ti=>
  cases pu with
  | none=>exact key (some (i,ti)) none rfl rfl rfl rfl
  | int j tj=>exact key (some (i,ti)) (some (j,tj)) rfl rfl rfl rfl
theorem aQ:dN X (.builtin "len") (fun xs H Q=> ∃l,xs=[.str (S l)]/\l.length<=sizeLine/\Q (.int l.length) H):=by
 intro pins s σ H xs us Q I r h
 obtain ⟨l,rfl,hz,q⟩:=h
 exact sx pins s σ H _ us Q I r ⟨S l,rfl,by rw[b_];exact hz,by rw[b_];exact q⟩
noncomputable def cn (l:List Nat):List V:=l.map fun c=>V.str (S [c])
theorem xj {l:List Nat}: ∀{acc:List Value},acc.length=l.length->(∀j v,acc[j]? =some v->SignAt (S l) j v)->Vals (cn l) acc:=by
 induction l with
 | nil=>intro acc h _;have:acc=[]:=Zc h;subst this;exact .nil
 | cons c l ih=>
  intro acc h k
  cases acc with
  | nil=>cases h
  | cons a acc=>
   refine .cons ?_ (ih (by simpa using h) fun j v e=>?_)
   ·obtain ⟨c',u,e1,e2⟩:=k 0 a rfl
    have:c=c':=by simpa [S]using e1
    subst this
    exact ⟨u,e2⟩
   ·obtain ⟨c',u,e1,e2⟩:=k (j+1) v (by simpa using e)
    exact ⟨c',u,by simpa [S]using e1,e2⟩
theorem om (hc:X.calm=true):dN X (.type "list") (fun xs H Q=> ∃l,xs=[.str (S l)]/\l.length<=sizeLine/\ ∀p,H p=none->Q (.ref p) (upd H p (.lst (cn l)))):=by
 intro pins s σ H xs us Q I r h
 obtain ⟨l,rfl,hz,q⟩:=h
 obtain ⟨u,rfl,t,rfl⟩:=vals1 r
 refine call_list_str (I.ok.hd hc) (S l) t (fun h' tk cq c' hk e iA=>?_) (by rw[lT];exact hz)
 obtain ⟨h1,h2⟩:=iA
 rw[lT]at h1
 refine ⟨.ref s.heap.objs.size,_,I.laid (t':=tk) (o:= .lst (cn l)) hk (OS _) ?_,rfl,q _ I.fresh⟩
 exact ⟨by unfold cn;rw[Kw];exact hz,cq.toList,c',xj (by simpa using h1) (fun j v e=>h2 j v (by simpa using e)),by simpa using e⟩
def QJ:R2:=fun x y H Q=> ∃c l,x= .str (S [c])/\y= .str (S l)/\Q (.bl (decide (c∈l))) H
theorem IF:iE X (compareOp .In) QJ:=by
 intro pins s σ H x y v u Q I rx ry h
 obtain ⟨c,l,rfl,rfl,q⟩:=h
 refine z_ pins s σ H _ _ v u Q I rx ry ⟨S [c],S l,rfl,rfl,?_⟩
 have e:=StrLaws.found_one (S l) c
 rw[dR]at e
 rw[show (S [c])=(⟨#[c]⟩:Str) from rfl,e]
 exact q
def Na:R2:=fun x y H Q=> ∃c l,x= .str (S [c])/\y= .str (S l)/\Q (.bl (!decide (c∈l))) H
theorem E7:iE X (compareOp .NotIn) Na:=by
 intro pins s σ H x y v u Q I rx ry h
 obtain ⟨c,l,rfl,rfl,q⟩:=h
 refine sk pins s σ H _ _ v u Q I rx ry ⟨S [c],S l,rfl,rfl,?_⟩
 have e:=StrLaws.found_one (S l) c
 rw[dR]at e
 rw[show (S [c])=(⟨#[c]⟩:Str) from rfl,e]
 exact q
end
theorem qN (s sub:Str) (hi:Nat): ∀(l:List Nat) (st:Array Nat×Nat),1<=st.fst.size->(forIn l st (StrLaws.occBody s sub hi 1)).run.fst=st.fst
 | [],st,h=>rfl
 | a::l,st,h=>by
  rw[Zg]
  unfold StrLaws.occBody
  rw[if_neg (fun z=>absurd z.1.1.1 (Nat.not_lt.mpr h))]
  exact qN s sub hi l _ h
theorem occ_first (s sub:Str) (hi:Nat): ∀(l:List Nat) (free:Nat),(∀i∈l,free<=i)->
  (forIn l ((#[]:Array Nat),free) (StrLaws.occBody s sub hi 1)).run.fst.toList=(l.find? fun i=>decide (i+sub.length<=hi)&&Builtin.Str.subAt s sub i).toList
 | [],free,_=>rfl
 | a::l,free,hf=>by
  rw[Zg,YD]
  unfold StrLaws.occBody
  have ha:free<=a:=hf a Xp
  by_cases hc:a+sub.length<=hi/\Builtin.Str.subAt s sub a=true
  ·rw[if_pos ⟨⟨⟨by simp,ha⟩,hc.1⟩,hc.2⟩]
   have:(decide (a+sub.length<=hi)&&Builtin.Str.subAt s sub a)=true:=by simp[hc]
   rw[this]
   show (forIn l (#[].push a,a+sub.length) (StrLaws.occBody s sub hi 1)).run.fst.toList=_
   rw[qN s sub hi l _ (by simp)]
   rfl
  ·rw[if_neg (fun z=>hc ⟨z.1.2,z.2⟩)]
   have:(decide (a+sub.length<=hi)&&Builtin.Str.subAt s sub a)=false:=by
    cases h1:decide (a+sub.length<=hi) with
    | false=>rfl
    | true=>
     cases h2:Builtin.Str.subAt s sub a with
     | false=>rfl
     | true=>exact absurd ⟨of_decide_eq_true h1,h2⟩ hc
   rw[this]
   exact occ_first s sub hi l free fun i nJ=>hf i (WN _ nJ)
theorem subAt_one (l:List Nat) (c i:Nat):Builtin.Str.subAt (S l) (S [c]) i=(l[i]? ==some c):=by
 unfold Builtin.Str.subAt
 rw[b_]
 show ((S l).cps.extract i (i+1)== #[c])=_
 have e:((S l).cps.extract i (i+1))=((l.drop i).take 1).toArray:=by
  apply ZD.mp
  simp[S,List.take_drop]
 rw[e]
 by_cases h:i<l.length
 ·have e2:(l.drop i).take 1=[l[i]]:=by
   rw[X_ h];rfl
  rw[e2,Iw h]
  by_cases hc:l[i]=c
  ·rw[hc];simp
  ·have h1:([l[i]].toArray== #[c])=false:=by
    rw[beq_eq_false_iff_ne]
    intro z
    apply hc
    have:=congrArg Array.toList z
    simpa using this
   have h2:(some l[i]==some c)=false:=by simpa using hc
   rw[h1,h2]
 ·have e2:(l.drop i).take 1=[]:=by rw[Y9 (by omega)];rfl
  rw[e2,Yl (by omega)]
  rfl
theorem oq (l:List Nat) (c:Nat): ∀(k n:Nat),k+n=l.length+1->((List.range' k n).find? fun i=>decide (i+1<=l.length)&&(l[i]? ==some c))=if c∈l.drop k then some (k+(l.drop k).idxOf c) else none
 | k,0,h=>by
  have:l.drop k=[]:=Y9 (by omega)
  rw[this];simp
 | k,n+1,h=>by
  rw[List.range'_succ,YD]
  by_cases hk:k<l.length
  ·have e:l.drop k=l[k]::l.drop (k+1):=X_ hk
   rw[Iw hk,e]
   by_cases hc:l[k]=c
   ·have:(decide (k+1<=l.length)&&(some l[k]==some c))=true:=by simp[hc];omega
    rw[this,if_pos (by simp[hc])]
    simp[hc]
   ·have:(decide (k+1<=l.length)&&(some l[k]==some c))=false:=by simp[hc]
    rw[this,oq l c (k+1) n (by omega)]
    have nG: ¬c=l[k]:=fun z=>hc z.symm
    by_cases hm:c∈l.drop (k+1)
    ·rw[if_pos hm,if_pos (WN _ hm),ZT]
     have:(l[k]==c)=false:=by simpa using hc
     rw[this]
     show some (k+1+List.idxOf c (List.drop (k+1) l))=some (k+(List.idxOf c (List.drop (k+1) l)+1))
     congr 1
     omega
    ·rw[if_neg hm,if_neg (by intro z;rcases UE.mp z with z | z;exact nG z;exact hm z)]
  ·have:l.drop k=[]:=Y9 (by omega)
   have e1:(decide (k+1<=l.length)&&(l[k]? ==some c))=false:=by
    rw[decide_eq_false (by omega)];rfl
   have e2:l.drop (k+1)=[]:=Y9 (by omega)
   rw[e1,oq l c (k+1) n (by omega),this,e2]
   simp
theorem G8 (l:List Nat) (c:Nat):Builtin.Str.occurrences (S l) (S [c]) 0 (S l).length 1=if c∈l then [l.idxOf c] else []:=by
 rw[StrLaws.occ_eq,occ_first _ _ _ _ 0 fun _ _=>WO _]
 have e:(fun i=>decide (i+(S [c]).length<=(S l).length)&&Builtin.Str.subAt (S l) (S [c]) i)=fun i=>decide (i+1<=l.length)&&(l[i]? ==some c):=by
  funext i
  rw[subAt_one,b_,b_]
  rfl
 rw[e,b_,Nat.sub_zero,oq l c 0 (l.length+1) (by omega),List.drop_zero]
 by_cases h:c∈l
 ·rw[if_pos h,if_pos h,ZJ];rfl
 ·rw[if_neg h,if_neg h];rfl
section
variable {X:Cx}
def E8:V->List V->Hp->VK->Prop:=fun x vs H Q=> ∃l c,x= .str (S l)/\vs=[.str (S [c])]/\c∈l/\Q (.int (l.idxOf c:Nat)) H
theorem lU:Ai X "str.index" E8:=by
 intro pins s σ H x xs v us Q I rx rv h
 obtain ⟨l,c,rfl,rfl,hc,q⟩:=h
 obtain ⟨t,rfl⟩:=rx
 obtain ⟨u,rfl,t',rfl⟩:=vals1 rv
 exact SC.index (i:=l.idxOf c) (rest:=[]) (by rw[G8,if_pos hc]) ⟨.int (l.idxOf c:Nat),H,I.tok _,⟨_,rfl⟩,q⟩
def IG:V->List V->Hp->VK->Prop:=fun x vs H Q=> ∃l c,x= .str (S l)/\vs=[.str (S [c])]/\Q (.int (if c∈l then (l.idxOf c:Nat) else -1)) H
theorem u5:Ai X "str.find" IG:=by
 intro pins s σ H x xs v us Q I rx rv h
 obtain ⟨l,c,rfl,rfl,q⟩:=h
 obtain ⟨t,rfl⟩:=rx
 obtain ⟨u,rfl,t',rfl⟩:=vals1 rv
 refine SC.find ⟨.int _,H,I.tok _,⟨_,rfl⟩,?_⟩
 have e:Txt.find (S l) (S [c])=(if c∈l then ((l.idxOf c:Nat):Int) else -1):=by
  unfold Txt.find
  rw[G8]
  by_cases h:c∈l
  ·rw[if_pos h,if_pos h]
  ·rw[if_neg h,if_neg h]
 rw[e]
 exact q
def G9 (f:Nat->Bool):V->List V->Hp->VK->Prop:=fun x vs H Q=> ∃c,x= .str (S [c])/\vs=[]/\c<128/\Q (.bl (f c)) H
def Nb (f:Nat->Nat):V->List V->Hp->VK->Prop:=fun x vs H Q=> ∃c,x= .str (S [c])/\vs=[]/\c<128/\Q (.str (S [f c])) H
noncomputable def aB (c:Nat):Bool:=decide (97<=c)&&decide (c<=122)
noncomputable def isUp (c:Nat):Bool:=decide (65<=c)&&decide (c<=90)
theorem E9: ∀c,c<128->Txt.islower ⟨#[c]⟩=aB c:=by decide+kernel
theorem IH: ∀c,c<128->Txt.isupper ⟨#[c]⟩=isUp c:=by decide+kernel
theorem jY:Ai X "str.islower" (G9 aB):=by
 intro pins s σ H x xs v us Q I rx rv h
 obtain ⟨c,rfl,rfl,hc,q⟩:=h
 obtain ⟨t,rfl⟩:=rx
 have e:us=[]:=by cases rv;rfl
 subst e
 exact SC.islower ⟨.bl (aB c),H,I,congrArg Value.bool (E9 c hc),q⟩
theorem xk:Ai X "str.isupper" (G9 isUp):=by
 intro pins s σ H x xs v us Q I rx rv h
 obtain ⟨c,rfl,rfl,hc,q⟩:=h
 obtain ⟨t,rfl⟩:=rx
 have e:us=[]:=by cases rv;rfl
 subst e
 exact SC.isupper ⟨.bl (isUp c),H,I,congrArg Value.bool (IH c hc),q⟩
theorem upper_one {c:Nat} (hc:c<128):Txt.upper (S [c])=S [up1 c]:=by
 rw[upper_ascii (by intro d hd;rw[dR]at hd;simp at hd;omega)]
 simp[S]
theorem qO {c:Nat} (hc:c<128):Txt.lower (S [c])=S [lo1 c]:=by
 rw[lower_ascii (by intro d hd;rw[dR]at hd;simp at hd;omega)]
 simp[S]
theorem G_ (c:Nat):Builtin.Str.tooLong (S [c]).length=false:=by
 rw[b_]
 show Builtin.Str.tooLong 1=false
 decide
theorem BU:Ai X "str.upper" (Nb up1):=by
 intro pins s σ H x xs v us Q I rx rv h
 obtain ⟨c,rfl,rfl,hc,q⟩:=h
 obtain ⟨t,rfl⟩:=rx
 have e:us=[]:=by cases rv;rfl
 subst e
 exact SC.upper (by rw[upper_one hc];exact G_ _) ⟨.str (S [up1 c]),H,I.tok _,⟨_,congrArg (fun z=>Value.str z _) (upper_one hc)⟩,q⟩
theorem ou:Ai X "str.lower" (Nb lo1):=by
 intro pins s σ H x xs v us Q I rx rv h
 obtain ⟨c,rfl,rfl,hc,q⟩:=h
 obtain ⟨t,rfl⟩:=rx
 have e:us=[]:=by cases rv;rfl
 subst e
 exact SC.lower (by rw[qO hc];exact G_ _) ⟨.str (S [lo1 c]),H,I.tok _,⟨_,congrArg (fun z=>Value.str z _) (qO hc)⟩,q⟩
theorem BV: ∀(ls:List (List Nat)) (a:Array Nat),(ls.map S).foldl (fun acc p=>acc++(S []).cps++p.cps) a=a++ls.flatten.toArray
 | [],a=>by simp
 | l::ls,a=>by
  rw[Xw,Zh,BV ls]
  simp[S]
theorem BW (ls:List (List Nat)):Txt.join (S []) (ls.map S)=S ls.flatten:=by
 unfold Txt.join Builtin.Str.glued
 cases ls with
 | nil=>rfl
 | cons l ls=>
  show Str.mk ((List.map S ls).foldl (fun acc p=>acc++(S []).cps++p.cps) (S l).cps)=_
  rw[BV]
  simp[S]
theorem ow: ∀{ls:List (List Nat)} {us:List Value},Vals (ls.map fun l=>V.str (S l)) us->StrsAre us (ls.map S)
 | [],us,r=>by cases r;exact .nil
 | l::ls,us,r=>by
  cases r with
  | cons r1 r2=>
   obtain ⟨t,rfl⟩:=r1
   exact .cons _ t (ow r2)
def BX (K:PySem.W.Frag):V->List V->Hp->VK->Prop:=fun x vs H Q=> ∃(p:Addr) (ls:List (List Nat)),x= .str (S [])/\vs=[.ref p]/\bC K H p (ls.map fun l=>V.str (S l))/\(ls.map List.length).sum<=16777216/\Q (.str (S ls.flatten)) H
theorem BY:Ai X "str.join" (BX X.K):=by
 intro pins s σ H x xs v us Q I rx rv h
 obtain ⟨p,ls,rfl,rfl,hq,hz,q⟩:=h
 obtain ⟨t,rfl⟩:=rx
 obtain ⟨u,rfl,ru⟩:=vals1 rv
 cases ru
 obtain ⟨aJ,r,pl,_⟩:=I.list hq
 have e:(S []).length=0:=rfl
 refine join_list pl.isList (by simpa using ow r) ?_ fun t' k=>?_
 ·rw[e,Nat.mul_zero,Qaa,X4]
  have e2:(Str.length ∘ S)=List.length:=by funext l;exact b_ l
  have e3:((fun x:Str=>x.length) ∘ S)=List.length:=by funext l;exact b_ l
  first | (rw[e2];exact hz) | (rw[e3];exact hz)
 ·exact ⟨.str (S ls.flatten),H,I.tok _,⟨t',congrArg (fun z=>Value.str z t') (BW ls)⟩,q⟩
end
end L2
namespace L2.F2
open PySem PySem.Spec PyProof.Rows
theorem lV:Manifest.owners.lookup (String.ofList ['d','e','s','r','e','v','e','r'].reverse)=some Manifest.sig_reversed:=by kernel_rfl
theorem dm:Slot "reversed" "__next__" "reversed.__next__":=
 .of (owner:="reversed") (n:="__next__") (by rw[typeLookup_type,builtinLookup_eq_fast];kernel_rfl) (by decide+kernel) (by decide+kernel) (by decide+kernel)
  (by first | exact .inl (by decide+kernel) | exact .inr (by decide+kernel)) (by rw[isSubtype_type];kernel_rfl)
theorem iN:entryFor table "reversed.__next__"=some Builtin.«reversed.__next__» :=entryFor_of_tree (by kernel_rfl)
theorem hZ (a:Value):argsOk "reversed.__next__" ⟨[a],[]⟩:=by
 unfold argsOk;rw[signature?_of (id:="reversed.__next__") (n:=['_','_','t','x','e','n','_','_']) (o:=['d','e','s','r','e','v','e','r']) (by kernel_rfl) lV];kernel_rfl
theorem jJ:Slot "reversed" "__iter__" "reversed.__iter__":=
 .of (owner:="reversed") (n:="__iter__") (by rw[typeLookup_type,builtinLookup_eq_fast];kernel_rfl) (by decide+kernel) (by decide+kernel) (by decide+kernel)
  (by first | exact .inl (by decide+kernel) | exact .inr (by decide+kernel)) (by rw[isSubtype_type];kernel_rfl)
theorem m8 (a:Value):argsOk "reversed.__iter__" ⟨[a],[]⟩:=by
 unfold argsOk;rw[signature?_of (id:="reversed.__iter__") (n:=['_','_','r','e','t','i','_','_']) (o:=['d','e','s','r','e','v','e','r']) (by kernel_rfl) lV];kernel_rfl
theorem oz:entryFor table "reversed.__iter__"=some Builtin.«dict_keyiterator.__iter__» :=
 entryFor_alias (id':="dict_keyiterator.__iter__") (by kernel_rfl) (by first | rfl | decide+kernel | (unfold String.splitOn;simp+decide [String.splitOnAux])) (by decide+kernel) (by kernel_rfl)
theorem qf:Slot "reversed" "__init__" "object.__init__":=
 .of (owner:="object") (n:="__init__") (by rw[typeLookup_type,builtinLookup_eq_fast];kernel_rfl) (by decide+kernel) (by decide+kernel) (by decide+kernel)
  (by first | exact .inl (by decide+kernel) | exact .inr (by decide+kernel)) (by rw[isSubtype_type];kernel_rfl)
theorem xm:TypeCalled "reversed" "reversed.__new__" "object.__init__":=
 ⟨by decide+kernel,by decide+kernel,⟨_,_,F.mro_reversed⟩,F.made_reversed,by decide+kernel,by rw[isSubtype_type];kernel_rfl,qf⟩
theorem xn:typeLookup (.type "str") "__reversed__"=pure none:=by rw[typeLookup_type,builtinLookup_eq_fast];kernel_rfl
end L2.F2
namespace L2
open PySem PySem.Spec PyProof.Rows
theorem oA (x:Str) (t:Tok) (hz:x.length<=sizeLine):Meets (Builtin.«reversed.__new__» ⟨[.type "reversed", .str x t],[]⟩) (fun _ R s=> ∀tk,R (.ok (.ret (.ref s.heap.objs.size))) { s with heap:=s.heap.push { cls:= .type "reversed",data:= .fields #[.str x t,rawInt ((x.length:Int) - 1)] },toks:=tk }):=by
 refine Meets.of_wp fun prog w A R s h=>?_
 unfold Builtin.«reversed.__new__»
 refine wpAny_bind (wpAny_of_eq (newClass_reversed _) ?_)
 try dsimp only
 refine wpAny_bind (wpAny_of_eq (a:=()) (by first | rfl | kernel_rfl) ?_)
 refine wpAny_bind (wpAny_of_eq (a:=()) (by first | rfl | kernel_rfl) ?_)
 try dsimp only
 refine wpAny_bind (wpAny_specialOf (typeIs_str s x t) F2.xn ?_)
 try dsimp only
 refine wpAny_bind (wpAny_of_eq (a:=true) (by first | rfl | kernel_rfl) ?_)
 rw[if_neg (by decide)]
 have hn:=eG
 refine wpAny_bind (len_str (by omega) ?_)
 refine wpAny_bind (wpAny_of_eq (a:=some (x.length:Int)) (by first | rfl | kernel_rfl) ?_)
 show wpAny _ _ (Builtin.SmallTypes.newRecord (Value.type "reversed") [Value.str x t,rawInt ((x.length:Int) - 1)] >>= _) _ _ _
 refine wpAny_bind ?_
 unfold Builtin.SmallTypes.newRecord
 refine wpAny_newObj_type ?_ (by size_fits)
 exact wpAny_pure ⟨_,rfl,h _⟩
section
variable {prog:Program} {w:World} {A:Around} {E:Value->Shared->Prop} {s:Shared}
theorem iO {x:Str} {t:Tok} {Q:Value->Shared->Prop} (hz:x.length<=sizeLine) (h: ∀tk,Q (.ref s.heap.objs.size) { s with heap:=s.heap.push { cls:= .type "reversed",data:= .fields #[.str x t,rawInt ((x.length:Int) - 1)] },toks:=tk }):
  wpAny (model prog w) A (call (.type "reversed") [.str x t]) Q E s:=
 callType_new F2.xm (by decide+kernel) (F.typeCall_reversed_1 _) (F.newCall_reversed_1 _) (fun obj=>by unfold argsOk;kernel_rfl) F.entry_reversed_new (oA x t hz)
  fun tk=>⟨⟨_,Xq _ rfl,rfl⟩,h tk⟩
def cU (h:Heap) (it:Addr) (x:Str) (t:Tok) (i:Int):Prop:= ∃o,h.get? it=some o/\o.cls= .type "reversed"/\o.data= .fields #[.str x t,rawInt i]
theorem cU.typeIs {it:Addr} {x:Str} {t:Tok} {i:Int} (h:cU s.heap it x t i):s.TypeIs (.ref it) "reversed":=let ⟨o,ho,hc,_⟩:=h;⟨o,ho,hc⟩
theorem fR {it:Addr} {x:Str} {t:Tok} {i:Int} {Q:Value->Shared->Prop} (hit:cU s.heap it x t i) (h:Q (.ref it) s):wpAny (model prog w) A (pyIter (.ref it)) Q E s:=by
 refine wpAny_pyIter_slot hit.typeIs F2.jJ (wpAny_call_entry F2.jJ hit.typeIs F2.oz ?_ (F2.m8 _))
 show wpAny _ _ (ret (.ref it)) _ _ s
 exact wpAny_pure ⟨_,rfl,"reversed",_,hit.typeIs,F2.dm.lookup,h⟩
theorem h7 {it:Addr} {x:Str} {t:Tok} {i c:Nat} {Q:Option Value->Shared->Prop} (hit:cU s.heap it x t (i:Int)) (hx:x.cps[i]? =some c) (hz:x.length<=sizeLine)
  (hQ: ∀h' tk u,cU h' it x t ((i:Int) - 1)->Heap.SameBut it s.heap h'->Q (some (.str ⟨#[c]⟩ u)) { s with heap:=h',toks:=tk }):wpAny (model prog w) A (pyNext (.ref it)) Q E s:=by
 obtain ⟨o,ho,hc,hd⟩:=id hit
 have hn:=eG
 have hi:i<x.length:=(Array.getElem?_eq_some_iff.mp hx).1
 unfold pyNext
 refine wpAny_bind (wpAny_attempt (wpAny_callSpecial?_slot (name:=Str.ofString "__next__") hit.typeIs F2.dm
  (wpAny_call_entry F2.dm hit.typeIs F2.iN ?_ (F2.hZ _))))
 unfold Builtin.«reversed.__next__»
 refine wpAny_bind (wpAny_of_eq (a:=(Value.ref it,[])) rfl ?_)
 try dsimp only
 refine wpAny_bind (wpAny_field ho hd (x:= .str x t) rfl ?_)
 refine wpAny_bind (wpAny_field ho hd (x:=rawInt (i:Int)) rfl ?_)
 show wpAny _ _ (if (i:Int)<0 then _ else _) _ _ s
 rw[if_neg (by omega)]
 refine wpAny_bind (wpAny_specialOf (typeIs_str s x t) F.slot_str_getitem.lookup ?_)
 show wpAny _ _ (if (some (Value.builtin _)).isNone=true then _ else _) _ _ s
 rw[if_neg (by decide)]
 refine wpAny_bind (wpAny_mkInt ?_)
 refine wpAny_bind (wpAny_attempt (getItem_str (c:=c) (by
  have e1:decide ((i:Int)< -(2 ^ 63:Int))=false:=decide_eq_false (by omega)
  have e2:decide ((i:Int) ≥ 2 ^ 63)=false:=decide_eq_false (by omega)
  rw[e1,e2,Z7]) (by rw[seqIndex_of (by omega) (by omega),UG];exact hx) ?_))
 show wpAny _ _ (field (Value.ref it) 1 >>= _) _ _ _
 refine wpAny_bind (wpAny_field ho hd (x:=rawInt (i:Int)) rfl ?_)
 show wpAny _ _ (setField (Value.ref it) 1 (rawInt ((i:Int) - 1)) >>= _) _ _ _
 refine wpAny_bind (wpAny_setField ho hd (by simp) ?_)
 refine wpAny_pure ⟨_,rfl,wpAny_pure (hQ _ _ _ ?_ (Qal ..))⟩
 exact ⟨_,X9 _ ho (Obj.isFreed_of_fields (Obj.data_mapFields hd _)),(Obj.cls_mapFields ..).trans hc,by
  rw[Obj.data_mapFields hd];simp⟩
theorem iP {it:Addr} {x:Str} {t:Tok} {Q:Option Value->Shared->Prop} (hh:A.handled=none) (hit:cU s.heap it x t (-1))
  (hQ: ∀h',Heap.ExtBut it s.heap h'->Q none { s with heap:=h' }):wpAny (model prog w) A (pyNext (.ref it)) Q E s:=by
 obtain ⟨o,ho,hc,hd⟩:=id hit
 unfold pyNext
 refine wpAny_bind (wpAny_attempt (wpAny_callSpecial?_slot (name:=Str.ofString "__next__") hit.typeIs F2.dm
  (wpAny_call_entry F2.dm hit.typeIs F2.iN ?_ (F2.hZ _))))
 unfold Builtin.«reversed.__next__»
 refine wpAny_bind (wpAny_of_eq (a:=(Value.ref it,[])) rfl ?_)
 try dsimp only
 refine wpAny_bind (wpAny_field ho hd (x:= .str x t) rfl ?_)
 refine wpAny_bind (wpAny_field ho hd (x:=rawInt (-1)) rfl ?_)
 show wpAny _ _ (if (-1:Int)<0 then _ else _) _ _ s
 rw[if_pos (by decide)]
 refine wpAny_bind (wpAny_rule ?_)
 refine wpAny_bind ?_
 show wpAny _ _ (setField (Value.ref it) 1 (rawInt (-1)) >>= fun _=>setField (Value.ref it) 0 .none) _ _ _
 refine wpAny_bind (wpAny_setField ho hd (by simp) ?_)
 refine wpAny_setField (X9 _ ho (Obj.isFreed_of_fields (Obj.data_mapFields hd _))) (Obj.data_mapFields hd _) (by simp) ?_
 first
 | show wpAny _ _ (newExc (.type "StopIteration") [] >>= _) _ _ _
 |(refine wpAny_bind ?_;show wpAny _ _ (newExc (.type "StopIteration") [] >>= _) _ _ _)
 refine wpAny_bind ?_
 simp only[newExc,newTuple]
 refine wpAny_bind (wpAny_newObj_type ?_ (by size_fits))
 refine wpAny_bind (m:=firstArgMember _ _) (wpAny_of_eq (a:=Value.none) (by first | rfl | (simp only[firstArgMember];rfl)) ?_)
 refine wpAny_newObj_type ?_ (by size_fits)
 simp only[raiseNew]
 refine wpAny_bind (wpAny_handled ?_)
 first | rw[show A.in1.handled=none from hh] | rw[hh]
 refine wpAny_bind (wpAny_pure (wpAny_throw ?_))
 refine wpAny_bind (wpAny_isInstance (T:="StopIteration") (b:=true) ⟨_,Xq _ rfl,rfl⟩ isSubtype_stop ?_)
 refine wpAny_pure (hQ _ fun b ob hb e=>?_)
 refine Sy _ (Sy _ ?_)
 exact (XO _ _ (Ne.symm hb)).trans ((XO _ _ (Ne.symm hb)).trans e)
end
noncomputable def E_ (xs:List V):It:=⟨fun i _=>i<xs.length,fun i H x H'=>H'=H/\xs[i]? =some x,fun i _=>xs.length<=i⟩
theorem eT {l:List Nat} {i:Nat} {x:V} (h:(cn l)[i]? =some x): ∃c,l[i]? =some c/\x= .str (S [c]):=by
 unfold cn at h
 rw[Xo]at h
 cases e:l[i]? with
 | none=>rw[e]at h;cases h
 | some c=>rw[e]at h;cases h;exact ⟨c,rfl,rfl⟩
theorem aN (l:List Nat):(cn l).length=l.length:=by unfold cn;rw[Kw]
theorem BZ {P:Program} {w:World} {K:PySem.W.Frag} {tg:Expr} (it:Addr) (l:List Nat) (t:Tok):Turn P w K tg (E_ (cn l)) [it] it (fun i h=>h.IsStrIter it (strIterType (S l)) (S l) t i) where
 mem:=by simp
 obj:=fun i h st b hb=>by
  have e:b=it:=by simpa using hb
  subst e
  obtain ⟨o,e,c,d⟩:=st
  exact ⟨o,e,fun v z=>by rw[d]at z;cases z⟩
 keep:=fun i h h' st k=>let ⟨o,e,r⟩:=st;⟨o,k it (by simp) o e,r⟩
 item:=by
  intro X hP hw hK hc i pins s σ H E I hf st hg
  subst hP hw hK
  have Fb:i<l.length:=by have:i<(cn l).length:=hg;rwa [aN]at this
  obtain ⟨f0,f1,f2,f3,f4,f5⟩:=hf it (by simp)
  have fin: ∀(v:Value) (h':Heap) (tk:Nat),SignAt (S l) i v->h'.IsStrIter it (strIterType (S l)) (S l) t (i+1)->(∀b o,b∉[it]->s.heap.get? b=some o->h'.get? b=some o)->
    ∃u,some v=some u/\wpAny (model X.prog X.w) X.A (letOwnedTupleGo tg (.ref it) u) (fun _ s2=> ∃x H',Inv X pins σ H' s2/\RelV x u/\(E_ (cn l)).Br i H x H'/\s2.heap.IsStrIter it (strIterType (S l)) (S l) t (i+1)/\ ∀b∈[it],H' b=none) E { s with heap:=h',toks:=tk }:=by
   intro v h' tk hv uE kk
   obtain ⟨c,u,e1,e2⟩:=hv
   subst e2
   have I1:Inv X pins σ H { s with heap:=h',toks:=tk }:=I.turned (fun b o hb e=>kk b o (by simpa using hb) e) f0 f1 f3 f4 f5
   obtain ⟨o,e,cc,d⟩:=id uE
   refine ⟨_,rfl,uO (s:={ s with heap:=h',toks:=tk }) e cc d (by unfold strIterType;split<;>decide) ⟨.str (S [c]),H,I1,⟨u,rfl⟩,⟨rfl,?_⟩,uE,fun b hb=>(hf b hb).1⟩⟩
   unfold cn
   rw[Xo]
   have B2:l[i]? =some c:=by simpa [S]using e1
   rw[B2]
   rfl
  have hsz:i<(S l).cps.size:=by rw[lT];exact Fb
  by_cases ha:(S l).cps.all (· <128)=true
  ·have et:strIterType (S l)="str_ascii_iterator":=by unfold strIterType;rw[if_pos ha]
   rw[et]at st
   exact (Walks.strAscii (prog:=X.prog) (w:=X.w) (I.ok.hd hc) it (S l) t).item i s _ _ hsz st fun v h' tk hv uE kk=>fin v h' tk hv (by rw[et];exact uE) kk
  ·have et:strIterType (S l)="str_iterator":=by unfold strIterType;rw[if_neg ha]
   rw[et]at st
   exact (Walks.strWide (prog:=X.prog) (w:=X.w) (I.ok.hd hc) it (S l) t).item i s _ _ hsz st fun v h' tk hv uE kk=>fin v h' tk hv (by rw[et];exact uE) kk
 done:=by
  intro X hP hw hK hc i pins s σ H E I hf st hg
  subst hP hw hK
  obtain ⟨f0,f1,f2,f3,f4,f5⟩:=hf it (by simp)
  have Fb:l.length<=i:=by have:(cn l).length<=i:=hg;rwa [aN]at this
  have hx:(S l).cps[i]? =none:=by rw[Array.getElem?_eq_none_iff,lT];exact Fb
  by_cases ha:(S l).cps.all (· <128)=true
  ·have et:strIterType (S l)="str_ascii_iterator":=by unfold strIterType;rw[if_pos ha]
   rw[et]at st
   exact wpAny_pyNext_ascii_end (I.ok.hd hc) st hx fun h' eb=>⟨rfl,I.turned (t':=s.toks) (fun b o hb e=>eb b o hb e) f0 f1 f3 f4 f5⟩
  ·have et:strIterType (S l)="str_iterator":=by unfold strIterType;rw[if_neg ha]
   rw[et]at st
   exact wpAny_pyNext_wide_end (I.ok.hd hc) st hx fun h' eb=>⟨rfl,I.turned (t':=s.toks) (fun b o hb e=>eb b o hb e) f0 f1 f3 f4 f5⟩
 self:=fun _ _ s _ _ st h=>by
  by_cases ha:(S l).cps.all (· <128)=true
  ·have et:strIterType (S l)="str_ascii_iterator":=by unfold strIterType;rw[if_pos ha]
   rw[et]at st
   exact wpAny_pyIter_striter_ascii st h
  ·have et:strIterType (S l)="str_iterator":=by unfold strIterType;rw[if_neg ha]
   rw[et]at st
   exact wpAny_pyIter_striter_wide st h
theorem B3 {P:Program} {w:World} {K:PySem.W.Frag} {tg:Expr} (it:Addr) (l:List Nat) (t:Tok) (hz:l.length<=sizeLine):Turn P w K tg (E_ (cn l).reverse) [it] it (fun i h=>i<=l.length/\cU h it (S l) t ((l.length:Int) - 1 - (i:Int))) where
 mem:=by simp
 obj:=fun i h st b hb=>by
  have e:b=it:=by simpa using hb
  subst e
  obtain ⟨_,o,e,c,d⟩:=st
  exact ⟨o,e,fun v z=>by rw[d]at z;cases z⟩
 keep:=fun i h h' st k=>let ⟨q,o,e,r⟩:=st;⟨q,o,k it (by simp) o e,r⟩
 item:=by
  intro X hP hw hK hc i pins s σ H E I hf st hg
  subst hP hw hK
  have Fb:i<l.length:=by have:i<(cn l).reverse.length:=hg;rwa [XB,aN]at this
  obtain ⟨f0,f1,f2,f3,f4,f5⟩:=hf it (by simp)
  obtain ⟨_,st⟩:=st
  have e:(l.length:Int) - 1 - (i:Int)=((l.length - 1 - i:Nat):Int):=by omega
  rw[e]at st
  have dk:l.length - 1 - i<l.length:=by omega
  refine h7 (c:=l[l.length - 1 - i]) st (by simp[S,dk]) (by rw[b_];exact hz) fun h' tk u uE sb=>?_
  have I1:Inv X pins σ H { s with heap:=h',toks:=tk }:=I.turned (fun b o hb e=>(sb.2 b hb).trans e) f0 f1 f3 f4 f5
  obtain ⟨o,e1,cc,d⟩:=id uE
  refine ⟨_,rfl,uO (s:={ s with heap:=h',toks:=tk }) e1 cc d (by decide) ⟨.str (S [l[l.length - 1 - i]]),H,I1,⟨u,rfl⟩,⟨rfl,?_⟩,⟨Fb,?_⟩,fun b hb=>(hf b hb).1⟩⟩
  ·rw[YS (by rw[aN];exact Fb),aN]
   unfold cn
   rw[Xo,Iw dk]
   rfl
  ·have e2:(l.length:Int) - 1 - ((i+1:Nat):Int)=((l.length - 1 - i:Nat):Int) - 1:=by omega
   rw[e2]
   exact uE
 done:=by
  intro X hP hw hK hc i pins s σ H E I hf st hg
  subst hP hw hK
  obtain ⟨f0,f1,f2,f3,f4,f5⟩:=hf it (by simp)
  have Fb:l.length<=i:=by have:(cn l).reverse.length<=i:=hg;rwa [XB,aN]at this
  obtain ⟨hi,st⟩:=st
  have e:(l.length:Int) - 1 - (i:Int)= -1:=by omega
  rw[e]at st
  exact iP (I.ok.hd hc) st fun h' eb=>⟨rfl,I.turned (t':=s.toks) (fun b o hb e=>eb b o hb e) f0 f1 f3 f4 f5⟩
 self:=fun _ _ _ _ _ st h=>fR st.2 h
section
variable {X:Cx} {tg:Expr}
def QK (tl:TE):TI:=fun σ H R=>tl σ H fun x H1=> ∃l,x= .str (S l)/\R (E_ (cn l)) H1
theorem jZ {l:Expr} {tl:TE} (hl:PE X l tl):PI X tg l (QK tl):=by
 intro pins s σ H R I h
 refine b8 (hl pins s σ H _ I h) fun v s1 ⟨x,H1,I1,r1,q1⟩=>?_
 obtain ⟨l,rfl,q⟩:=q1
 obtain ⟨t,rfl⟩:=r1
 refine wpAny_pyIter_strU ?_
 refine ⟨s1.heap.objs.size,[s1.heap.objs.size],_,_,H1,rfl,I1.kept (t':=s1.toks) fun b o e=>Sy _ e,BZ _ l t,⟨_,Xq _ rfl,rfl,rfl⟩,fun b hb=>?_,q⟩
 have e:b=s1.heap.objs.size:=by simpa using hb
 subst e
 exact I1.qc (OS _) (I1.bX.fresh (OS _))
def QL (ta:TA):TI:=fun σ H R=>ta σ H fun vs H1=> ∃l,vs=[.str (S l)]/\l.length<=sizeLine/\R (E_ (cn l).reverse) H1
theorem xo {a:Expr} {ta:TA} {p pos:Pos} (hg:Gl X "reversed") (hm:X.mg "reversed"=none) (ha:PA X [a] ta) (hs:starEach [a] X.env=[(false,eval a X.env)]:=by rfl):PI X tg (.Call (.Name "reversed" p) [a] [] pos) (QL ta):=by
 intro pins s σ H R I h
 refine Call_ (gv I hg hm boot_reversed (X1 (b8 (ha pos pins s σ H _ I h) fun us s1 ⟨vs,H1,I1,r1,q1⟩=>?_) hs rfl))
 obtain ⟨l,rfl,hz,q⟩:=q1
 obtain ⟨u,rfl,t,rfl⟩:=vals1 r1
 refine iO (by rw[b_];exact hz) fun tk=>?_
 have hit:cU (s1.heap.push { cls:= .type "reversed",data:= .fields #[.str (S l) t,rawInt (((S l).length:Int) - 1)] }) s1.heap.objs.size (S l) t (((S l).length:Int) - 1):=⟨_,Xq _ rfl,rfl,rfl⟩
 refine fR hit ?_
 refine ⟨s1.heap.objs.size,[s1.heap.objs.size],_,_,H1,rfl,I1.kept (t':=tk) fun b o e=>Sy _ e,B3 _ l t hz,⟨WO _,?_⟩,fun b hb=>?_,q⟩
 ·have e:(l.length:Int) - 1 - ((0:Nat):Int)=((S l).length:Int) - 1:=by rw[b_];simp
  rw[e]
  exact hit
 ·have e:b=s1.heap.objs.size:=by simpa using hb
  subst e
  exact I1.qc (OS _) (I1.bX.fresh (OS _))
end
theorem sF {xs:List V} {g:TG} {tb:TS} {D:Ends} {σ:St} {H:Hp} (Pv:Nat->St->Hp->Prop) (h0:Pv 0 σ H)
  (hs: ∀i x σ H,xs[i]? =some x->Pv i σ H->g x σ H fun σ2 H2=>tb { D with nx:=Pv (i+1),ct:=Pv (i+1),bk:=D.nx } σ2 H2) (hd: ∀σ H,Pv xs.length σ H->D.nx σ H):
  ∃W:Nat->Nat->St->Hp->Prop,(∃m,W 0 m σ H)/\ ∀i m σ H,W i m σ H->
   ((E_ xs).stop i H/\D.nx σ H)\/((E_ xs).go i H/\ ∃N:St->Hp->Prop,(∀σ' H',N σ' H'-> ∃m',m'<m/\W (i+1) m' σ' H')/\ ∀x H',(E_ xs).Br i H x H'->g x σ H' fun σ2 H2=>tb { D with nx:=N,ct:=N,bk:=D.nx } σ2 H2):=by
 refine ⟨fun i m σ H=>m=xs.length - i/\i<=xs.length/\Pv i σ H,⟨xs.length,by simp,WO _,h0⟩,?_⟩
 rintro i m σ H ⟨rfl,hi,p⟩
 by_cases dk:i<xs.length
 ·refine .inr ⟨dk,Pv (i+1),fun σ' H' p'=>⟨xs.length - (i+1),by omega,rfl,dk,p'⟩,fun x H' y=>?_⟩
  obtain ⟨e,y⟩:=y
  subst e
  exact hs i x σ _ y p
 ·have e:i=xs.length:=by omega
  subst e
  exact .inl ⟨OS _,hd σ H p⟩
theorem nK {J:It} {n:Nat} {xs:Nat->V->Prop} {σc:St} {g:TG} {tc:TT} {te:TE} {Q:VK} {H1:Hp} (Pv:Nat->List V->Hp->Prop) (hn:n<sizeLine) (UN: ∀i acc H,i<n->Pv i acc H->J.go i H) (Nd: ∀acc H,Pv n acc H->J.stop n H)
  (hy: ∀i acc H x H',i<n->Pv i acc H->J.Br i H x H'->H'=H/\xs i x) (h0:Pv 0 [] H1)
  (hs: ∀(i:Nat) (x:V) (acc:List V) (H:Hp) (Nx:List V->Hp->Prop),i<n->xs i x->acc.length<=i->Pv i acc H->(∀cq H',cq.length<=i+1->Pv (i+1) cq H'->Nx cq H')->
   g x σc H fun σ2 H2=>Wk σc σ2/\tc σ2 H2 fun b H3=>if b=true then te σ2 H3 fun v H4=>Nx (acc++[v]) H4 else Nx acc H3)
  (hd: ∀acc H D,acc.length<=n->Pv n acc H->H D=none->Q (.ref D) (upd H D (.lst acc))):qL J σc g tc te Q H1:=by
 refine ⟨fun i m acc H=>m=n - i/\i<=n/\acc.length<=i/\Pv i acc H,⟨n,by simp,WO _,OS _,h0⟩,?_⟩
 rintro i m acc H ⟨rfl,hi,hl,p⟩
 refine ⟨by omega,?_⟩
 by_cases dk:i<n
 ·refine .inr ⟨UN i acc H dk p,fun x H' y=>?_⟩
  obtain ⟨rfl,y2⟩:=hy i acc H x H' dk p y
  exact hs i x acc _ (fun cq H'=> ∃m',m'<n - i/\(m'=n - (i+1)/\i+1<=n/\cq.length<=i+1/\Pv (i+1) cq H')) dk y2 hl p fun cq H' h1 h2=>⟨n - (i+1),by omega,rfl,dk,h1,h2⟩
 ·have e:i=n:=by omega
  subst e
  exact .inl ⟨Nd acc H p,fun D hD=>hd acc H D hl p hD⟩
theorem fS {xs:List V} {σc:St} {g:TG} {tc:TT} {te:TE} {Q:VK} {H1:Hp} (Pv:Nat->List V->Hp->Prop) (hn:xs.length<sizeLine) (h0:Pv 0 [] H1)
  (hs: ∀(i:Nat) (x:V) (acc:List V) (H:Hp) (Nx:List V->Hp->Prop),i<xs.length->xs[i]? =some x->acc.length<=i->Pv i acc H->(∀cq H',cq.length<=i+1->Pv (i+1) cq H'->Nx cq H')->
   g x σc H fun σ2 H2=>Wk σc σ2/\tc σ2 H2 fun b H3=>if b=true then te σ2 H3 fun v H4=>Nx (acc++[v]) H4 else Nx acc H3)
  (hd: ∀acc H D,acc.length<=xs.length->Pv xs.length acc H->H D=none->Q (.ref D) (upd H D (.lst acc))):qL (E_ xs) σc g tc te Q H1:=
 nK (xs:=fun i x=>xs[i]? =some x) Pv hn (fun i _ _ h _=>h) (fun _ _ _=>OS _) (fun i _ H x H' _ _ y=>y) h0 hs hd
theorem B4 {lo:Int} {n:Nat} {σc:St} {g:TG} {tc:TT} {te:TE} {Q:VK} {H1:Hp} (Pv:Nat->List V->Hp->Prop) (hn:n<sizeLine) (h0:Pv 0 [] H1)
  (hs: ∀(i:Nat) (acc:List V) (H:Hp) (Nx:List V->Hp->Prop),i<n->acc.length<=i->Pv i acc H->(∀cq H',cq.length<=i+1->Pv (i+1) cq H'->Nx cq H')->
   g (.int (lo+i)) σc H fun σ2 H2=>Wk σc σ2/\tc σ2 H2 fun b H3=>if b=true then te σ2 H3 fun v H4=>Nx (acc++[v]) H4 else Nx acc H3)
  (hd: ∀acc H D,acc.length<=n->Pv n acc H->H D=none->Q (.ref D) (upd H D (.lst acc))):qL (GZ lo n) σc g tc te Q H1:=
 nK (xs:=fun i x=>x= .int (lo+i)) Pv hn (fun i _ _ h _=>h) (fun _ _ _=>OS _) (fun i _ H x H' _ _ y=>y) h0 (fun i x acc H Nx h1 h2=>by subst h2;exact hs i acc H Nx h1) hd
theorem qP {K:PySem.W.Frag} {a:Addr} {xs:List V} {σc:St} {g:TG} {tc:TT} {te:TE} {Q:VK} {H1:Hp} (Pv:Nat->List V->Hp->Prop) (hn:xs.length<sizeLine) (hl: ∀i acc H,Pv i acc H->bC K H a xs) (h0:Pv 0 [] H1)
  (hs: ∀(i:Nat) (x:V) (acc:List V) (H:Hp) (Nx:List V->Hp->Prop),i<xs.length->xs[i]? =some x->acc.length<=i->Pv i acc H->(∀cq H',cq.length<=i+1->Pv (i+1) cq H'->Nx cq H')->
   g x σc H fun σ2 H2=>Wk σc σ2/\tc σ2 H2 fun b H3=>if b=true then te σ2 H3 fun v H4=>Nx (acc++[v]) H4 else Nx acc H3)
  (hd: ∀acc H D,acc.length<=xs.length->Pv xs.length acc H->H D=none->Q (.ref D) (upd H D (.lst acc))):qL (Kt K a) σc g tc te Q H1:=
 nK (xs:=fun i x=>xs[i]? =some x) Pv hn (fun i acc H h p=>⟨xs,xs[i],hl i acc H p,by simp[h]⟩) (fun acc H p=>⟨xs,hl _ acc H p,OS _⟩) (fun i acc H x H' h p y=>⟨y.1,y.2 xs (hl i acc H p)⟩) h0 hs hd
def Fc (c:TT) (tb:TS):TS:=fun D σ H=> ∃W:Nat->St->Hp->Prop,(∃m,W m σ H)/\ ∀m σ H,W m σ H->
 c σ H fun b H1=>if b=true then tb { D with nx:=fun σ' H'=> ∃m',m'<m/\W m' σ' H',ct:=fun σ' H'=> ∃m',m'<m/\W m' σ' H',bk:=D.nx } σ H1 else D.nx σ H1
theorem dF {X:Cx} {c:Expr} {body:List Stmt} {tc:TT} {tb:TS} {pos:Pos} (hp:PassesOwn (model X.prog X.w) X.A X.env X.xe) (hc:PT X c tc) (hb:wM X body tb):PS X (.While c body [] pos) (Fc tc tb):=by
 intro pins s σ H D I h
 obtain ⟨W,⟨m0,w0⟩,turn⟩:=h
 refine wpAny_While (codeAny_whileLoop (fun n s'=> ∃σ' H',Inv X pins σ' H' s'/\W n σ' H') ?_ m0 ⟨σ,H,I,w0⟩)
 rintro n s1 ⟨σ1,H1,I1,w1⟩
 refine wpAny_passesOwn hp (b8 (hc pins s1 σ1 H1 _ I1 (turn n σ1 H1 w1)) fun b s2 ⟨H2,I2,q2⟩=>?_)
 cases b with
 | true=>
  rw[if_pos rfl]at q2 ⊢
  refine wpAny_passesOwn hp (b8 (hb pins s2 σ1 H2 _ I2 q2) fun f s3 q3=>?_)
  cases f with
  | next=>
   obtain ⟨σ3,H3,I3,m',hm,w3⟩:=q3
   exact ⟨m',hm,σ3,H3,I3,w3⟩
  | cont=>
   obtain ⟨σ3,H3,I3,m',hm,w3⟩:=q3
   exact ⟨m',hm,σ3,H3,I3,w3⟩
  | brk=>exact q3
  | ret v=>exact q3
 | false=>
  rw[if_neg Xv]at q2 ⊢
  exact wpAny_execs_nil ⟨σ1,H2,I2,q2⟩
noncomputable def sG (X:Cx) (scope:Scope):Bool:=(scope.names.all fun y=>y.2 != .cell)&&(scope.kind== .function)&&(scope.names.all fun y=>y.2 != .free||X.env.kindOf y.1==some .cell||X.env.kindOf y.1==some .free)&&(scope.names.all fun y=>y.2 != .local||scope.names.lookup y.1==some .local)
theorem kH {X:Cx} {scope:Scope} (h:sG X scope=true):(∀y∈scope.names,y.2≠ .cell)/\scope.kind= .function/\(∀y∈scope.names,y.2= .free->X.env.kindOf y.1=some .cell\/X.env.kindOf y.1=some .free)/\(∀x∈scope.names,x.2= .local->scope.names.lookup x.1=some .local):=by
 unfold sG at h
 simp only[X8]at h
 obtain ⟨⟨⟨h1,h2⟩,h3⟩,h4⟩:=h
 refine ⟨fun y hy e=>?_,by simpa using h2,fun y hy e=>?_,fun y hy e=>?_⟩
 ·have:=Qak.mp h1 y hy
  rw[e]at this;simp at this
 ·have:=Qak.mp h3 y hy
  rw[e]at this
  simpa using this
 ·have:=Qak.mp h4 y hy
  rw[e]at this
  simpa using this
theorem cV {X:Cx} {tg iter elt:Expr} {ifs:List Expr} {scope:Scope} {pos:Pos} {wi:TI} {g:TG} {tc:TT} {te:TE} (Nc:List Str) (ix:List (Option Nat)) (hi:PI X tg iter wi) (xh:jB X scope Nc ix)
  (hG: ∀C s H fp,PG (bP X scope C Nc s H fp) tg g) (hT: ∀C s H fp,PF (bP X scope C Nc s H fp) ifs tc) (hE: ∀C s H fp,PE (bP X scope C Nc s H fp) elt te) (bX:sG X scope=true:=by rfl) (jI:X.calm=true:=by rfl)
  (hs: ∀x,foldedSetIterable iter X.env x=pure x:=by intro _;rfl):PE X (.ListComp elt [⟨tg,iter,ifs,0⟩] scope pos) (uY wi ix g tc te):=
 let ⟨h1,h2,h3,h4⟩:=kH bX
 E4 Nc ix hi jI xh h1 h2 h3 h4 hG hT hE hs
theorem B5 {X:Cx} {i:Nat} {x:Str} {tg iter elt:Expr} {ifs:List Expr} {scope:Scope} {pos BR pos':Pos} {wi:TI} {g:TG} {tc:TT} {te:TE} (Nc:List Str) (ix:List (Option Nat)) (hN:X.N.Nodup) (M5:X.N[i]? =some x) (hx:Loc X.env.scope x)
  (hi:PI X tg iter wi) (xh:jB X scope Nc ix)
  (hG: ∀C s H fp,PG (bP X scope C Nc s H fp) tg g) (hT: ∀C s H fp,PF (bP X scope C Nc s H fp) ifs tc) (hE: ∀C s H fp,PE (bP X scope C Nc s H fp) elt te)
  (M6:swapsWith (.ListComp elt [⟨tg,iter,ifs,0⟩] scope pos) (some (.Name x pos')) BR.line X.env=pure true:=by rfl) (bX:sG X scope=true:=by rfl) (jI:X.calm=true:=by rfl)
  (hs: ∀x,foldedSetIterable iter X.env x=pure x:=by intro _;rfl) (hf:X.fn x=true\/X.env.scope.names.lookup x=some .local:=by first | exact .inl rfl | exact .inr rfl | assumption):
  PS X (.Assign [.Name x pos'] (.ListComp elt [⟨tg,iter,ifs,0⟩] scope pos) BR) (EJ (uY wi ix g tc te) (uN i)):=
 let ⟨h1,h2,h3,h4⟩:=kH bX
 E5 Nc ix hN M5 hx M6 hi jI xh h1 h2 h3 h4 hG hT hE hs hf
section
variable {X:Cx}
def QM:R2:=fun x y H Q=> ∃a b,x= .str (S a)/\y= .str (S b)/\Q (.bl (decide (a=b))) H
def QN:R2:=fun x y H Q=> ∃a b,x= .str (S a)/\y= .str (S b)/\Q (.bl (!decide (a=b))) H
theorem iQ:iE X (compareOp .Eq) QM:=by
 intro pins s σ H x y v u Q I rx ry h
 obtain ⟨a,b,rfl,rfl,q⟩:=h
 exact G1 pins s σ H _ _ v u Q I rx ry ⟨rfl,by rw[G7];exact q⟩
theorem II:iE X (compareOp .NotEq) QN:=by
 intro pins s σ H x y v u Q I rx ry h
 obtain ⟨a,b,rfl,rfl,q⟩:=h
 exact G2 pins s σ H _ _ v u Q I rx ry ⟨rfl,by rw[G7];exact q⟩
theorem Ha {i j:Int}:decide (V.int i=V.int j)=decide (i=j):=by
 by_cases h:i=j
 ·subst h;simp
 ·rw[decide_eq_false h,decide_eq_false]
  intro q
  exact h (V.int.inj q)
theorem j4:iE X (compareOp .Eq) (Ek fun i j=> .bl (decide (i=j))):=by
 intro pins s σ H x y v u Q I rx ry h
 obtain ⟨a,b,rfl,rfl,q⟩:=h
 exact G1 pins s σ H _ _ v u Q I rx ry ⟨rfl,by rw[Ha];exact q⟩
theorem sH:iE X (compareOp .NotEq) (Ek fun i j=> .bl (!decide (i=j))):=by
 intro pins s σ H x y v u Q I rx ry h
 obtain ⟨a,b,rfl,rfl,q⟩:=h
 exact G2 pins s σ H _ _ v u Q I rx ry ⟨rfl,by rw[Ha];exact q⟩
def QO (f:List Nat->List Nat->Bool):R2:=fun x y H Q=> ∃a b,x= .str (S a)/\y= .str (S b)/\Q (.bl (f a b)) H
theorem sI:iE X (compareOp .Lt) (QO fun a b=>decide (a<b)):=by
 intro pins s σ H x y v u Q I rx ry h
 obtain ⟨a,b,rfl,rfl,q⟩:=h
 exact z9 pins s σ H _ _ v u Q I rx ry ⟨S a,S b,rfl,rfl,by rw[dR,dR];exact q⟩
end
section
variable {X:Cx} {tg:Expr}
theorem aZ (K:PySem.W.Frag) (h:X.K=K):Ii X (MQ K):=by subst h;exact EU
theorem bD (K:PySem.W.Frag) (h:X.K=K):Ii X (MR K):=by subst h;exact Ij
def Nf (K:PySem.W.Frag):List V->Hp->VK->Prop:=fun xs H Q=> ∃p ys,xs=[.ref p]/\(bC K H p ys\/cS K H p ys)/\Q (.int ys.length) H
theorem aX (K:PySem.W.Frag) (h:X.K=K):dN X (.builtin "len") (Nf K):=by subst h;exact sr
theorem fT (K:PySem.W.Frag) (h:X.K=K):Ai X "str.join" (BX K):=by subst h;exact BY
def Fd (K:PySem.W.Frag):List V->Hp->VK->Prop:=fun xs H Q=> ∃p ys,xs=[.ref p]/\(bC K H p ys\/cS K H p ys)/\ ∀l,H l=none->Q (.ref l) (upd H l (.lst ys))
theorem jK (K:PySem.W.Frag) (h:X.K=K):dN X (.type "list") (Fd K):=by subst h;exact sC
theorem iR (K:PySem.W.Frag) (h:X.K=K):OO X (MT K):=by subst h;exact EV
theorem gJ (K:PySem.W.Frag) (h:X.K=K) {l:Expr} {tl:TE} (hl:PE X l tl):PI X tg l (G0 K tl):=by subst h;exact EK hl
theorem sJ (K:PySem.W.Frag) (h:X.K=K) {l:Expr} {tl:TE} (hl:PE X l tl):PI X tg l (Mv K tl):=by subst h;exact HW hl
end
section
variable {X:Cx} {o e:Expr} {es:List Expr} {to:TE} {t:TA} {name:Str} {apos fQ:Pos} {T id:String} {r:V->List V->Hp->VK->Prop}
theorem eU (K:PySem.W.Frag) (hK:X.K=K) (pa:PlainAttrs T) (slot:Slot T name id) (Ip:typeOf (.builtin id)=pure (.type "method_descriptor")) (hm:Ai X id r) (ho:PE X o to)
  (kB:attributeBase o name X.env (eval o X.env)=eval o X.env:=by rfl) (jG:(apos.endLine==fQ.line)=true:=by rfl):PE X (.Call (.Attribute o name apos) [] [] fQ) (MU K T r to):=by
 subst hK
 exact Io pa slot Ip hm ho kB jG
theorem bU (K:PySem.W.Frag) (hK:X.K=K) (pa:PlainAttrs T) (slot:Slot T name id) (Ip:typeOf (.builtin id)=pure (.type "method_descriptor")) (hm:Ai X id r) (ho:PE X o to) (ha:PA X (e::es) t)
  (kB:attributeBase o name X.env (eval o X.env)=eval o X.env:=by rfl)
  (Aj:((backTo fQ (starEach (e::es) X.env)).all (fun x=>!x.1)&&(backToKw fQ (keywordEach [] X.env)).all (fun x=>x.1.isSome)
   &&decide ((e::es).length+([]:List Keyword).length+(if ([]:List Keyword).isEmpty then 0 else 1)<30))=true:=by rfl)
  (jG:(apos.endLine==fQ.line)=true:=by rfl) (hs:starEach (e::es) X.env=(false,eval e X.env)::starEach es X.env:=by rfl) (w6:(backTo fQ (starEach es X.env)).any (·.1)=false:=by rfl):
  PE X (.Call (.Attribute o name apos) (e::es) [] fQ) (Su K T r to t):=by
 subst hK
 exact MV pa slot Ip hm ho ha kB Aj jG hs w6
end
mutual
inductive Bt (K:PySem.W.Frag) (H:Hp):V->PyData->Prop
 | fB:Bt K H .fB .none
 | bl (b:Bool):Bt K H (.bl b) (.bool b)
 | int (i:Int):Bt K H (.int i) (.int i)
 | str (x:Str):Bt K H (.str x) (.str x)
 | lst {a:Addr} {xs:List V} {ds:List PyData} (h:bC K H a xs) (r:qg K H xs ds):Bt K H (.ref a) (.list ds)
 | tup {a:Addr} {xs:List V} {ds:List PyData} (h:cS K H a xs) (r:qg K H xs ds):Bt K H (.ref a) (.tuple ds)
inductive qg (K:PySem.W.Frag) (H:Hp):List V->List PyData->Prop
 | nil:qg K H [] []
 | cons {x:V} {xs:List V} {d:PyData} {ds:List PyData} (h:Bt K H x d) (r:qg K H xs ds):qg K H (x::xs) (d::ds)
end
section
variable {X:Cx} {pins:List (Addr×Obj)} {σ:St} {H:Hp} {s:Shared}
mutual
theorem Bt.reads (I:Inv X pins σ H s): ∀{x:V} {d:PyData} {u:Value},Bt X.K H x d->RelV x u-> ∃as,Reads s.heap u d as
 | _,_,u, .fB,r=>by cases (show u=Value.none from r);exact ⟨_, .none⟩
 | _,_,u, .bl b,r=>by cases (show u=Value.bool b from r);exact ⟨_, .bool b⟩
 | _,_,u, .int i,r=>by obtain ⟨t,rfl⟩:=r;exact ⟨_, .int i t⟩
 | _,_,u, .str x,r=>by obtain ⟨t,rfl⟩:=r;exact ⟨_, .str x t⟩
 | _,_,u, .lst (a:=a) h q,r=>by
  cases (show u=Value.ref a from r)
  obtain ⟨aJ,rv,pl,_⟩:=I.list h
  obtain ⟨as,ra⟩:=qg.reads I q rv
  obtain ⟨o,ho,hc,n,hd⟩:=pl.isList
  exact ⟨_, .list ho hc hd (by simpa using ra)⟩
 | _,_,u, .tup (a:=a) h q,r=>by
  cases (show u=Value.ref a from r)
  obtain ⟨aJ,rv,pl,_⟩:=I.tuple h
  obtain ⟨as,ra⟩:=qg.reads I q rv
  obtain ⟨o,ho,hc,n,hd⟩:=pl
  exact ⟨_, .tuple ho hc hd (by simpa using ra)⟩
theorem qg.reads (I:Inv X pins σ H s): ∀{xs:List V} {ds:List PyData} {us:List Value},qg X.K H xs ds->Vals xs us-> ∃as,ReadsAll s.heap us ds as
 | _,_,us, .nil,r=>by cases r;exact ⟨_, .nil⟩
 | _,_,us, .cons h q,r=>by
  cases r with
  | cons r1 r2=>
   obtain ⟨as,ra⟩:=Bt.reads I h r1
   obtain ⟨bs,rb⟩:=qg.reads I q r2
   exact ⟨_, .cons ra rb⟩
end
end
section
variable {X:Cx}
def QP (K:PySem.W.Frag):R2:=fun x y H Q=> ∃dx dy,Bt K H x dx/\Bt K H y dy/\(dx.canLay0=true/\dy.canLay0=true)/\dx.depth<=60/\Q (.bl (PyData.eqv dx dy)) H
theorem IJ {k:Nat} (K:PySem.W.Frag) (h:X.K=K) (hr:eI k X.A):iE X (compareOp .Eq) (QP K):=by
 subst h
 intro pins s σ H x y v u Q I rx ry h
 obtain ⟨dx,dy,h1,h2,⟨h3,h4⟩,h5,q⟩:=h
 obtain ⟨as,ra⟩:=h1.reads I rx
 obtain ⟨bs,rb⟩:=h2.reads I ry
 have hu:=hr.units
 exact SeqAt.compareEq_reads ra rb h3 h4 (by omega) ⟨.bl _,H,I,rfl,q⟩
def Ng (K:PySem.W.Frag) (ta:TE):TT:=fun σ H Q=>ta σ H fun x H'=> ∃p xs,x= .ref p/\bC K H' p xs/\Q (!xs.isEmpty) H'
theorem Fe {a:Expr} {ta:TE} (K:PySem.W.Frag) (h:X.K=K) (ha:PE X a ta) (he: ∀whole,isTrue a X.env whole=(do let v <-whole;standAt a.pos;holding [v] (truthy v)):=by intro _;rfl):PT X a (Ng K ta):=by
 subst h
 intro pins s σ H Q I hw
 refine isTrue_plain (b8 (ha pins s σ H _ I hw) fun v s1 ⟨x,H1,I1,r1,q1⟩=>?_) (he _)
 obtain ⟨p,xs,rfl,hq,q⟩:=q1
 exact Ib pins s1 σ H1 _ v Q I1 r1 ⟨_, .inl ⟨xs,hq,rfl⟩,q⟩
theorem nM (K:PySem.W.Frag) (h:X.K=K) {es:List Expr} {k:Nat} {t:GY} {n:Nat} {pos:Pos} (hc:X.calm=true) (hs:Mq X es t)
  (hn:(assignEach es X.env).length=n:=by rfl) (mN:(assignEach es X.env).findIdx? (·.1)=none:=by rfl):PG X (.Tuple es k pos) (Mu K n t):=by
 subst h
 exact HU hc hs hn mN
end
noncomputable def cO (a b:List Nat):List Nat:=if b<a then b else a
noncomputable def cf:List Nat->List (List Nat)->List Nat
 | a,[]=>a
 | a,b::r=>cf (cO a b) r
theorem argBest_lt (bt:Nat->Nat->Bool): ∀n,argBest bt n<=n
 | 0=>OS _
 | n+1=>by
  unfold argBest
  split
  ·exact OS _
  ·exact Zp (argBest_lt bt n)
section
variable {X:Cx}
end
section
variable {X:Cx}
theorem Ff (K:PySem.W.Frag) (h:X.K=K):iE X (compareOp .NotIn) (Ss K true):=by subst h;exact sj
end
noncomputable def dz (n:Nat) (l:List Nat):List Nat:=(List.replicate n l).flatten
theorem eK (n:Nat) (l:List Nat):dz (n+1) l=l++dz n l:=by unfold dz;rw[Z0,YU]
theorem xp (n:Nat) (l:List Nat):dz (n+1) l=dz n l++l:=by unfold dz;rw[List.replicate_succ',List.flatten_append,YU,List.flatten_nil,XZ]
theorem u6 (n:Nat) (l:List Nat):(dz n l).length=n*l.length:=by
 induction n with
 | zero=>simp[dz]
 | succ n ih=>rw[eK,UD,ih,Zk,ZL]
theorem qQ (l:List Nat): ∀(n:Nat) (acc:Array Nat),((List.replicate n (S l).cps).foldl (· ++ ·) acc).toList=acc.toList++dz n l
 | 0,acc=>by simp[dz]
 | n+1,acc=>by
  rw[Z0,Zh,qQ l n,eK]
  simp[S]
def Nh:R2:=fun x y H Q=> ∃(l:List Nat) (i:Int),x= .str (S l)/\y= .int i/\(0<=i/\i<=1000000)/\l.length*i.toNat<=sizeLine/\Q (.str (S (dz i.toNat l))) H
theorem sM {X:Cx}:iE X (binaryOp .Mult) Nh:=by
 intro pins s σ H x y v u Q I rx ry h
 obtain ⟨l,i,rfl,rfl,⟨h0,h1⟩,hz,q⟩:=h
 obtain ⟨t,rfl⟩:=rx
 obtain ⟨t',rfl⟩:=ry
 have hn:=eG
 have QQ:(S l).length=l.length:=b_ l
 have QR:(l.length:Int)*i<=2 ^ 63 - 1:=by
  have e:((l.length*i.toNat:Nat):Int)=(l.length:Int)*i:=by rw[Qan,Int.toNat_of_nonneg h0]
  have:((l.length*i.toNat:Nat):Int)<=(sizeLine:Int):=by exact_mod_cast hz
  rw[<-e];omega
 refine P.mul_str (x:=S l) (n:=i) (t:=t) (u:=t') (by
  have e1:decide (i< -(2 ^ 63:Int))=false:=decide_eq_false (by omega)
  have e2:decide (i ≥ 2 ^ 63)=false:=decide_eq_false (by omega)
  rw[e1,e2];rfl) (fun z _=>?_) (fun z _=>?_) ?_
 ·rw[QQ]
  have:(l.length:Int)<=(2 ^ 63 - 1) / i:=(Int.le_ediv_iff_mul_le (by omega)).mpr QR
  omega
 ·rw[QQ]
  show Builtin.Str.tooLong _=false
  unfold Builtin.Str.tooLong
  exact decide_eq_false (by omega)
 ·by_cases z:i<1
  ·rw[if_pos z]
   have e:i.toNat=0:=by omega
   rw[e]at q
   exact ⟨by decide, .str _,H,I.tok _,⟨_,rfl⟩,q⟩
  ·rw[if_neg z]
   by_cases z2:(i==1||(S l).length==0)=true
   ·rw[if_pos z2]
    have e:dz i.toNat l=l:=by
     rcases Bool.or_eq_true _ _ |>.mp z2 with e | e
     ·have e:i=1:=by simpa using e
      subst e
      show dz 1 l=l
      rw[eK];simp[dz]
     ·have e:l.length=0:=by rw[QQ]at e;simpa using e
      have e:l=[]:=X7.mp e
      subst e
      unfold dz
      simp
    rw[e]at q
    exact ⟨.str _,H,I,⟨_,rfl⟩,q⟩
   ·rw[if_neg z2]
    have e:(⟨(List.replicate i.toNat (S l).cps).foldl (· ++ ·) #[]⟩:Str)=S (dz i.toNat l):=by
     have:=qQ l i.toNat #[]
     show _=(⟨(dz i.toNat l).toArray⟩:Str)
     congr 1
     apply ZD.mp
     rw[this]
     simp
    rw[e]
    refine ⟨?_, .str _,H,I.tok _,⟨_,rfl⟩,q⟩
    rw[b_,u6,YE]
    exact hz
section
variable {X:Cx}
end
section
variable {X:Cx} {pins:List (Addr×Obj)} {σ:St} {H:Hp} {s:Shared} {h':Heap}
theorem Inv.oB {t':Nat} {ch:List Addr} {T:Addr} {ob:HO} (I:Inv X pins σ H s) (k: ∀b o,b∉ch->s.heap.get? b=some o->h'.get? b=some o) (hf: ∀b∈ch,m5 X pins H b)
  (hT:s.heap.objs.size<=T) (new:cR X.prog X.w (upd H T ob) h' T ob):Inv X pins σ (upd H T ob) { s with heap:=h',toks:=t' }:=by
 have hn:=I.bX.fresh hT
 have GW: ∀b u,H b=some u->b∉ch:=fun b u e z=>by rw[(hf b z).1]at e;cases e
 have neT: ∀b o,s.heap.get? b=some o->b≠T:=fun b o e z=>absurd (XD (Xs e) hT) (by rw[z];exact XY _)
 refine I.step (g':=s.gens) (d':=s.drawn) (ch:=ch) (fun b hb=>?_) (fun b o _ _ hc e _=>k b o hc e) (fun b o _ _ hc e _=>⟨o.slots,k b o hc e⟩) (fun b o _ e n=>by rw[au (neT b o e)];exact n)
  (fun b o hc e=>⟨o,k b o hc e⟩) (fun b xs e=>by rw[au (ay e hn)];exact e) (fun b o u e=>by rw[au (ay e hn)];exact e) (fun b ps e=>⟨#[],by rw[au (ay e hn),e];simp⟩) (fun m hm=>?_) (fun b u e=>?_) I.bare
 ·obtain ⟨_,h2,_,h4,h5,h6⟩:=hf b hb
  exact ⟨h4,h2,h5,h6⟩
 ·obtain ⟨o,es,ep,ho,r⟩:=hm
  exact ⟨o,es,ep,k _ o (fun z=>(hf _ z).2.1 rfl) ho,r⟩
 ·by_cases hb:b=T
  ·subst hb;rw[ah]at e;cases e;exact new
  ·rw[au hb]at e
   refine (I.bX b u e).uK (fun c v hc q=>k c v ?_ q) (fun c q=>by rw[au (ay q hn)];exact q) fun c xs q=>by rw[au (ay q hn)];exact q
   rcases hc with z | z
   ·rw[z];exact GW b u e
   ·exact GW c _ z
theorem Inv.sN {t':Nat} {ch:List Addr} (I:Inv X pins σ H s) (k: ∀b o,b∉ch->s.heap.get? b=some o->h'.get? b=some o) (hf: ∀b∈ch,m5 X pins H b):Inv X pins σ H { s with heap:=h',toks:=t' }:=by
 have GW: ∀b u,H b=some u->b∉ch:=fun b u e z=>by rw[(hf b z).1]at e;cases e
 refine I.step (g':=s.gens) (d':=s.drawn) (ch:=ch) (fun b hb=>?_) (fun b o _ _ hc e _=>k b o hc e) (fun b o _ _ hc e _=>⟨o.slots,k b o hc e⟩) (fun b o _ e n=>n)
  (fun b o hc e=>⟨o,k b o hc e⟩) (fun b xs e=>e) (fun b o u e=>e) (fun b ps e=>⟨#[],by rw[e];simp⟩) (fun m hm=>?_) (fun b u e=>?_) I.bare
 ·obtain ⟨_,h2,_,h4,h5,h6⟩:=hf b hb
  exact ⟨h4,h2,h5,h6⟩
 ·obtain ⟨o,es,ep,ho,r⟩:=hm
  exact ⟨o,es,ep,k _ o (fun z=>(hf _ z).2.1 rfl) ho,r⟩
 ·refine (I.bX b u e).uK (fun c v hc q=>k c v ?_ q) (fun c q=>q) fun c xs q=>q
  rcases hc with z | z
  ·rw[z];exact GW b u e
  ·exact GW c _ z
end
noncomputable def Ni (l:List Nat):It:=⟨fun i _=>i<l.length,fun i H x H'=> ∃T c,l[i]? =some c/\x= .ref T/\H T=none/\H'=upd H T (.tup [.int i, .str (S [c])]),fun i _=>l.length<=i⟩
theorem qR {prog:Program} {w:World} {A:Around} (hh:A.handled=none) (it:Addr) (x:Str) (t:Tok):
  Draws prog w A it [it] x.cps.size (fun i v=> ∃c u,x.cps[i]? =some c/\v= .str ⟨#[c]⟩ u) (fun i h=>h.IsStrIter it (strIterType x) x t i):=by
 by_cases ha:x.cps.all (· <128)=true
 ·have et:strIterType x="str_ascii_iterator":=by unfold strIterType;rw[if_pos ha]
  rw[et];exact Draws.strAscii hh it x t
 ·have et:strIterType x="str_iterator":=by unfold strIterType;rw[if_neg ha]
  rw[et];exact Draws.strWide hh it x t
theorem xq {P:Program} {w:World} {K:PySem.W.Frag} {elts:List Expr} {k:Nat} {pos:Pos} (e it:Addr) (yP:e≠it) (l:List Nat) (t:Tok):
  Turn P w K (.Tuple elts k pos) (Ni l) [e,it] e (fun i h=>i<=l.length/\(∃old,IsEnum h e it i old)/\h.IsStrIter it (strIterType (S l)) (S l) t i) where
 mem:=by simp
 obj:=fun i h st b hb=>by
  obtain ⟨_,⟨old,he⟩,o,ho,hc,hd⟩:=st
  rcases UE.mp hb with z | z
  ·rw[z];exact ⟨_,he,fun v z=>by cases z⟩
  ·rw[Sz.mp z];exact ⟨o,ho,fun v z=>by rw[hd]at z;cases z⟩
 keep:=fun i h h' st kp=>by
  obtain ⟨h1,⟨old,he⟩,o,ho,r⟩:=st
  exact ⟨h1,⟨old,kp e (by simp) _ he⟩,o,kp it (by simp) o ho,r⟩
 item:=by
  intro X hP hw hK hc i pins s σ H E I hf st hg
  subst hP hw hK
  obtain ⟨_,wC,wB⟩:=st
  have D:=qR (prog:=X.prog) (w:=X.w) (A:=X.A.in1) (I.ok.hd hc) it (S l) t
  have W:=WalksT.enumerateD D e yP (by simpa using yP) (by simp)
  have hi:i<(S l).cps.size:=by rw[lT];exact hg
  refine W.item i s _ _ hi ⟨wC,wB⟩ fun T vals h' tk Nj hT B6 u7 hk=>⟨_,rfl,?_⟩
  refine W.go elts k pos i T { s with heap:=h',toks:=tk } _ _ u7 fun h2 u9 xr=>?_
  obtain ⟨tt,x,⟨c,u,QS,rfl⟩,rfl⟩:=Nj
  have Hb:T∉[e,it]:=W.apart i T h' u7
  have u_:h2.IsTuple T #[.int i tt, .str ⟨#[c]⟩ u]:=by
   obtain ⟨o,ho,r⟩:=B6
   exact ⟨o,xr T o Hb ho,r⟩
  have hl:l[i]? =some c:=by simpa [S]using QS
  refine ⟨.ref T,upd H T (.tup [.int i, .str (S [c])]),?_,rfl,⟨T,c,hl,rfl,I.bX.fresh hT,rfl⟩,⟨hg,u9.1,u9.2⟩,fun b hb=>?_⟩
  ·refine I.oB (t':=tk) (h':=h2) (fun b o hb y=>xr b o hb (hk b o hb y)) hf hT ?_
   exact ⟨by show 2<=sizeLine;decide,[.int i tt, .str ⟨#[c]⟩ u], .cons ⟨tt,rfl⟩ (.cons ⟨u,rfl⟩ .nil),u_⟩
  ·rw[au (fun z:b=T=>Hb (z▸hb))];exact (hf b hb).1
 done:=by
  intro X hP hw hK hc i pins s σ H E I hf st hg
  subst hP hw hK
  obtain ⟨h1,wC,wB⟩:=st
  have e1:i=l.length:=ZS h1 hg
  have D:=qR (prog:=X.prog) (w:=X.w) (A:=X.A.in1) (I.ok.hd hc) it (S l) t
  have W:=WalksT.enumerateD D e yP (by simpa using yP) (by simp)
  refine W.done s _ _ ?_ fun h' tk hk=>⟨rfl,I.sN (t':=tk) hk hf⟩
  rw[lT, <-e1]
  exact ⟨wC,wB⟩
 self:=fun _ _ s _ _ st h=>by
  obtain ⟨_,⟨old,he⟩,_⟩:=st
  exact wpAny_pyIter_enum he h
def IK (ta:TA):TI:=fun σ H R=>ta σ H fun vs H1=> ∃l,vs=[.str (S l)]/\R (Ni l) H1
theorem B7 {X:Cx} {elts:List Expr} {k:Nat} {pos':Pos} {a:Expr} {ta:TA} {p pos:Pos} (hg:Gl X "enumerate") (hm:X.mg "enumerate"=none) (ha:PA X [a] ta) (hs:starEach [a] X.env=[(false,eval a X.env)]:=by rfl):PI X (.Tuple elts k pos') (.Call (.Name "enumerate" p) [a] [] pos) (IK ta):=by
 intro pins s σ H R I h
 refine Call_ (gv I hg hm boot_enumerate (X1 (b8 (ha pos pins s σ H _ I h) fun us s1 ⟨vs,H1,I1,r1,q1⟩=>?_) hs rfl))
 obtain ⟨l,rfl,q⟩:=q1
 obtain ⟨u,rfl,t,rfl⟩:=vals1 r1
 refine call_enumerate_str fun h' he hit hsz hk=>?_
 refine wpAny_pyIter_enum he ?_
 refine ⟨s1.heap.objs.size+1,[s1.heap.objs.size+1,s1.heap.objs.size],_,_,H1,rfl,I1.kept (t':=s1.toks) hk,xq _ _ (Zy _) l t,⟨WO _,⟨_,he⟩,hit⟩,fun b hb=>?_,q⟩
 have h_:s1.heap.objs.size<=b:=by
  rcases UE.mp hb with z | z
  ·rw[z];exact YJ _
  ·rw[Sz.mp z];exact OS _
 exact I1.qc h_ (I1.bX.fresh h_)
theorem B8 {l:List Nat} {g:TG} {tb:TS} {D:Ends} {σ:St} {H:Hp} (Pv:Nat->St->Hp->Prop) (h0:Pv 0 σ H)
  (hs: ∀i c σ H T,l[i]? =some c->Pv i σ H->H T=none->g (.ref T) σ (upd H T (.tup [.int i, .str (S [c])])) fun σ2 H2=>tb { D with nx:=Pv (i+1),ct:=Pv (i+1),bk:=D.nx } σ2 H2) (hd: ∀σ H,Pv l.length σ H->D.nx σ H):
  ∃W:Nat->Nat->St->Hp->Prop,(∃m,W 0 m σ H)/\ ∀i m σ H,W i m σ H->
   ((Ni l).stop i H/\D.nx σ H)\/((Ni l).go i H/\ ∃N:St->Hp->Prop,(∀σ' H',N σ' H'-> ∃m',m'<m/\W (i+1) m' σ' H')/\ ∀x H',(Ni l).Br i H x H'->g x σ H' fun σ2 H2=>tb { D with nx:=N,ct:=N,bk:=D.nx } σ2 H2):=by
 refine ⟨fun i m σ H=>m=l.length - i/\i<=l.length/\Pv i σ H,⟨l.length,by simp,WO _,h0⟩,?_⟩
 rintro i m σ H ⟨rfl,hi,p⟩
 by_cases dk:i<l.length
 ·refine .inr ⟨dk,Pv (i+1),fun σ' H' p'=>⟨l.length - (i+1),by omega,rfl,dk,p'⟩,fun x H' y=>?_⟩
  obtain ⟨T,c,hc,rfl,hn,rfl⟩:=y
  exact hs i c σ _ T hc p hn
 ·have e:i=l.length:=by omega
  subst e
  exact .inl ⟨OS _,hd σ H p⟩
section
variable {X:Cx}
theorem Fg {ls:List (List Nat)}: ∀{aJ:List Value},Vals (ls.map fun l=>V.str (S l)) aJ->StrsAre aJ (ls.map S):=by
 induction ls with
 | nil=>intro aJ r;cases r;exact .nil
 | cons l ls ih=>
  intro aJ r
  cases r with
  | cons r1 r2=>
   obtain ⟨t,rfl⟩:=r1
   exact .cons _ t (ih r2)
theorem yQ: ∀{aJ:List Value} {ss:List Str},StrsAre aJ ss->Vals ((ss.map fun x=>x.cps.toList).map fun l=>V.str (S l)) aJ
 | _,_, .nil=> .nil
 | _,_, .cons x t h=> .cons ⟨t,by rw[<-M7]⟩ (yQ h)
theorem qS: ∀(p:Str) (r:List Str),risingS p r=true->(p::r).Pairwise fun a b=> ¬b.cps.toList<a.cps.toList
 | p,[],_=>List.pairwise_singleton _ _
 | p,x::r,h=>by
  have h':(!ltCps x.cps.toList p.cps.toList&&risingS x r)=true:=h
  rw[X8,ltCps_eq]at h'
  have h1: ¬x.cps.toList<p.cps.toList:=by simpa using h'.1
  have ih:=qS x r h'.2
  refine YB.mpr ⟨fun y hy=>?_,ih⟩
  rcases UE.mp hy with z | z
  ·rw[z];exact h1
  ·exact List.le_trans (show p.cps.toList<=x.cps.toList from h1) (show x.cps.toList<=y.cps.toList from List.rel_of_pairwise_cons ih z)
theorem Ap {ss:List Str} (h:sortedS ss=true):(ss.map fun x=>x.cps.toList).Pairwise fun a b=> ¬b<a:=by
 rw[Yc]
 cases ss with
 | nil=>exact List.Pairwise.nil
 | cons x r=>exact qS x r h
def IL (K:PySem.W.Frag):List V->Hp->VK->Prop:=fun xs H Q=> ∃(p:Addr) (ls:List (List Nat)),xs=[.ref p]/\bC K H p (ls.map fun l=>V.str (S l))/\ls.length<64/\ ∀(q:Addr) (QT:List (List Nat)),H q=none->QT.Perm ls->(QT.Pairwise fun a b=> ¬b<a)->Q (.ref q) (upd H q (.lst (QT.map fun l=>V.str (S l))))
theorem sO (K:PySem.W.Frag) (h:X.K=K):dN X (.builtin "sorted") (IL K):=by
 subst h
 intro pins s σ H xs us Q I r h
 obtain ⟨p,ls,rfl,hq,hn,q⟩:=h
 obtain ⟨u,rfl,ru⟩:=vals1 r
 cases ru
 obtain ⟨aJ,rv,pl,hz⟩:=I.list hq
 have hlen:aJ.length=ls.length:=by rw[<-rv.length,Kw]
 refine sorted_strs (l:=p) (vs:=aJ) (ss:=ls.map S) pl.isList (Fg rv) (by omega) fun out Bu h1 h2 h3=>?_
 obtain ⟨e,he⟩:=sortedAll_at s.heap aJ out
 have va:(Bu.map fun x=>x.cps.toList).Perm ls:=by
  have:=h2.map fun x:Str=>x.cps.toList
  rw[X4]at this
  have e2:ls.map ((fun x:Str=>x.cps.toList) ∘ S)=ls:=by
   have: ∀l∈ls,((fun x:Str=>x.cps.toList) ∘ S) l=l:=fun l _=>dR l
   calc ls.map _=ls.map id:=YH this
    _=ls:=Zr ls
  rwa [e2]at this
 have Ak:=va.length_eq
 have UO:(64:Nat)<sizeLine:=by decide
 have Nk:((Bu.map fun x=>x.cps.toList).map fun l=>V.str (S l)).length<=sizeLine:=by rw[Kw,Ak];omega
 refine ⟨.ref (s.heap.objs.size+1),_,I.laid (t':=s.toks) (a:=s.heap.objs.size+1) (o:= .lst ((Bu.map fun x=>x.cps.toList).map fun l=>V.str (S l))) (fun b o e=>sortedAll_old e) (YJ _) ⟨Nk,out.toList,e,yQ h1,by simpa [seqObj]using he⟩,rfl,q _ _ (I.bX.fresh (YJ _)) va (Ap h3)⟩
end
section
variable {X:Cx}
theorem Fh {ls:List (List Nat)} {l:List Nat} (h:ls.Perm (l.map fun c=>[c])): ∃l':List Nat,ls=l'.map (fun c=>[c])/\l'.Perm l:=by
 refine ⟨ls.flatten,?_,?_⟩
 ·have hs: ∀x∈ls, ∃c,x=[c]:=fun x hx=>by
   obtain ⟨c,_,e⟩:=XA.mp (h.mem_iff.mp hx)
   exact ⟨c,e.symm⟩
  clear h
  induction ls with
  | nil=>rfl
  | cons x ls ih=>
   obtain ⟨c,rfl⟩:=hs x Xp
   rw[YU,UH, <-ih fun y hy=>hs y (WN _ hy)]
   rfl
 ·have:=h.flatten
  have e:(l.map fun c=>[c]).flatten=l:=by
   clear h this
   induction l with
   | nil=>rfl
   | cons c l ih=>rw[Xw,YU,ih];rfl
  rwa [e]at this
theorem Fi {l:List Nat} (h:(l.map fun c=>[c]).Pairwise fun a b=> ¬b<a):l.Pairwise fun a b=>a<=b:=by
 rw[Yc]at h
 refine h.imp fun {a b} z=>?_
 by_cases y:a<=b
 ·exact y
 ·exact absurd (ZX.mpr (.inl (by omega))) z
end
section
variable {X:Cx}
end
section
variable {prog:Program} {w:World} {A:Around} {E:Value->Shared->Prop} {s:Shared}
theorem xt {it tp:Addr} {j:Nat} {xs:Array Value} {y:Value} {Q:Value->Shared->Prop} (hi:s.heap.IsTupleIter it tp j) (ht:s.heap.IsTuple tp xs) (hy:xs[j]? =some y)
  (q: ∀h2,h2.IsTupleIter it tp (j+1)->Heap.SameBut it s.heap h2->Q y { s with heap:=h2 }):wpAny (model prog w) A (Builtin.SmallTypes.nextOf (.ref it)) Q E s:=by
 obtain ⟨oi,eo,ec,ed⟩:=id hi
 obtain ⟨ot,et,_,nt,dt⟩:=ht
 unfold Builtin.SmallTypes.nextOf
 refine wpAny_bind (wpAny_callSpecial?_slot (name:=Str.ofString "__next__") hi.typeIs F.slot_tuple_iterator_next (wpAny_call_entry F.slot_tuple_iterator_next hi.typeIs F.entry_tuple_iterator_next ?_ (F.args_tuple_iterator_next_1 _)))
 refine wpAny_bind (m:=field (.ref it) 0) (wpAny_field eo ed (x:= .ref tp) rfl ?_)
 show wpAny (model prog w) _ (if (Value.ref tp==Value.none)=true then _ else _) _ E s
 rw[if_neg (show ¬(Value.ref tp==Value.none)=true from Xv)]
 refine wpAny_bind (m:=field (.ref it) 1) (wpAny_field eo ed (x:= .int j 0) rfl ?_)
 refine wpAny_bind (m:=seqItems? (.ref tp)) (wpAny_seqItems et dt ?_)
 simp only[UG,hy]
 refine wpAny_bind (wpAny_setField eo ed (by simp) (wpAny_pure ⟨y,rfl,wpAny_pure (q _ ⟨_,X9 _ eo (Obj.isFreed_of_fields (Obj.data_mapFields ed _)),(Obj.cls_mapFields ..).trans ec,by rw[Obj.data_mapFields ed];simp[rawInt]⟩ (Qal ..))⟩))
theorem Aq {it tp:Addr} {j:Nat} {xs:Array Value} {Q:Value->Shared->Prop} (hh:A.handled=none) (hi:s.heap.IsTupleIter it tp j) (ht:s.heap.IsTuple tp xs) (hy:xs[j]? =none)
  (q: ∀h2 e,Heap.ExtBut it s.heap h2->(∃o,h2.get? e=some o/\o.cls= .type "StopIteration")->E (.ref e) { s with heap:=h2 }):wpAny (model prog w) A (Builtin.SmallTypes.nextOf (.ref it)) Q E s:=by
 obtain ⟨oi,eo,ec,ed⟩:=id hi
 obtain ⟨ot,et,_,nt,dt⟩:=ht
 unfold Builtin.SmallTypes.nextOf
 refine wpAny_bind (wpAny_callSpecial?_slot (name:=Str.ofString "__next__") hi.typeIs F.slot_tuple_iterator_next (wpAny_call_entry F.slot_tuple_iterator_next hi.typeIs F.entry_tuple_iterator_next ?_ (F.args_tuple_iterator_next_1 _)))
 refine wpAny_bind (m:=field (.ref it) 0) (wpAny_field eo ed (x:= .ref tp) rfl ?_)
 show wpAny (model prog w) _ (if (Value.ref tp==Value.none)=true then _ else _) _ E s
 rw[if_neg (show ¬(Value.ref tp==Value.none)=true from Xv)]
 refine wpAny_bind (m:=field (.ref it) 1) (wpAny_field eo ed (x:= .int j 0) rfl ?_)
 refine wpAny_bind (m:=seqItems? (.ref tp)) (wpAny_seqItems et dt ?_)
 simp only[UG,hy]
 refine wpAny_bind (wpAny_rule (wpAny_bind (wpAny_setField eo ed (by simp) ?_)))
 refine wpAny_bind (m:=newExc (.type "StopIteration") []) ?_
 simp only[newExc,newTuple]
 refine wpAny_bind (wpAny_newObj_type (wpAny_bind (m:=firstArgMember _ _) (wpAny_of_eq (a:=Value.none) (by first | rfl | (simp only[firstArgMember];rfl)) (wpAny_newObj_type ?_ (by size_fits)))) (by size_fits))
 simp only[raiseNew]
 refine wpAny_bind (wpAny_handled ?_);first | rw[show A.in1.handled=none from hh] | rw[hh]
 exact wpAny_bind (wpAny_pure (wpAny_throw (q _ _ (((Qal ..).extBut.push _).push _) ⟨_,Xq _ rfl,rfl⟩)))
theorem mS (hh:A.handled=none) (it tp:Addr) (ne:tp≠it) (xs:Array Value):
  Draws prog w A it [it,tp] xs.size (fun i v=>xs[i]? =some v) (fun i h=>h.IsTupleIter it tp i/\h.IsTuple tp xs) where
 live:=fun _ _ z=>let ⟨o,e,_⟩:=z.1;⟨o,e⟩
 frame:=fun _ _ _ z k=>by
  obtain ⟨⟨o,e,r⟩,o2,e2,r2⟩:=z
  exact ⟨⟨o,k it (by simp) o e,r⟩,o2,k tp (by simp) o2 e2,r2⟩
 item:=fun i s Q E hi z q=>xt z.1 z.2 (y:=xs[i]) (by simp[hi]) fun h2 z2 sb=>q _ h2 s.toks (by simp[hi]) ⟨z2,z.2.extBut sb.extBut ne⟩ sb
 done:=fun s Q E z q=>Aq hh z.1 z.2 (by simp) q
theorem vb (l:Addr) (items:Array Value) (n:Nat) (QU:Option Addr) (sl:Array (Option Value)):
  Meets (Builtin.«enumerate.__new__» ⟨[.type "enumerate", .ref l],[]⟩) (fun _ R s=>s.heap.get? l=some { cls:= .type "tuple",dict:=QU,data:= .seq items n,slots:=sl }/\
   R (.ok (.ret (.ref (s.heap.push { cls:= .type "tuple_iterator",data:= .fields #[.ref l, .int 0 0] }).objs.size)))
    { s with heap:=(s.heap.push { cls:= .type "tuple_iterator",data:= .fields #[.ref l, .int 0 0] }).push { cls:= .type "enumerate",data:= .fields #[.none, .bool false, .ref s.heap.objs.size,rawInt 0, .none, .none] } }):=
 .of_wp fun prog w A R s h=>by
  obtain ⟨hp,g,d,tk,os⟩:=s;obtain ⟨hl,q⟩:=h;have UP:=sub_enumerate
  have hT:Heap.IsTuple (Shared.heap ⟨hp,g,d,tk,os⟩) l items:=⟨_,hl,rfl,n,rfl⟩
  wp_walk using AutoSeq1.wpAny_loadPart' hl
  refine wpAny_stack_any fun st=>wpAny_pure ?_
  split
  ·rename_i c _ _ _ _ _
   cases (c==Value.type "enumerate")<;>(wp_walk using AutoSeq1.wpAny_loadPart' hl,wpAny_pyIter_tuple hT;exact ⟨_,rfl,q⟩)
  ·wp_walk using AutoSeq1.wpAny_loadPart' hl,wpAny_pyIter_tuple hT
   exact ⟨_,rfl,q⟩
theorem xu {l:Addr} {items:Array Value} {Q:Value->Shared->Prop} (hL:s.heap.IsTuple l items)
  (h: ∀h',IsEnum h' (s.heap.objs.size+1) s.heap.objs.size 0 .none->h'.IsTupleIter s.heap.objs.size l 0->(∀b o,s.heap.get? b=some o->h'.get? b=some o)->Q (.ref (s.heap.objs.size+1)) { s with heap:=h' }):
  wpAny (model prog w) A (call (.type "enumerate") [.ref l]) Q E s:=by
 obtain ⟨⟨c,QU,dt,sl⟩,hl,hc,n,hd⟩:=hL
 cases (show c= .type "tuple" from hc)
 cases (show dt= .seq items n from hd)
 refine callType_new F.called_enumerate (by decide) (F.typeCall_enumerate_1 _) (F.newCall_enumerate_1 _) (fun ob=>F.args_object_init_2 ob _) F.entry_enumerate_new (vb l items n QU sl) ⟨hl,?_⟩
 have hz:(s.heap.push { cls:= .type "tuple_iterator",data:= .fields #[.ref l, .int 0 0] }).objs.size=s.heap.objs.size+1:=Ze ..
 show _/\_
 rw[hz]
 have he:IsEnum ((s.heap.push { cls:= .type "tuple_iterator",data:= .fields #[.ref l, .int 0 0] }).push { cls:= .type "enumerate",data:= .fields #[.none, .bool false, .ref s.heap.objs.size,rawInt 0, .none, .none] }) (s.heap.objs.size+1) s.heap.objs.size 0 .none:=by
  have:=Xq (s.heap.push { cls:= .type "tuple_iterator",data:= .fields #[.ref l, .int 0 0] }) (o:={ cls:= .type "enumerate",data:= .fields #[.none, .bool false, .ref s.heap.objs.size,rawInt 0, .none, .none] }) rfl
  rwa [hz]at this
 exact ⟨⟨_,he,rfl⟩,h _ he ⟨_,Sy _ (Xq _ rfl),rfl,rfl⟩ fun b o x=>Sy _ (Sy _ x)⟩
end
noncomputable def B9 (K:PySem.W.Frag) (a:Addr):It:=⟨fun i H=> ∃xs x,cS K H a xs/\xs[i]? =some x,fun i H x H'=> ∃T y,(∀xs,cS K H a xs->xs[i]? =some y)/\x= .ref T/\H T=none/\H'=upd H T (.tup [.int i,y]),fun i H=> ∃xs,cS K H a xs/\xs.length=i⟩
noncomputable def B_ (K:PySem.W.Frag) (a:Addr):It:=⟨fun i H=> ∃xs x,bC K H a xs/\xs[i]? =some x,fun i H x H'=> ∃T y,(∀xs,bC K H a xs->xs[i]? =some y)/\x= .ref T/\H T=none/\H'=upd H T (.tup [.int i,y]),fun i H=> ∃xs,bC K H a xs/\xs.length=i⟩
theorem xv {P:Program} {w:World} {K:PySem.W.Frag} {elts:List Expr} {k:Nat} {pos:Pos} (e it a:Addr) (yP:e≠it) (Nl:a≠e) (Nm:a≠it):
  Turn P w K (.Tuple elts k pos) (B9 K a) [e,it] e (fun i h=>(∃old,IsEnum h e it i old)/\h.IsTupleIter it a i) where
 mem:=by simp
 obj:=fun i h st b hb=>by
  obtain ⟨⟨old,he⟩,o,ho,hc,hd⟩:=st
  rcases UE.mp hb with z | z
  ·rw[z];exact ⟨_,he,fun v z=>by cases z⟩
  ·rw[Sz.mp z];exact ⟨o,ho,fun v z=>by rw[hd]at z;cases z⟩
 keep:=fun i h h' st kp=>by
  obtain ⟨⟨old,he⟩,o,ho,r⟩:=st
  exact ⟨⟨old,kp e (by simp) _ he⟩,o,kp it (by simp) o ho,r⟩
 item:=by
  intro X hP hw hK hc i pins s σ H E I hf st hg
  subst hP hw hK
  obtain ⟨wC,wB⟩:=st
  obtain ⟨xs,x,hq,hx⟩:=hg
  obtain ⟨aJ,rv,p,hz⟩:=I.tuple hq
  obtain ⟨u0,hu,ru⟩:=rv.get hx
  have D:=mS (prog:=X.prog) (w:=X.w) (A:=X.A.in1) (I.ok.hd hc) it a Nm aJ.toArray
  have W:=WalksT.enumerateD D e yP (by simp;exact ⟨yP,Ne.symm Nl⟩) (by simp)
  have QV:i<aJ.toArray.size:=by rw[WM];exact (Iy.mp hu).1
  refine W.item i s _ _ QV ⟨wC,wB,p⟩ fun T vals h' tk Nj hT B6 u7 hk=>⟨_,rfl,?_⟩
  refine W.go elts k pos i T { s with heap:=h',toks:=tk } _ _ u7 fun h2 u9 xr=>?_
  obtain ⟨tt,x2,IM,rfl⟩:=Nj
  have ex:x2=u0:=by
   rw[List.getElem?_toArray]at IM
   exact Xr (IM.symm.trans hu)
  subst ex
  have Hb:T∉[e,it]:=W.apart i T h' u7
  have u_:h2.IsTuple T #[.int i tt,x2]:=by
   obtain ⟨o,ho,r⟩:=B6
   exact ⟨o,xr T o Hb ho,r⟩
  refine ⟨.ref T,upd H T (.tup [.int i,x]),?_,rfl,⟨T,x,fun ys hy=>by rw[I.qB hy hq];exact hx,rfl,I.bX.fresh hT,rfl⟩,⟨u9.1,u9.2.1⟩,fun b hb=>?_⟩
  ·refine I.oB (t':=tk) (h':=h2) (fun b o hb y=>xr b o hb (hk b o hb y)) hf hT ?_
   exact ⟨by show 2<=sizeLine;decide,[.int i tt,x2], .cons ⟨tt,rfl⟩ (.cons ru .nil),u_⟩
  ·rw[au (fun z:b=T=>Hb (z▸hb))];exact (hf b hb).1
 done:=by
  intro X hP hw hK hc i pins s σ H E I hf st hg
  subst hP hw hK
  obtain ⟨wC,wB⟩:=st
  obtain ⟨xs,hq,hx⟩:=hg
  obtain ⟨aJ,rv,p,hz⟩:=I.tuple hq
  have hl:=rv.length
  have D:=mS (prog:=X.prog) (w:=X.w) (A:=X.A.in1) (I.ok.hd hc) it a Nm aJ.toArray
  have W:=WalksT.enumerateD D e yP (by simp;exact ⟨yP,Ne.symm Nl⟩) (by simp)
  refine W.done s _ _ ?_ fun h' tk hk=>⟨rfl,I.sN (t':=tk) hk hf⟩
  have e1:aJ.toArray.size=i:=by rw[WM];omega
  rw[e1]
  exact ⟨wC,wB,p⟩
 self:=fun _ _ s _ _ st h=>by
  obtain ⟨⟨old,he⟩,_⟩:=st
  exact wpAny_pyIter_enum he h
theorem xw {P:Program} {w:World} {K:PySem.W.Frag} {elts:List Expr} {k:Nat} {pos:Pos} (e it a:Addr) (yP:e≠it) (Nl:a≠e) (Nm:a≠it):
  Turn P w K (.Tuple elts k pos) (B_ K a) [e,it] e (fun i h=>(∃old,IsEnum h e it i old)/\h.IsListIter it a i) where
 mem:=by simp
 obj:=fun i h st b hb=>by
  obtain ⟨⟨old,he⟩,o,ho,hc,hd⟩:=st
  rcases UE.mp hb with z | z
  ·rw[z];exact ⟨_,he,fun v z=>by cases z⟩
  ·rw[Sz.mp z];exact ⟨o,ho,fun v z=>by rw[hd]at z;cases z⟩
 keep:=fun i h h' st kp=>by
  obtain ⟨⟨old,he⟩,o,ho,r⟩:=st
  exact ⟨⟨old,kp e (by simp) _ he⟩,o,kp it (by simp) o ho,r⟩
 item:=by
  intro X hP hw hK hc i pins s σ H E I hf st hg
  subst hP hw hK
  obtain ⟨wC,wB⟩:=st
  obtain ⟨xs,x,hq,hx⟩:=hg
  obtain ⟨aJ,rv,p,hz⟩:=I.list hq
  obtain ⟨u0,hu,ru⟩:=rv.get hx
  have D:=Draws.list (prog:=X.prog) (w:=X.w) (A:=X.A.in1) (I.ok.hd hc) it a Nm aJ.toArray
  have W:=WalksT.enumerateD D e yP (by simp;exact ⟨yP,Ne.symm Nl⟩) (by simp)
  have QV:i<aJ.toArray.size:=by rw[WM];exact (Iy.mp hu).1
  refine W.item i s _ _ QV ⟨wC,wB,p.isList⟩ fun T vals h' tk Nj hT B6 u7 hk=>⟨_,rfl,?_⟩
  refine W.go elts k pos i T { s with heap:=h',toks:=tk } _ _ u7 fun h2 u9 xr=>?_
  obtain ⟨tt,x2,IM,rfl⟩:=Nj
  have ex:x2=u0:=by
   rw[List.getElem?_toArray]at IM
   exact Xr (IM.symm.trans hu)
  subst ex
  have Hb:T∉[e,it]:=W.apart i T h' u7
  have u_:h2.IsTuple T #[.int i tt,x2]:=by
   obtain ⟨o,ho,r⟩:=B6
   exact ⟨o,xr T o Hb ho,r⟩
  refine ⟨.ref T,upd H T (.tup [.int i,x]),?_,rfl,⟨T,x,fun ys hy=>by rw[I.uM hy hq];exact hx,rfl,I.bX.fresh hT,rfl⟩,⟨u9.1,u9.2.1⟩,fun b hb=>?_⟩
  ·refine I.oB (t':=tk) (h':=h2) (fun b o hb y=>xr b o hb (hk b o hb y)) hf hT ?_
   exact ⟨by show 2<=sizeLine;decide,[.int i tt,x2], .cons ⟨tt,rfl⟩ (.cons ru .nil),u_⟩
  ·rw[au (fun z:b=T=>Hb (z▸hb))];exact (hf b hb).1
 done:=by
  intro X hP hw hK hc i pins s σ H E I hf st hg
  subst hP hw hK
  obtain ⟨wC,wB⟩:=st
  obtain ⟨xs,hq,hx⟩:=hg
  obtain ⟨aJ,rv,p,hz⟩:=I.list hq
  have hl:=rv.length
  have D:=Draws.list (prog:=X.prog) (w:=X.w) (A:=X.A.in1) (I.ok.hd hc) it a Nm aJ.toArray
  have W:=WalksT.enumerateD D e yP (by simp;exact ⟨yP,Ne.symm Nl⟩) (by simp)
  refine W.done s _ _ ?_ fun h' tk hk=>⟨rfl,I.sN (t':=tk) hk hf⟩
  have e1:aJ.toArray.size=i:=by rw[WM];omega
  rw[e1]
  exact ⟨wC,wB,p.isList⟩
 self:=fun _ _ s _ _ st h=>by
  obtain ⟨⟨old,he⟩,_⟩:=st
  exact wpAny_pyIter_enum he h
def IQ (K:PySem.W.Frag) (ta:TA):TI:=fun σ H R=>ta σ H fun vs H1=> ∃a,vs=[.ref a]/\(∃xs,cS K H1 a xs)/\R (B9 K a) H1
def IS (K:PySem.W.Frag) (ta:TA):TI:=fun σ H R=>ta σ H fun vs H1=> ∃a,vs=[.ref a]/\(∃xs,bC K H1 a xs)/\R (B_ K a) H1
theorem vc {X:Cx} (K:PySem.W.Frag) (hK:X.K=K) {elts:List Expr} {k:Nat} {pos':Pos} {a:Expr} {ta:TA} {p pos:Pos} (hg:Gl X "enumerate") (hm:X.mg "enumerate"=none) (ha:PA X [a] ta) (hs:starEach [a] X.env=[(false,eval a X.env)]:=by rfl):PI X (.Tuple elts k pos') (.Call (.Name "enumerate" p) [a] [] pos) (IQ K ta):=by
 subst hK
 intro pins s σ H R I h
 refine Call_ (gv I hg hm boot_enumerate (X1 (b8 (ha pos pins s σ H _ I h) fun us s1 ⟨vs,H1,I1,r1,q1⟩=>?_) hs rfl))
 obtain ⟨b,rfl,⟨xs,hq⟩,q⟩:=q1
 obtain ⟨u,rfl,ru⟩:=vals1 r1
 cases ru
 obtain ⟨aJ,rv,pl,hz⟩:=I1.tuple hq
 obtain ⟨ob,eb,_⟩:=id pl
 have dk:b<s1.heap.objs.size:=Xs eb
 refine xu pl fun h' he hit hk=>wpAny_pyIter_enum he ?_
 refine ⟨s1.heap.objs.size+1,[s1.heap.objs.size+1,s1.heap.objs.size],_,_,H1,rfl,I1.kept (t':=s1.toks) hk,xv _ _ b (Zy _) (Xy (YT dk)) (Xy dk),⟨⟨_,he⟩,hit⟩,fun c hb=>?_,q⟩
 have h_:s1.heap.objs.size<=c:=by
  rcases UE.mp hb with z | z
  ·rw[z];exact YJ _
  ·rw[Sz.mp z];exact OS _
 exact I1.qc h_ (I1.bX.fresh h_)
theorem Ca {X:Cx} (K:PySem.W.Frag) (hK:X.K=K) {elts:List Expr} {k:Nat} {pos':Pos} {a:Expr} {ta:TA} {p pos:Pos} (hg:Gl X "enumerate") (hm:X.mg "enumerate"=none) (ha:PA X [a] ta) (hs:starEach [a] X.env=[(false,eval a X.env)]:=by rfl):PI X (.Tuple elts k pos') (.Call (.Name "enumerate" p) [a] [] pos) (IS K ta):=by
 subst hK
 intro pins s σ H R I h
 refine Call_ (gv I hg hm boot_enumerate (X1 (b8 (ha pos pins s σ H _ I h) fun us s1 ⟨vs,H1,I1,r1,q1⟩=>?_) hs rfl))
 obtain ⟨b,rfl,⟨xs,hq⟩,q⟩:=q1
 obtain ⟨u,rfl,ru⟩:=vals1 r1
 cases ru
 obtain ⟨aJ,rv,pl,hz⟩:=I1.list hq
 obtain ⟨ob,eb,_⟩:=id pl.isList
 have dk:b<s1.heap.objs.size:=Xs eb
 refine call_enumerate_list pl.isList fun h' he hit hsz hk=>wpAny_pyIter_enum he ?_
 refine ⟨s1.heap.objs.size+1,[s1.heap.objs.size+1,s1.heap.objs.size],_,_,H1,rfl,I1.kept (t':=s1.toks) hk,xw _ _ b (Zy _) (Xy (YT dk)) (Xy dk),⟨⟨_,he⟩,hit⟩,fun c hb=>?_,q⟩
 have h_:s1.heap.objs.size<=c:=by
  rcases UE.mp hb with z | z
  ·rw[z];exact YJ _
  ·rw[Sz.mp z];exact OS _
 exact I1.qc h_ (I1.bX.fresh h_)
theorem qT {K:PySem.W.Frag} {a:Addr} {xs:List V} {g:TG} {tb:TS} {D:Ends} {σ:St} {H:Hp} (Pv:Nat->St->Hp->Prop) (h0:Pv 0 σ H) (hl: ∀i σ H,i<=xs.length->Pv i σ H->cS K H a xs)
  (hs: ∀i x σ H T,xs[i]? =some x->Pv i σ H->H T=none->g (.ref T) σ (upd H T (.tup [.int i,x])) fun σ2 H2=>tb { D with nx:=Pv (i+1),ct:=Pv (i+1),bk:=D.nx } σ2 H2) (hd: ∀σ H,Pv xs.length σ H->D.nx σ H):
  ∃W:Nat->Nat->St->Hp->Prop,(∃m,W 0 m σ H)/\ ∀i m σ H,W i m σ H->
   ((B9 K a).stop i H/\D.nx σ H)\/((B9 K a).go i H/\ ∃N:St->Hp->Prop,(∀σ' H',N σ' H'-> ∃m',m'<m/\W (i+1) m' σ' H')/\ ∀x H',(B9 K a).Br i H x H'->g x σ H' fun σ2 H2=>tb { D with nx:=N,ct:=N,bk:=D.nx } σ2 H2):=by
 refine ⟨fun i m σ H=>m=xs.length - i/\i<=xs.length/\Pv i σ H,⟨xs.length,by simp,WO _,h0⟩,?_⟩
 rintro i m σ H ⟨rfl,hi,p⟩
 have hq:=hl i σ H hi p
 by_cases dk:i<xs.length
 ·refine .inr ⟨⟨xs,xs[i],hq,by simp[dk]⟩,Pv (i+1),fun σ' H' p'=>⟨xs.length - (i+1),by omega,rfl,dk,p'⟩,fun x H' y=>?_⟩
  obtain ⟨T,z,hz,rfl,hn,rfl⟩:=y
  exact hs i z σ _ T (hz xs hq) p hn
 ·have e:i=xs.length:=by omega
  subst e
  exact .inl ⟨⟨xs,hq,rfl⟩,hd σ H p⟩
theorem Ar {K:PySem.W.Frag} {a:Addr} {xs:List V} {g:TG} {tb:TS} {D:Ends} {σ:St} {H:Hp} (Pv:Nat->St->Hp->Prop) (h0:Pv 0 σ H) (hl: ∀i σ H,i<=xs.length->Pv i σ H->bC K H a xs)
  (hs: ∀i x σ H T,xs[i]? =some x->Pv i σ H->H T=none->g (.ref T) σ (upd H T (.tup [.int i,x])) fun σ2 H2=>tb { D with nx:=Pv (i+1),ct:=Pv (i+1),bk:=D.nx } σ2 H2) (hd: ∀σ H,Pv xs.length σ H->D.nx σ H):
  ∃W:Nat->Nat->St->Hp->Prop,(∃m,W 0 m σ H)/\ ∀i m σ H,W i m σ H->
   ((B_ K a).stop i H/\D.nx σ H)\/((B_ K a).go i H/\ ∃N:St->Hp->Prop,(∀σ' H',N σ' H'-> ∃m',m'<m/\W (i+1) m' σ' H')/\ ∀x H',(B_ K a).Br i H x H'->g x σ H' fun σ2 H2=>tb { D with nx:=N,ct:=N,bk:=D.nx } σ2 H2):=by
 refine ⟨fun i m σ H=>m=xs.length - i/\i<=xs.length/\Pv i σ H,⟨xs.length,by simp,WO _,h0⟩,?_⟩
 rintro i m σ H ⟨rfl,hi,p⟩
 have hq:=hl i σ H hi p
 by_cases dk:i<xs.length
 ·refine .inr ⟨⟨xs,xs[i],hq,by simp[dk]⟩,Pv (i+1),fun σ' H' p'=>⟨xs.length - (i+1),by omega,rfl,dk,p'⟩,fun x H' y=>?_⟩
  obtain ⟨T,z,hz,rfl,hn,rfl⟩:=y
  exact hs i z σ _ T (hz xs hq) p hn
 ·have e:i=xs.length:=by omega
  subst e
  exact .inl ⟨⟨xs,hq,rfl⟩,hd σ H p⟩
section
variable {X:Cx}
end
section
variable {X:Cx}
def IT (K:PySem.W.Frag):List V->Hp->VK->Prop:=fun xs H Q=> ∃p ys,xs=[.ref p]/\((bC K H p ys/\ ∀l,H l=none->Q (.ref l) (upd H l (.tup ys)))\/(cS K H p ys/\Q (.ref p) H))
theorem dU (K:PySem.W.Frag) (h:X.K=K):dN X (.type "tuple") (IT K):=by subst h;exact qe
end
theorem vd {K:PySem.W.Frag} {a:Addr} {xs:List V} {σc:St} {g:TG} {tc:TT} {te:TE} {Q:VK} {H1:Hp} (Pv:Nat->List V->Hp->Prop) (hn:xs.length<sizeLine) (hl: ∀i acc H,Pv i acc H->cS K H a xs) (h0:Pv 0 [] H1)
  (hs: ∀(i:Nat) (x:V) (acc:List V) (H:Hp) (Nx:List V->Hp->Prop),i<xs.length->xs[i]? =some x->acc.length<=i->Pv i acc H->(∀cq H',cq.length<=i+1->Pv (i+1) cq H'->Nx cq H')->
   g x σc H fun σ2 H2=>Wk σc σ2/\tc σ2 H2 fun b H3=>if b=true then te σ2 H3 fun v H4=>Nx (acc++[v]) H4 else Nx acc H3)
  (hd: ∀acc H D,acc.length<=xs.length->Pv xs.length acc H->H D=none->Q (.ref D) (upd H D (.lst acc))):qL (Ku K a) σc g tc te Q H1:=
 nK (xs:=fun i x=>xs[i]? =some x) Pv hn (fun i acc H h p=>⟨xs,xs[i],hl i acc H p,by simp[h]⟩) (fun acc H p=>⟨xs,hl _ acc H p,OS _⟩) (fun i acc H x H' h p y=>⟨y.1,y.2 xs (hl i acc H p)⟩) h0 hs hd
theorem Fj (l a b:Nat):Kv (.str (S [l])) [.str (S [a]), .str (S [b])]=(decide (l=a)||decide (l=b)):=by
 have key: ∀c:Nat,EW (.str (S [c])) (.str (S [l]))=decide (l=c):=fun c=>by
  show decide (S [c]=S [l])=_
  refine decide_eq_decide.mpr ⟨fun z=>?_,fun z=>by rw[z]⟩
  have:=congrArg (fun x:Str=>x.cps.toList) z
  simpa [S,eq_comm]using this
 unfold Kv
 rw[Yx,Yx,List.any_nil,key,key,Z7]
def dW (H H':Hp):Prop:= ∀c xs,H c=some (.tup xs)->H' c=some (.tup xs)
theorem dW.trans {H H1 H2:Hp} (a:dW H H1) (b:dW H1 H2):dW H H2:=fun c xs h=>b c xs (a c xs h)
theorem dW.of {H H':Hp} (s:aq H H'):dW H H':=fun c xs h=>s c _ h
theorem dW.Fl {H:Hp} {p:Addr} {ys:List V} {o:HO} (h:H p=some (.lst ys)):dW H (upd H p o):=fun c xs e=>by
 rw[au (fun z=>by rw[z,h]at e;cases e)];exact e
section
variable {prog:Program} {w:World} {A:Around} {E:Value->Shared->Prop} {s:Shared}
end
section
variable {X:Cx}
end
section
variable {prog:Program} {w:World} {A:Around} {E:Value->Shared->Prop} {s:Shared}
noncomputable def bJ:List Int->List Int->Bool
 | [],[]=>false
 | [],_::_=>true
 | _::_,[]=>false
 | a::r,b::t=>if a=b then bJ r t else decide (a<b)
end
section
variable {X:Cx}
end
end L2
namespace HT
open PySem PySem.Spec PyProof.Rows
section
variable {prog:Program} {w:World} {A:Around} {E:Value->Shared->Prop} {s:Shared}
end
end HT
namespace L2
open PySem PySem.Spec PyProof.Rows
section
variable {X:Cx} {e st:Expr} {te:TE} {ts:TO} {pos p2:Pos}
end
section
variable {κ:Type} [DecidableEq κ]
noncomputable def cW (aP:List (κ×V)) (k:κ):Option V:=(aP.find? fun kv=>decide (kv.1=k)).map (·.2)
noncomputable def putK (aP:List (κ×V)) (k:κ) (v:V):List (κ×V):=
 if (aP.any fun kv=>decide (kv.1=k))=true then aP.map (fun kv=>if kv.1=k then (kv.1,v) else kv) else aP++[(k,v)]
theorem cx {p:κ×V} {r:List (κ×V)} {k:κ} (e:p.1=k):cW (p::r) k=some p.2:=by simp[cW,YD,e]
theorem cg {p:κ×V} {r:List (κ×V)} {k:κ} (e: ¬p.1=k):cW (p::r) k=cW r k:=by simp[cW,YD,e]
theorem iS (k:κ): ∀aP:List (κ×V),(aP.any fun kv=>decide (kv.1=k))=(cW aP k).isSome
 | []=>rfl
 | p::r=>by
  rw[Yx]
  by_cases e:p.1=k
  ·simp only[cx e,decide_eq_true e,Bool.true_or,Option.isSome_some]
  ·rw[cg e,decide_eq_false e,Z9];exact iS k r
theorem ve (k j:κ) (y:V): ∀aP:List (κ×V),cW (aP.map fun kv=>if kv.1=k then (kv.1,y) else kv) j=(cW aP j).map fun x=>if j=k then y else x
 | []=>rfl
 | p::r=>by
  have ih:=ve k j y r
  rw[Xw]
  by_cases h:p.1=k
  ·rw[if_pos h]
   by_cases e:p.1=j
   ·rw[cx (p:=(p.1,y)) e,cx e,ZP,if_pos (e.symm.trans h)]
   ·rw[cg (p:=(p.1,y)) e,cg e,ih]
  ·rw[if_neg h]
   by_cases e:p.1=j
   ·rw[cx (p:=p) e,cx e,ZP,if_neg (fun z=>h (e.trans z))]
   ·rw[cg (p:=p) e,cg e,ih]
theorem qU (k j:κ) (y:V): ∀aP:List (κ×V),cW aP k=none->cW (aP++[(k,y)]) j=if j=k then some y else cW aP j
 | [],_=>by
  by_cases e:k=j
  ·rw[if_pos e.symm];exact cx (p:=(k,y)) e
  ·rw[if_neg (fun z=>e z.symm)];exact cg (p:=(k,y)) e
 | p::r,hn=>by
  rw[List.cons_append]
  have hk: ¬p.1=k:=fun z=>by rw[cx z]at hn;cases hn
  rw[cg hk]at hn
  have ih:=qU k j y r hn
  by_cases e:p.1=j
  ·rw[cx e,cx e,if_neg (fun z=>hk (e.trans z))]
  ·rw[cg e,cg e,ih]
theorem Cb (aP:List (κ×V)) (k j:κ) (y:V):cW (putK aP k y) j=if j=k then some y else cW aP j:=by
 unfold putK
 by_cases a:(aP.any fun kv=>decide (kv.1=k))=true
 ·rw[if_pos a,ve]
  rw[iS]at a
  by_cases e:j=k
  ·obtain ⟨x,hx⟩:=Option.isSome_iff_exists.mp a
   rw[if_pos e,e,hx,ZP,if_pos rfl]
  ·rw[if_neg e]
   cases cW aP j with
   | none=>rfl
   | some x=>rw[ZP,if_neg e]
 ·rw[if_neg a]
  refine qU k j y aP ?_
  rw[iS]at a
  cases q:cW aP k with
  | none=>rfl
  | some x=>rw[q]at a;exact (a rfl).elim
theorem gi (aP:List (κ×V)) (k:κ) (v:V):(putK aP k v).length<=aP.length+1:=by
 unfold putK
 split
 ·rw[Kw];omega
 ·rw[UD,XR,List.length_nil];omega
theorem kI {aP:List (κ×V)} {k:κ} (v:V) (h:cW aP k=none):putK aP k v=aP++[(k,v)]:=by
 unfold putK
 rw[iS,h]
 exact if_neg (by decide)
theorem lN.lW {o:Option V} {u:Option Value} (r:lN o u):o.isSome=u.isSome:=by
 cases o with
 | none=>cases u with
  | none=>rfl
  | some _=>exact (show False from r).elim
 | some _=>cases u with
  | none=>exact (show False from r).elim
  | some _=>rfl
theorem KV.val {aP:List (κ×V)} {vs:List (κ×Value)} (r:KV aP vs) (k:κ):lN (cW aP k) (valueAt vs k):=by
 unfold KV at r
 induction r with
 | nil=>exact True.intro
 | @cons p q ps qs h t ih=>
  obtain ⟨h1,h2⟩:=h
  by_cases e:p.1=k
  ·have e':q.1=k:=h1.symm.trans e
   have b:valueAt (q::qs) k=some q.2:=by simp[valueAt,YD,e']
   rw[cx e,b];exact h2
  ·have e': ¬q.1=k:=fun z=>e (h1.trans z)
   have b:valueAt (q::qs) k=valueAt qs k:=by simp[valueAt,YD,e']
   rw[cg e,b];exact ih
theorem KV.any {aP:List (κ×V)} {vs:List (κ×Value)} (r:KV aP vs) (k:κ):(aP.any fun kv=>decide (kv.1=k))=vs.any fun kv=>decide (kv.1=k):=by
 unfold KV at r
 induction r with
 | nil=>rfl
 | cons h t ih=>rw[Yx,Yx,ih,h.1]
theorem KV.IU {aP:List (κ×V)} {vs:List (κ×Value)} (r:KV aP vs) (k:κ) {y:V} {u:Value} (ry:RelV y u):
  KV (aP.map fun kv=>if kv.1=k then (kv.1,y) else kv) (vs.map fun kv=>if kv.1=k then (kv.1,u) else kv):=by
 unfold KV at r ⊢
 induction r with
 | nil=>exact .nil
 | @cons p q ps qs h t ih=>
  rw[Xw,Xw]
  refine .cons ?_ ih
  obtain ⟨h1,h2⟩:=h
  by_cases e:p.1=k
  ·rw[if_pos e,if_pos (h1.symm.trans e)];exact ⟨h1,ry⟩
  ·rw[if_neg e,if_neg (fun z=>e (h1.trans z))];exact ⟨h1,h2⟩
theorem KV.put {aP:List (κ×V)} {vs:List (κ×Value)} (r:KV aP vs) (k:κ) {y:V} {u:Value} (ry:RelV y u):KV (putK aP k y) (stored vs k u):=by
 unfold putK stored
 rw[r.any k]
 by_cases e:(vs.any fun kv=>decide (kv.1=k))=true
 ·rw[if_pos e,if_pos e];exact r.IU k ry
 ·rw[if_neg e,if_neg e];exact Paired.snoc r ⟨rfl,ry⟩
theorem KV.length {aP:List (κ×V)} {vs:List (κ×Value)} (r:KV aP vs):aP.length=vs.length:=Paired.length r
end
theorem yR {P:Program} {w:World} {k:Key} {u:Value} (r:RelV (kV k) u):(cA P w).is k u=true:=by
 cases k with
 | inl i=>obtain ⟨t,e⟩:=(show ∃t,u=Value.int i t from r);subst e;exact uI P w i t
 | inr x=>obtain ⟨t,e⟩:=(show ∃t,u=Value.str x t from r);subst e;exact uJ P w x t
theorem qV {P:Program} {w:World}: ∀{ks:List Key} {us:List Value},Vals (ks.map kV) us->ItemsAre (cA P w) ks us
 | [],_,r=>by rw[List.map_nil]at r;cases r;exact .nil
 | k::ks,_,r=>by
  rw[Xw]at r
  cases r with
  | cons h t=>exact .cons (yR h) (qV t)
abbrev KT (H:Hp):List (List Key×V)->List (List Key×Addr×Value)->Prop:=Paired fun p q=>p.1=q.1/\H q.2.1=some (.tup (p.1.map kV))/\RelV p.2 q.2.2
theorem KT.val {H:Hp} {aP:List (List Key×V)} {xs:List (List Key×Addr×Value)} (r:KT H aP xs) (k:List Key):lN (cW aP k) ((atKey xs k).map (·.2)):=by
 induction r with
 | nil=>exact True.intro
 | @cons p q ps qs h t ih=>
  obtain ⟨h1,_,h2⟩:=h
  by_cases e:p.1=k
  ·have e':q.1=k:=h1.symm.trans e
   have b:atKey (q::qs) k=some q.2:=by simp[atKey,YD,e']
   rw[cx e,b];exact h2
  ·have e': ¬q.1=k:=fun z=>e (h1.trans z)
   have b:atKey (q::qs) k=atKey qs k:=by simp[atKey,YD,e']
   rw[cg e,b];exact ih
theorem KT.IU {H:Hp} {aP:List (List Key×V)} {xs:List (List Key×Addr×Value)} (r:KT H aP xs) (k:List Key) {y:V} {u:Value} (ry:RelV y u):
  KT H (aP.map fun kv=>if kv.1=k then (kv.1,y) else kv) (xs.map (putAt k u)):=by
 induction r with
 | nil=>exact .nil
 | @cons p q ps qs h t ih=>
  rw[Xw,Xw]
  refine .cons ?_ ih
  obtain ⟨h1,h2,h3⟩:=h
  unfold putAt
  by_cases e:p.1=k
  ·rw[if_pos e,if_pos (h1.symm.trans e)];exact ⟨h1,h2,ry⟩
  ·rw[if_neg e,if_neg (fun z=>e (h1.trans z))];exact ⟨h1,h2,h3⟩
theorem KT.put {H:Hp} {aP:List (List Key×V)} {xs:List (List Key×Addr×Value)} (r:KT H aP xs) (k:List Key) {b:Addr} {y:V} {u:Value} (hb:H b=some (.tup (k.map kV))) (ry:RelV y u):
  KT H (putK aP k y) (storedH xs k b u):=by
 have e:(aP.any fun kv=>decide (kv.1=k))=(atKey xs k).isSome:=by
  rw[iS,(r.val k).lW,Option.isSome_map]
 unfold putK storedH
 rw[e]
 by_cases q:(atKey xs k).isSome=true
 ·rw[if_pos q,if_pos q];exact r.IU k ry
 ·rw[if_neg q,if_neg q];exact Paired.snoc r ⟨rfl,hb,ry⟩
theorem KT.keeps {H H':Hp} {aP:List (List Key×V)} {xs:List (List Key×Addr×Value)} (r:KT H aP xs) (ht: ∀b ys,H b=some (.tup ys)->H' b=some (.tup ys)):KT H' aP xs:=
 Paired.HI r fun _ _ z=>⟨z.1,ht _ _ z.2.1,z.2.2⟩
section
variable {P:Program} {w:World} {H:Hp} {h:Heap} {a:Addr}
theorem Hc {u:HO} (ok:jU P w H h) (e:Rd H a u):cR P w H h a u:=e.ok ok
theorem yS {aP:List (Key×V)} (ok:jU P w H h) (e:Rd H a (.dK aP)):aP.length<=sizeLine/\(a==sysModules)=false/\ ∃vs,KV aP vs/\h.DictOf (cA P w) a vs:=
 show cR P w H h a (.dK aP) from Hc ok e
theorem Nn {aP:List (Key×V)} (ok:jU P w H h) (e:H a=some (.dK aP)):aP.length<=sizeLine/\(a==sysModules)=false/\ ∃vs,KV aP vs/\h.DictOf (cA P w) a vs:=yS ok (.inl e)
theorem sP {ks:List Key} (ok:jU P w H h) (e:H a=some (.tup (ks.map kV))):(tupleKind (cA P w)).is h ks a:=by
 obtain ⟨_,aJ,r,o,h1,h2,n,h3⟩:=(show cR P w H h a (.tup (ks.map kV)) from ok a _ e)
 exact ⟨o,aJ.toArray,n,h1,h2,h3,by simpa using qV r⟩
theorem yT {aP:List (List Key×V)} (ok:jU P w H h) (e:Rd H a (.dT aP)):aP.length<=sizeLine/\(a==sysModules)=false/\
  ∃xs,KT H aP xs/\h.DictOfH (tupleKind (cA P w)) a xs:=by
 obtain ⟨z,y,xs,r,o,es,ep,h1,h2,h3,h4,h5⟩:=(show cR P w H h a (.dT aP) from Hc ok e)
 refine ⟨z,y,xs,r,o,es,ep,h1,h2,h3,h4,fun x hx=>?_,h5⟩
 have all: ∀{l:List (List Key×V)} {m:List (List Key×Addr×Value)},KT H l m-> ∀x∈m,(tupleKind (cA P w)).is h x.1 x.2.1:=by
  intro l m q
  induction q with
  | nil=>intro x hx;exact nomatch hx
  | @cons p q ps qs hq t ih=>
   intro x hx
   rcases UE.mp hx with e | hx
   ·subst e
    exact sP ok (by rw[<-hq.1];exact hq.2.1)
   ·exact ih x hx
 exact all r x hx
theorem Np {aP:List (List Key×V)} (ok:jU P w H h) (e:H a=some (.dT aP)):aP.length<=sizeLine/\(a==sysModules)=false/\
  ∃xs,KT H aP xs/\h.DictOfH (tupleKind (cA P w)) a xs:=yT ok (.inl e)
end
def j5 (H:Hp) (a:Addr) (y:V) (r:Option V):Prop:=
 (∃aP k,Rd H a (.dK aP)/\y=kV k/\r=cW aP k)\/ ∃aP k b,Rd H a (.dT aP)/\y= .ref b/\H b=some (.tup (k.map kV))/\r=cW aP k
def oE (H:Hp) (a:Addr) (y v:V) (H':Hp):Prop:=
 (∃aP k,H a=some (.dK aP)/\y=kV k/\aP.length<sizeLine/\H'=upd H a (.dK (putK aP k v)))\/
 ∃aP k b,H a=some (.dT aP)/\y= .ref b/\H b=some (.tup (k.map kV))/\aP.length<sizeLine/\H'=upd H a (.dT (putK aP k v))
theorem j5.k {H:Hp} {a:Addr} {aP:List (Key×V)} {k:Key} (e:H a=some (.dK aP)):j5 H a (kV k) (cW aP k):= .inl ⟨aP,k, .inl e,rfl,rfl⟩
theorem j5.t {H:Hp} {a b:Addr} {aP:List (List Key×V)} {k:List Key} (e:H a=some (.dT aP)) (eb:H b=some (.tup (k.map kV))):j5 H a (.ref b) (cW aP k):= .inr ⟨aP,k,b, .inl e,rfl,eb,rfl⟩
theorem oE.k {H:Hp} {a:Addr} {aP:List (Key×V)} {k:Key} {v:V} (e:H a=some (.dK aP)) (hl:aP.length<sizeLine):oE H a (kV k) v (upd H a (.dK (putK aP k v))):= .inl ⟨aP,k,e,rfl,hl,rfl⟩
theorem oE.t {H:Hp} {a b:Addr} {aP:List (List Key×V)} {k:List Key} {v:V} (e:H a=some (.dT aP)) (eb:H b=some (.tup (k.map kV))) (hl:aP.length<sizeLine):
  oE H a (.ref b) v (upd H a (.dT (putK aP k v))):= .inr ⟨aP,k,b,e,rfl,eb,hl,rfl⟩
section
variable {X:Cx} {pins:List (Addr×Obj)} {σ:St} {H:Hp} {s:Shared} {a:Addr} {y v:V} {u r:Value} {o:Option V} {A:Around} {E:Value->Shared->Prop}
theorem Inv.big (I:Inv X pins σ H s):sysModules<s.heap.objs.size:=by
 have h:mainGlobals<s.heap.objs.size:=(I.mod.glob.keeps I.bk).lt
 exact YX (by decide) h
theorem As {Q:Value->Shared->Prop} (hu:A.units+1<cLine) (I:Inv X pins σ H s) (g:j5 H a y (some v)) (ry:RelV y u) (h: ∀w' s',Inv X pins σ H s'->RelV v w'->Q w' s'):
  wpAny (model X.prog X.w) A (getItem (.ref a) u) Q E s:=by
 rcases g with ⟨aP,k,e,ey,l⟩ | ⟨aP,k,b,e,ey,eb,l⟩
 ·subst ey
  obtain ⟨z,hd,vs,rel,dd⟩:=yS I.bX e
  obtain ⟨w',hw,uV⟩:=lN.some_of (v:=v) (o:=valueAt vs k) (by rw[l];exact rel.val k)
  exact wpAny_getItem_of (yR ry) dd.mapOf hw (h w' _ (I.tok _) uV)
 ·subst ey
  cases (show u=Value.ref b from ry)
  obtain ⟨z,hd,xs,rel,dd⟩:=yT I.bX e
  obtain ⟨w',hw,uV⟩:=lN.some_of (v:=v) (o:=(atKey xs k).map (·.2)) (by rw[l];exact rel.val k)
  obtain ⟨p,hp,oF⟩:=Option.map_eq_some_iff.mp hw
  refine wpAny_getItem_heap (tupleKind_room_in1 hu) (sP I.bX eb) dd hp ?_
  rw[oF]
  exact h w' _ (I.tok _) uV
theorem Fm {Q:Value->Shared->Prop} (hu:A.units+1<cLine) (I:Inv X pins σ H s) (g:j5 H a y o) (ry:RelV y u) (h: ∀s',Inv X pins σ H s'->Q (.bool (!o.isSome)) s'):
  wpAny (model X.prog X.w) A (compareOp .NotIn u (.ref a)) Q E s:=by
 rcases g with ⟨aP,k,e,ey,l⟩ | ⟨aP,k,b,e,ey,eb,l⟩
 ·subst ey
  obtain ⟨z,hd,vs,rel,dd⟩:=yS I.bX e
  refine wpAny_notIn_of (yR ry) hd dd.mapOf ?_
  rw[<-(rel.val k).lW, <-l]
  exact h _ (I.tok _)
 ·subst ey
  cases (show u=Value.ref b from ry)
  obtain ⟨z,hd,xs,rel,dd⟩:=yT I.bX e
  refine wpAny_notIn_heap (tupleKind_room_in1 hu) (sP I.bX eb) hd dd ?_
  have q:=(rel.val k).lW
  rw[Option.isSome_map]at q
  rw[<-q, <-l]
  exact h _ (I.tok _)
theorem yU {h':Heap} {t':Nat} {ob:HO} (I:Inv X pins σ H s) (mu:Md (H a)) (hs:Heap.SameBut a s.heap h') (he: ∃q,h'.get? a=some q) (new:cR X.prog X.w (upd H a ob) h' a ob):
  Inv X pins σ (upd H a ob) { s with heap:=h',toks:=t' }:=
 I.write (x:=a) (e:=a) mu (.inl rfl) (fun b q hb z=>(hs.2 b hb).trans z) he new
theorem IV {P:Program} {w:World} {H':Hp} {h':Heap} {aP:List (Key×V)} {vs:List (Key×Value)} (z:aP.length<=sizeLine) (hd:(a==sysModules)=false) (rel:KV aP vs) (dd:h'.DictOf (cA P w) a vs):
  cR P w H' h' a (.dK aP):=⟨z,hd,vs,rel,dd⟩
theorem Au {H':Hp} {Q:Unit->Shared->Prop} (hu:A.units+1<cLine) (I:Inv X pins σ H s) (g:oE H a y v H') (ry:RelV y u) (rv:RelV v r) (h: ∀s',Inv X pins σ H' s'->Q () s'):
  wpAny (model X.prog X.w) A (setItem (.ref a) u r) Q E s:=by
 rcases g with ⟨aP,k,e,ey,l,eH⟩ | ⟨aP,k,b,e,ey,eb,l,eH⟩
 ·subst ey eH
  obtain ⟨z,hd,vs,rel,dd⟩:=Nn I.bX e
  have hz:vs.length<=sizeLine:=by rw[<-rel.length];exact z
  have hl:(putK aP k v).length<=sizeLine:=by have:=gi aP k v;omega
  refine wpAny_setItem_pairs (hsz:=hz) (yR ry) dd fun h' OT hs=>h _ ?_
  have he: ∃q,h'.get? a=some q:=let ⟨q,_,_,hq,_⟩:=OT;⟨q,hq⟩
  exact yU I (by rw[e];exact True.intro) hs he (IV hl hd (rel.put k rv) OT)
 ·subst ey eH
  cases (show u=Value.ref b from ry)
  obtain ⟨z,hd,xs,rel,dd⟩:=Np I.bX e
  have hz:xs.length<=sizeLine:=by rw[<-Paired.length rel];exact z
  have hl:(putK aP k v).length<=sizeLine:=by have:=gi aP k v;omega
  refine wpAny_setItem_heap (hsz:=hz) (tupleKind_room_in1 hu) (sP I.bX eb) dd fun h' OT hs=>h _ ?_
  obtain ⟨q,es,ep,hq,h2,h3,h4,_,h5⟩:=OT
  refine yU I (by rw[e];exact True.intro) hs ⟨q,hq⟩ ⟨hl,hd,_,(rel.put k eb rv).keeps fun c ys ec=>?_,q,es,ep,hq,h2,h3,h4,h5⟩
  rw[au (Mc ec e (fun z=>nomatch z))]
  exact ec
end
section
variable {X:Cx} {pins:List (Addr×Obj)} {σ:St} {H:Hp} {s:Shared} {a:Addr} {aP:List (Key×V)} {k:Key} {u:Value} {A:Around} {E:Value->Shared->Prop}
end
def Nq (i:Expr):Prop:= ∀ov iv,subscripted i false ov iv=operate [ov,iv] (getItem ov iv)
theorem Fn {prog:Program} {w:World} {A:Around} {E:Value->Shared->Prop} {s:Shared} {env:Env} {value slice:Expr} {pos:Pos} {T id:String} {Q:Value->Shared->Prop}
  (hl:typeLookup (.type T) "__getitem__"=pure (some (.builtin id))) (hs:Nq slice)
  (h:wpAny (model prog w) A (eval value env) (fun o s₁=>wpAny (model prog w) A (eval slice env) (fun i s₂=>s₂.TypeIs o T/\wpAny (model prog w) A (getItem o i) Q E s₂) E s₁) E s):
  wpAny (model prog w) A (eval (.Subscript value slice pos) env) Q E s:=by
 refine Subscript_ (wpAny_mono h (fun o s₁ h₁=>wpAny_mono h₁ (fun i s₂ h₂=>?_) fun _ _ x=>x) fun _ _ x=>x)
 obtain ⟨hT,h₂⟩:=h₂
 unfold subscriptTail
 refine wpAny_bind ?_
 rw[getitemInPython_of_ne hT.not_modules]
 refine wpAny_bind (wpAny_specialOf hT hl ?_)
 have fin:wpAny (model prog w) A (subscripted slice false o i) (fun r s₃=>wpAny (model prog w) A (letTemporaryGo value o r >>= fun _=>pure r) Q E s₃) E s₂:=by
  rw[hs o i]
  exact wpAny_operating (wpAny_mono h₂ (fun r s₃ h₃=>wpAny_bind (wpAny_letTemporaryGo (wpAny_pure h₃))) fun _ _ x=>x)
 first
  | exact wpAny_pure (wpAny_bind fin)
  | exact wpAny_bind (wpAny_pure (wpAny_bind fin))
  | exact wpAny_bind fin
theorem vf {X:Cx} {pins:List (Addr×Obj)} {σ:St} {H:Hp} {s:Shared} {a:Addr} {y:V} {o:Option V} (I:Inv X pins σ H s) (g:j5 H a y o):s.TypeIs (.ref a) "dict":=by
 rcases g with ⟨aP,k,e,_,_⟩ | ⟨aP,k,b,e,_,_,_⟩
 ·obtain ⟨_,_,vs,_,dd⟩:=yS I.bX e
  exact dd.typeIs
 ·obtain ⟨_,_,xs,_,dd⟩:=yT I.bX e
  exact dd.typeIs
def Nr (td ty:TE):TE:=fun σ H Q=>td σ H fun x H1=>ty σ H1 fun y H2=> ∃a v,x= .ref a/\j5 H2 a y (some v)/\Q v H2
def Fo (ty td:TE):TE:=fun σ H Q=>ty σ H fun y H1=>td σ H1 fun x H2=> ∃a o,x= .ref a/\j5 H2 a y o/\Q (.bl (!o.isSome)) H2
def Nt (td ty tv:TE):TS:=fun D σ H=>tv σ H fun v H1=>td σ H1 fun x H2=>ty σ H2 fun y H3=> ∃a H4,x= .ref a/\oE H3 a y v H4/\D.nx σ H4
section
variable {X:Cx} {o i e value:Expr} {pos pos' MG:Pos} {td ty tv:TE}
theorem kJ (hu:X.A.units+1<cLine) (ho:PE X o td) (hi:PE X i ty) (hs:Nq i):PE X (.Subscript o i pos) (Nr td ty):=by
 intro pins s σ H Q I h
 refine Fn PySem.F.slot_dict_getitem.lookup hs (b8 (ho pins s σ H _ I h) fun u s1 ⟨x,H1,I1,rx,q1⟩=>b8 (hi pins s1 σ H1 _ I1 q1) fun iv s2 ⟨y,H2,I2,ry,a,v,ex,g,q2⟩=>?_)
 subst ex
 obtain rfl:u=Value.ref a:=rx
 exact ⟨vf I2 g,As hu I2 g ry fun w' s3 I3 uV=>⟨v,H2,I3,uV,q2⟩⟩
theorem Av (hu:X.A.units+1<cLine) (hi:PE X i ty) (ho:PE X o td):PC X .NotIn i o (Fo ty td):=by
 intro pins s σ H Q I h
 refine b8 (hi pins s σ H _ I h) fun iv s1 ⟨y,H1,I1,ry,q1⟩=>b8 (ho pins s1 σ H1 _ I1 q1) fun u s2 ⟨x,H2,I2,rx,a,ov,ex,g,q2⟩=>?_
 subst ex
 obtain rfl:u=Value.ref a:=rx
 exact Fm hu I2 g ry fun s3 I3=>⟨.bl (!ov.isSome),H2,I3,rfl,q2⟩
theorem kK (hu:X.A.units+1<cLine) (ho:PE X o td) (hi:PE X i ty) (hv:PE X value tv) (hs:swapsWith value (some (.Subscript o i pos')) pos.line X.env=pure false):
  PS X (.Assign [.Subscript o i pos'] value pos) (Nt td ty tv):=by
 intro pins s σ H D I h
 refine wpAny_Assign_Subscript (b8 (hv pins s σ H _ I h) fun r s1 ⟨v,H1,I1,rv,q1⟩=>b8 (ho pins s1 σ H1 _ I1 q1) fun u s2 ⟨x,H2,I2,rx,q2⟩=>b8 (hi pins s2 σ H2 _ I2 q2) fun iv s3 ⟨y,H3,I3,ry,a,H4,ex,g,q3⟩=>?_) hs
 subst ex
 obtain rfl:u=Value.ref a:=rx
 exact Au hu I3 g ry rv fun s4 I4=>⟨σ,H4,I4,q3⟩
end
theorem Cc {P:Program} {w:World} {H:Hp} (h:Heap) (hb:sysModules<h.objs.size):cR P w H (h.push { cls:= .type "dict",data:= .dict #[] }) h.objs.size (.dK []):=
 ⟨WO _,beq_eq_false_iff_ne.mpr (Ne.symm (Xy hb)),[], .nil,Heap.DictOf.new h⟩
theorem Cd {P:Program} {w:World} {H:Hp} (h:Heap) (hb:sysModules<h.objs.size):cR P w H (h.push { cls:= .type "dict",data:= .dict #[] }) h.objs.size (.dT []):=
 ⟨WO _,beq_eq_false_iff_ne.mpr (Ne.symm (Xy hb)),[], .nil,_, #[],0,Xq _ rfl,⟨rfl,rfl,rfl⟩,rfl,rfl,Y6⟩
def IW:TE:=fun _ H Q=> ∀p,H p=none->Q (.ref p) (upd H p (.dK []))
def IX:TE:=fun _ H Q=> ∀p,H p=none->Q (.ref p) (upd H p (.dT []))
section
variable {X:Cx} {pos:Pos}
theorem vg:PE X (.Dict [] [] pos) IW:=fun pins s σ H Q I h=>
 wpAny_Dict_empty ⟨.ref s.heap.objs.size,_,I.laid (a:=s.heap.objs.size) (o:= .dK []) (t':=s.toks) (fun _ _ q=>Sy _ q) (OS _) (Cc s.heap I.big),rfl,h _ (I.bX.fresh (OS _))⟩
theorem Ce:PE X (.Dict [] [] pos) IX:=fun pins s σ H Q I h=>
 wpAny_Dict_empty ⟨.ref s.heap.objs.size,_,I.laid (a:=s.heap.objs.size) (o:= .dT []) (t':=s.toks) (fun _ _ q=>Sy _ q) (OS _) (Cd s.heap I.big),rfl,h _ (I.bX.fresh (OS _))⟩
end
section
variable {X:Cx} {pins:List (Addr×Obj)} {σ:St} {H:Hp} {s:Shared} {a:Addr} {y d:V} {u r:Value} {o:Option V} {A:Around} {E:Value->Shared->Prop}
end
section
variable {X:Cx} {o e f:Expr} {apos fQ:Pos} {td ty tx:TE}
end
section
variable {X:Cx} {pins:List (Addr×Obj)} {σ:St} {H:Hp} {s:Shared} {a:Addr} {aP:List (Key×V)} {A:Around} {E:Value->Shared->Prop}
end
section
variable {X:Cx} {pins:List (Addr×Obj)} {σ:St} {H:Hp} {s:Shared} {a:Addr} {y:V} {u:Value} {A:Around} {E:Value->Shared->Prop}
end
section
variable {prog:Program} {w:World} {A:Around} {E:Value->Shared->Prop} {s:Shared}
end
section
variable {X:Cx}
end
end L2
set_option maxHeartbeats 1000000
namespace L2
open PySem PySem.Spec PyProof.Rows
section
variable {prog:Program} {w:World} {KK:Type} [DecidableEq KK] {knd:KeyKind prog w KK}
end
section
variable {X:Cx}
end
end L2
set_option maxHeartbeats 1000000
namespace L2.F2
open PySem PySem.Spec PyProof.Rows
theorem jL:Slot "reversed" "__length_hint__" "reversed.__length_hint__":=
 .of (owner:="reversed") (n:="__length_hint__") (by rw[typeLookup_type,builtinLookup_eq_fast];kernel_rfl) (by decide+kernel) (by decide+kernel) (by decide+kernel)
  (by first | exact .inl (by decide+kernel) | exact .inr (by decide+kernel)) (by rw[isSubtype_type];kernel_rfl)
theorem oG:entryFor table "reversed.__length_hint__"=some Builtin.«reversed.__length_hint__» :=entryFor_of_tree (by kernel_rfl)
theorem m9 (a:Value):argsOk "reversed.__length_hint__" ⟨[a],[]⟩:=by
 unfold argsOk;rw[signature?_of (id:="reversed.__length_hint__") (n:=['_','_','t','n','i','h','_','h','t','g','n','e','l','_','_']) (o:=['d','e','s','r','e','v','e','r']) (by kernel_rfl) lV];kernel_rfl
theorem xx:typeLookup (.type "reversed") "__len__"=pure none:=by rw[typeLookup_type,builtinLookup_eq_fast];kernel_rfl
theorem oH (a:Value):bindSpecial (.builtin "reversed.__length_hint__") a=pure (.builtin "reversed.__length_hint__",[a]):=by
 have e:typeOf (.builtin "reversed.__length_hint__")=pure (.type "method_descriptor"):=by show builtinType _=_;rw[builtinType_eq_fast];kernel_rfl
 unfold bindSpecial
 rw[e]
 rfl
end L2.F2
namespace L2
open PySem PySem.Spec PyProof.Rows
section
variable {prog:Program} {w:World} {A:Around} {E:Value->Shared->Prop} {s:Shared}
theorem Cf {it:Addr} {x:Str} {t:Tok} {Q:Value->Shared->Prop} (hit:cU s.heap it x t ((x.length:Int) - 1)) (hz:x.length<=sizeLine)
  (hQ: ∀u tk,Q (.int x.length u) { s with toks:=tk }):wpAny (model prog w) A (call (.builtin "reversed.__length_hint__") [.ref it]) Q E s:=by
 obtain ⟨o,ho,hc,hd⟩:=id hit
 have hn:=eG
 refine wpAny_call_entry F2.jL hit.typeIs F2.oG ?_ (F2.m9 _)
 unfold Builtin.«reversed.__length_hint__»
 refine wpAny_bind (wpAny_of_eq (a:=Value.ref it) rfl ?_)
 refine wpAny_bind (wpAny_field ho hd (x:= .str x t) rfl ?_)
 show wpAny _ _ (if (Value.str x t==Value.none)=true then _ else _) _ _ s
 rw[if_neg (by simp)]
 refine wpAny_bind (len_str (by omega) ?_)
 refine wpAny_bind (wpAny_of_eq (a:=some (x.length:Int)) rfl ?_)
 refine wpAny_bind (wpAny_field ho hd (x:=rawInt ((x.length:Int) - 1)) rfl ?_)
 show wpAny _ _ (if (x.length:Int)<((x.length:Int) - 1)+1 then _ else _) _ _ _
 rw[if_neg (by omega),show ((x.length:Int) - 1)+1=x.length by omega]
 refine wpAny_bind (wpAny_mkInt ?_)
 exact wpAny_pure ⟨_,rfl,hQ _ _⟩
theorem Aw (hh:A.handled=none) (I:Addr) (x:Str) (t:Tok) (hz:x.length<=sizeLine):
  Walks prog w A I [I] [I] x.length (fun i v=> ∃c u,x.cps[x.length - 1 - i]? =some c/\v= .str ⟨#[c]⟩ u) (fun i h=>i<=x.length/\cU h I x t ((x.length:Int) - 1 - (i:Int))) where
 sub:=fun b hb=>hb
 frame:=fun i h h' st hk=>⟨st.1,let ⟨o,ho,r⟩:=st.2;⟨o,hk I (by simp) o ho,r⟩⟩
 item:=fun i s Q E hi st hQ=>by
  have e:(x.length:Int) - 1 - (i:Int)=((x.length - 1 - i:Nat):Int):=by omega
  have hit:=st.2
  rw[e]at hit
  have dk:x.length - 1 - i<x.cps.size:=by show _<x.length;omega
  have hx:x.cps[x.length - 1 - i]? =some x.cps[x.length - 1 - i]:=Array.getElem?_eq_getElem dk
  refine h7 hit hx hz fun h' tk u Nu IE=>?_
  have e2:((x.length - 1 - i:Nat):Int) - 1=(x.length:Int) - 1 - ((i+1:Nat):Int):=by omega
  rw[e2]at Nu
  exact hQ _ h' tk ⟨_,u,hx,rfl⟩ ⟨hi,Nu⟩ fun b o hb eo=>IE.extBut b o (fun h=>hb (by simp[h])) eo
 done:=fun s Q E st hQ=>by
  have e:(x.length:Int) - 1 - (x.length:Int)= -1:=by omega
  have hit:=st.2
  rw[e]at hit
  exact iP hh hit fun h' yV=>hQ h' s.toks fun b o hb eo=>yV b o (fun h=>hb (by simp[h])) eo
 self:=fun _ _ _ _ st hQ=>fR st.2 hQ
theorem Fp {R:Result->Shared->Prop} (hh:A.handled=none) (x:Str) (t:Tok) (it S:Addr) (res:Value) (c₀:Nat) (hS:s.heap.get? S=some { cls:= .type "list",data:= .seq #[] c₀ }) (hit:cU s.heap it x t ((x.length:Int) - 1)) (h0:0<x.length) (hz:x.length<=sizeLine)
  (hR: ∀h' tk cq c',(∀b o,b≠S->b≠it->s.heap.get? b=some o->h'.get? b=some o)->h'.get? S=some { cls:= .type "list",dict:=none,data:= .seq cq c',slots:= #[] }->
   ItemsOf (fun i v=> ∃c u,x.cps[x.length - 1 - i]? =some c/\v= .str ⟨#[c]⟩ u) cq x.length->R (.ok (.ret res)) { s with heap:=h',toks:=tk }):
  wpAny (model prog w) A.in1 (Builtin.List.listExtendWith (.ref S) (.ref it) res)
   (fun fin s'=>match fin with | .done f=>R (.ok f) s' | .again c'=>c'.quiet=true/\codeAny (model prog w) A c' R s') (fun e s'=>R (.error e) s') s:=by
 have QW:S≠it:=fun z=>by
  obtain ⟨o,ho,hc,hd⟩:=hit
  rw[<-z,hS]at ho
  cases ho
  cases hd
 have QX:S∉[it]:=fun hm=>QW (Sz.mp hm)
 have hn:=eG
 unfold Builtin.List.listExtendWith
 refine wpAny_bind (wpAny_typeOf hit.typeIs ?_)
 have h1:Builtin.List.listSameRef (.ref S) (.ref it)=false:=by simp[Builtin.List.listSameRef,QW]
 rw[if_neg (by rw[h1];decide)]
 refine wpAny_bind (fR hit ?_)
 refine wpAny_bind (wpAny_holding ?_)
 unfold Builtin.List.listLengthHint
 refine wpAny_bind (wpAny_specialOf hit.typeIs F2.xx ?_)
 show wpAny _ A.in1 (specialOf (Value.ref it) (Str.ofString "__length_hint__") >>= _) _ _ _
 refine wpAny_bind (wpAny_specialOf hit.typeIs F2.jL.lookup ?_)
 (generalize QY:("reversed.__length_hint__":String)=SK;(fail_if_success (clear QY SK));wp_delta;rw[show splitId SK=some ("reversed","__length_hint__") from by subst QY;decide+kernel];subst QY)
 refine wpAny_bind (wpAny_isInstance (b:=true) hit.typeIs (by rw[isSubtype_type];kernel_rfl) ?_)
 refine wpAny_bind (wpAny_rule ?_)
 rw[F2.oH]
 refine wpAny_bind (wpAny_pure ?_)
 refine wpAny_bind (wpAny_attempt (Cf hit hz fun u tk=>?_))
 dsimp only
 have ea:asInt? (.int (x.length:Int) u)=pure (some (x.length:Int)):=rfl
 rw[ea]
 refine wpAny_bind ?_
 refine wpAny_pure ?_
 dsimp only
 have f1:Builtin.List.listFitsIndex (x.length:Int)=true:=by
  unfold Builtin.List.listFitsIndex
  simp
  omega
 rw[f1,if_neg (by decide),if_neg (by omega)]
 have f2:Builtin.List.listTooLong (x.length:Int).toNat=false:=by
  rw[UG]
  unfold Builtin.List.listTooLong
  simp
  omega
 rw[f2,if_neg (by decide)]
 refine wpAny_pure ?_
 have f3:((x.length:Int) != 0)=true:=by simp;omega
 rw[f3,Bool.true_or,if_pos rfl]
 refine wpAny_bind (wpAny_rule ?_)
 refine wpAny_bind ?_
 unfold Builtin.List.listTouch
 refine wpAny_bind (wpAny_updateSeq hS rfl ?_ (WO _) (Yp (WO _)))
 have Nv:=X9 (Obj.mapSeq (fun l:Array Value=>l.push .none)) hS rfl
 refine wpAny_updateSeq Nv rfl ?_ (XM (Yp (WO _)) (XM h0 hz)) (WO _)
 have QZ:=X9 (Obj.mapSeq (fun l:Array Value=>l.pop)) Nv rfl
 have Cg: ∀b o,b≠S->s.heap.get? b=some o->((s.heap.update S (Obj.mapSeq (fun l:Array Value=>l.push .none))).update S (Obj.mapSeq (fun l:Array Value=>l.pop))).get? b=some o:=fun b o hb e=>
  (XO _ _ (Ne.symm hb)).trans ((XO _ _ (Ne.symm hb)).trans e)
 have IZ:cU ((s.heap.update S (Obj.mapSeq (fun l:Array Value=>l.push .none))).update S (Obj.mapSeq (fun l:Array Value=>l.pop))) it x t ((x.length:Int) - 1 - ((0:Nat):Int)):=by
  obtain ⟨o,ho,r⟩:=hit
  rw[show (x.length:Int) - 1 - ((0:Nat):Int)=(x.length:Int) - 1 by omega]
  exact ⟨o,Cg it o (Ne.symm QW) ho,r⟩
 refine wpAny_pure ⟨plainId_quiet PySem.F.plain_extend_loop _,codeAny_extend_loopS (Aw (A:=A.in1) hh it x t hz).toS hz _ QX _ x.length 0 _ _ _ rfl (WO _) ⟨WO _,IZ⟩ QZ (ItemsOf.nil _) fun s' cq c' hm I0 iA=>?_⟩
 rw[Moved.eq_with hm]
 refine hR s'.heap s'.toks cq c' (fun b ob hb UQ e=>hm.heap b ob (fun Ax=>?_) (Cg b ob hb e)) I0 iA
 rcases UE.mp Ax with e' | Ax
 ·exact hb e'
 ·exact UQ (Sz.mp Ax)
end
section
variable {X:Cx}
end
end L2
set_option maxHeartbeats 1000000
namespace L2
open PySem PySem.Spec PyProof.Rows
section
variable {prog:Program} {w:World} {A:Around} {E:Value->Shared->Prop} {s:Shared}
end
section
variable {X:Cx}
end
end L2
set_option maxHeartbeats 2000000
namespace L2
open PySem PySem.Spec PyProof.Rows
noncomputable def Eo (a b c d:Int):Bool:=if a=c then decide (b<d) else decide (a<c)
section
variable {prog:Program} {w:World} {A:Around} {E:Value->Shared->Prop} {s:Shared}
theorem Fq {p q:Addr} {ox oy:Obj} {mx my:Nat} {a b c d:Int} {t1 t2 t3 t4:Tok} {P:PySem.Fin->Shared->Prop} (OU:s.heap.get? p=some ox) (Q0:ox.data= .seq #[.int a t1, .int b t2] mx)
  (Nw:s.heap.get? q=some oy) (yW:oy.cls= .type "tuple") (Q3:oy.data= .seq #[.int c t3, .int d t4] my) (h:P (.done (.ret (.bool (Eo a b c d)))) s):
  wpAny (model prog w) A (Builtin.«tuple.__lt__» ⟨[.ref p, .ref q],[]⟩) P E s:=by
 have hT:s.TypeIs (.ref q) "tuple":=⟨oy,Nw,yW⟩
 show wpAny _ _ (isInstance (.ref q) (.type "tuple") >>= fun b=>_) _ _ s
 refine wpAny_bind (wpAny_isInstance (b:=true) hT isSubtype_tuple_tuple ?_)
 simp only[Z8,YN,if_false]
 refine wpAny_bind (wpAny_tupleItemsOf OU Q0 ?_)
 refine wpAny_bind (wpAny_tupleItemsOf Nw Q3 ?_)
 refine wpAny_bind ?_
 show wpAny _ _ (forIn [(Value.int a t1,Value.int c t3),(Value.int b t2,Value.int d t4)] _ _) _ _ _
 rw[Zg]
 refine wpAny_bind (wpAny_bind (wpAny_eqBool_int ?_))
 unfold Eo at h
 by_cases e:a=c
 ·rw[if_pos e]at h
  rw[show (a==c)=true by simp[e]]
  simp only[Z8,YN,if_false]
  refine wpAny_pure ?_
  dsimp only
  rw[Zg]
  refine wpAny_bind (wpAny_bind (wpAny_eqBool_int ?_))
  by_cases e2:b=d
  ·rw[show (b==d)=true by simp[e2]]
   simp only[Z8,YN,if_false]
   refine wpAny_pure ?_
   dsimp only
   rw[List.forIn_nil]
   refine wpAny_pure ?_
   dsimp only
   refine wpAny_pure ?_
   rw[decide_eq_false (by omega)]at h
   exact h
  ·rw[show (b==d)=false by simp[e2]]
   simp only[Bool.not_false,if_true]
   refine wpAny_bind (wpAny_rule ?_)
   refine wpAny_bind (lt_int ?_)
   refine wpAny_bind (wpAny_pure ?_)
   refine wpAny_pure ?_
   dsimp only
   refine wpAny_pure ?_
   dsimp only
   exact wpAny_pure h
 ·rw[if_neg e]at h
  rw[show (a==c)=false by simp[e]]
  simp only[Bool.not_false,if_true]
  refine wpAny_bind (wpAny_rule ?_)
  refine wpAny_bind (lt_int ?_)
  refine wpAny_bind (wpAny_pure ?_)
  refine wpAny_pure ?_
  dsimp only
  refine wpAny_pure ?_
  dsimp only
  exact wpAny_pure h
end
section
variable {X:Cx}
def Q5 (K:PySem.W.Frag):R2:=fun x y H Q=> ∃p q a b c d,x= .ref p/\y= .ref q/\cS K H p [.int a, .int b]/\cS K H q [.int c, .int d]/\Q (.bl (Eo a b c d)) H
theorem vh {a b:Int} {us:List Value} (r:Vals [.int a, .int b] us): ∃t u,us=[.int a t, .int b u]:=by
 cases r with
 | cons r1 r=>
  cases r with
  | cons r2 r=>
   cases r
   obtain ⟨t,rfl⟩:=r1
   obtain ⟨u,rfl⟩:=r2
   exact ⟨t,u,rfl⟩
theorem I_ {k:Nat} (K:PySem.W.Frag) (h:X.K=K) (hr:eI k X.A):iE X (compareOp .Lt) (Q5 K):=by
 subst h
 intro pins s σ H x y v u Q I rx ry h
 obtain ⟨p,q,a,b,c,d,rfl,rfl,hp,hq,r⟩:=h
 cases rx
 cases ry
 obtain ⟨xs,UR,px,_⟩:=I.tuple hp
 obtain ⟨ys,US,py,_⟩:=I.tuple hq
 obtain ⟨ox,OU,QS,mx,Q0⟩:=px
 obtain ⟨oy,Nw,yW,my,Q3⟩:=py
 obtain ⟨t1,t2,rfl⟩:=vh UR
 obtain ⟨t3,t4,rfl⟩:=vh US
 have hu:=hr.units
 show wpAny _ _ (richCompare .Lt (.ref p) (.ref q)) _ _ s
 have hT:s.TypeIs (.ref p) "tuple":=⟨ox,OU,QS⟩
 refine wpAny_richCompare_same_room hT ⟨oy,Nw,yW⟩ PySem.F.slot_tuple_lt (wpAny_call_entry PySem.F.slot_tuple_lt hT PySem.F.entry_tuple_lt (Fq OU Q0 Nw yW Q3 ⟨_,rfl,(fun z=>nomatch z),?_⟩) (PySem.F.args_tuple_lt_2 _ _)) (by omega)
 exact ⟨.bl _,H,I,rfl,r⟩
end
section
variable {prog:Program} {w:World} {A:Around} {E:Value->Shared->Prop} {s:Shared}
end
section
variable {prog:Program} {w:World} {A:Around} {E:Value->Shared->Prop} {s:Shared}
end
section
variable {X:Cx}
end
section
variable {prog:Program} {w:World} {A:Around} {E:Value->Shared->Prop} {s:Shared}
end
section
variable {X:Cx}
end
section
variable {X:Cx}
end
section
variable {X:Cx} {st:Stmt} {rest:List Stmt} {t u:TS}
def Q6 (t u:TS):TS:=fun D σ H=> ∃P:St->Hp->Prop,t { D with nx:=P } σ H/\ ∀σ' H',P σ' H'->u D σ' H'
theorem jl (h1:PS X st t) (h2:wM X rest u):wM X (st::rest) (Q6 t u):=by
 intro pins s σ H D I h
 obtain ⟨P,h,g⟩:=h
 refine wpAny_execs_cons (b8 (h1 pins s σ H _ I h) fun f s1 q=>?_)
 cases f with
 | ret v=>exact q
 | brk=>exact q
 | cont=>exact q
 | next=>
  obtain ⟨τ,G,J,p⟩:=q
  exact h2 pins s1 τ G D J (g τ G p)
end
section
variable {X:Cx}
def Ny (K:PySem.W.Frag):List V->Hp->VK->Prop:=fun xs H Q=> ∃(p:Addr) (ns:List Int),xs=[.ref p]/\bC K H p (ns.map V.int)/\Q (.int ns.sum) H
theorem Ay (K:PySem.W.Frag) (h:X.K=K) (hc:X.calm=true):dN X (.builtin "sum") (Ny K):=by
 subst h
 intro pins s σ H xs us Q I r h
 obtain ⟨p,ns,rfl,hq,q⟩:=h
 obtain ⟨u,rfl,ru⟩:=vals1 r
 cases ru
 obtain ⟨aJ,rv,pl,_⟩:=I.list hq
 have hi:IntsAre aJ ns:=intsAre_of rv
 obtain ⟨ys,e⟩:=hi.allInts.items
 have hl:s.heap.IsList p (intItems ys):=by rw[<-e];exact pl.isList
 refine sum_intListG (I.ok.hd hc) hl fun h' tk t' hk=>?_
 have e2:preSum (numAt ys) ys.size=ns.sum:=by
  rw[preSum_eq,Xz (by simp), <-nums_intItems, <-e]
  exact congrArg List.sum hi.numsOf
 rw[e2]
 exact ⟨.int ns.sum,H,I.kept (t':=tk) hk,⟨_,rfl⟩,q⟩
end
section
variable {X:Cx}
end
section
variable {prog:Program} {w:World} {A:Around} {E:Value->Shared->Prop} {s:Shared}
section
variable {z TI TO i1 i2:Addr} {f1 f2:List Addr} {n1 n2 i:Nat} {P1 P2:Nat->Value->Prop} {S1 S2:Nat->Heap->Prop} {a b:Value}
end
end
section
variable {X:Cx} {elts:List Expr} {k:Nat} {pos':Pos} {a b:Expr} {ta:TA} {p pos:Pos}
end
section
variable {X:Cx}
end
end L2
namespace L2
open PySem PySem.Spec PyProof.Rows PySem.MeetsSeq PySem.SeqAt
section
variable {X:Cx}
end
end L2
set_option maxHeartbeats 4000000
namespace XL
open PySem PySem.Spec PySem.Calls PyProof.Rows PySem.W Builtin Builtin.ObjectAttr
section
variable {prog:Program} {w:World} {A:Around} {E:Value->Shared->Prop} {h:Heap} {g:Array GenState} {d:Drawn} {t:Nat} {os:OsState} {K:Frag} {C:Addr}
variable {x:Addr} {mA:Str->Option Value} {name:Str} {v:Value}
end
end XL
set_option maxHeartbeats 4000000
namespace XL
open PySem PySem.Spec PySem.Calls PyProof.Rows PySem.W Builtin Builtin.ObjectAttr
section
variable {prog:Program} {w:World} {A:Around} {E:Value->Shared->Prop} {h:Heap} {g:Array GenState} {d:Drawn} {t:Nat} {os:OsState} {K:Frag} {C x:Addr}
end
end XL
set_option maxHeartbeats 4000000
namespace XL
open PySem PySem.Spec PySem.Calls PyProof.Rows PySem.W
section
variable {M:Model} {A:Around} {E:Value->Shared->Prop} {s:Shared} {base:Heap} {env:Env} {outer:List Env} {L e C:Addr} {dO:Option Addr}
end
end XL
set_option maxHeartbeats 4000000
namespace L2
open PySem PySem.Spec PyProof.Rows XL
section
variable {P:Program} {w:World} {H H' H1 H2:Hp} {h h' h0 h1 h2:Heap} {a e:Addr} {o:HO} {fs ex S:List Addr}
end
section
variable {P:Program} {w:World} {K:PySem.W.Frag} {mg:Str->Option Value} {base:Heap} {N:List Str} {qual:Str} {scope:Scope} {f:Addr} {cd:Value} {A:Around} {outer:List Env} {s:Shared} {H:Hp} {E:XK}
end
end L2
set_option maxHeartbeats 4000000
namespace L2
open PySem PySem.Spec PyProof.Rows XL
section
variable {X:Cx} {pins:List (Addr×Obj)} {σ:St} {H:Hp} {s:Shared} {a:Addr} {o:HO}
end
section
variable {X:Cx} {CX:Af} {k:Nat} {f C:Addr} {fd:FuncData} {ps:List Str} {sp:Sp} {dvs:List V} {ds:List Value} {E:St->XK} {x:Str} {p pos:Pos} {e:Expr} {es:List Expr} {ta te:TE} {t:TA}
end
section
variable {P:Program} {w:World} {K:PySem.W.Frag} {mg:Str->Option Value} {base:Heap}
end
end L2
set_option maxHeartbeats 4000000
namespace L2
open PySem PySem.Spec PyProof.Rows XL
section
variable {X:Cx} {k:Nat} {f C M:Addr} {fd:FuncData} {ps:List Str} {sp:Sp} {x:Str} {p pos apos:Pos} {e:Expr} {es:List Expr} {ta te tv:TE} {t:TA} {pins:List (Addr×Obj)} {σ:St} {H:Hp} {s:Shared}
end
end L2
set_option maxHeartbeats 4000000
namespace L2
open PySem PySem.Spec PyProof.Rows XL
section
variable {X:Cx} {pins pn:List (Addr×Obj)} {σ:St} {H:Hp} {s:Shared} {W:Value->Shared->Prop} {ev:Value}
end
section
variable {X:Cx} {M:Addr} {n:Nat} {mx nm:Str} {body SM:List Stmt} {b₀:Stmt} {tb:(St->XK)->TS} {th:TS} {pos lX mp:Pos} {pins:List (Addr×Obj)} {σ:St} {H:Hp} {s:Shared} {D:Ends}
end
end L2
set_option maxHeartbeats 4000000
namespace L2
open PySem PySem.Spec PyProof.Rows XL
noncomputable def SN (s:Stmt) (j:Nat):Stmt:=match s with
 | .ClassDef _ _ _ b _ _ _ _ _ _ _=>b.getD j (.Pass ⟨0,0,0,0⟩)
 | _=> .Pass ⟨0,0,0,0⟩
end L2
set_option maxHeartbeats 4000000
namespace L2
open PySem PySem.Spec PyProof.Rows XL
def Nz (_ j:Int):Prop:=0<j/\j<18446744073709551616
theorem eY {X:Cx}:iE X (binaryOp .FloorDiv) (rI Nz fun i j=> .int (i / j)):=OM fun i j _ _ _ _ _ hc q=>by
 have h1:(0:Int)<j:=hc.1
 have h2:j<18446744073709551616:=hc.2
 have h3:j.natAbs<2 ^ 64:=by omega
 exact floordiv_int (by omega) (by rw[Int.fdiv_eq_ediv_of_nonneg i (by omega)];exact q) (.inl (PyProof.noPylong_of_log2 (YX ((Nat.log2_lt (by omega)).mpr h3) (by decide))))
end L2
namespace PySem
end PySem
namespace L2
open PySem PySem.Spec PyProof.Rows
section
variable {P:Program} {w:World} {K:PySem.W.Frag} {mg:Str->Option Value} {base:Heap}
end
section
variable {X:Cx}
end
section
variable {X:Cx}
end
end L2
set_option maxHeartbeats 1000000
namespace L2.F3
open PySem PySem.Spec PyProof.Rows
end L2.F3
namespace L2
open PySem PySem.Spec PyProof.Rows
section
variable {prog:Program} {w:World} {A:Around} {E:Value->Shared->Prop} {s:Shared}
end
section
variable {X:Cx}
end
section
variable {P:Program} {w:World} {K:PySem.W.Frag} {mg:Str->Option Value} {base:Heap}
end
section
variable {X:Cx}
noncomputable def dg (n:Nat):List Nat:=((toString (n:Int):String):Str).cps.toList
theorem Q7 (n:Nat):((toString (n:Int):String):Str)=S (dg n):=M7 _
theorem Az {n:Nat} (h:n<2 ^ 60):((n:Int)).natAbs.log2<1920:=by
 rw[Int.natAbs_natCast]
 by_cases z:n=0
 ·subst z;decide
 ·exact (Nat.log2_lt z).mpr (XD h (Nat.pow_le_pow_right (by decide) (by decide)))
theorem AA:dN X (.type "str") (fun xs H Q=> ∃n:Nat,xs=[.int n]/\n<2 ^ 60/\Q (.str (S (dg n))) H):=by
 intro pins s σ H xs us Q I r h
 obtain ⟨n,rfl,hz,q⟩:=h
 refine sd pins s σ H _ us Q I r ⟨n,rfl,Az hz,?_⟩
 rw[Q7]
 exact q
end
section
variable {X:Cx} {elts:List Expr} {k:Nat} {pos':Pos} {a b:Expr} {ta:TA} {p pos:Pos}
end
end L2
set_option maxHeartbeats 1000000
namespace L2
open PySem PySem.Spec PyProof.Rows
theorem vm:typeLookup (.type "dict") "__len__"=pure (some (.builtin "dict.__len__")):=PySem.F.slot_dict_len.lookup
section
variable {prog:Program} {w:World} {A:Around} {E:Value->Shared->Prop} {s:Shared} {KK:Type} [DecidableEq KK] {knd:PySem.KeyKind prog w KK}
theorem sQ {Q:List Value->Shared->Prop} (hh:A.handled=none) (d:Addr) (aP:List (KK×Value)) (ep:Nat) (hd:(d==sysModules)=false) (hm:s.heap.DictAt knd d aP ep) (hn:aP.length<=sizeLine)
  (hQ: ∀s' acc,(∀b o,s.heap.get? b=some o->s'.heap.get? b=some o)->s'.gens=s.gens->s'.drawn=s.drawn->s'.os=s.os->ItemsOf (fun i v=> ∃k x,aP[i]? =some (k,x)/\knd.is k v=true) acc aP.length->Q acc.toList s'):
  wpAny (model prog w) A (collect (.ref d)) Q E s:=by
 have hT:s.TypeIs (.ref d) "dict":=hm.dictOf.typeIs
 obtain ⟨od,NA,UT⟩:=id hT
 have NB:=Xs NA
 unfold collect
 refine wpAny_bind (wpAny_runValue (codeAny_builtin PySem.F.entry_proto_collect ?_))
 rw[Around.under_plainId PySem.F.plain_proto_collect _]
 show wpAny _ A.in1 (newList [] >>= fun l=>again (.builtin "list.__iadd__" ⟨[l, .ref d],[]⟩)) _ _ s
 refine wpAny_bind (wpAny_newObj_type ?_)
 refine wpAny_pure ⟨plainId_quiet Y3 _,codeAny_builtin PySem.F.entry_list_iadd ?_⟩
 rw[Around.under_plainId Y3 _]
 show wpAny _ A.in1 (Builtin.List.listExtendWith (.ref s.heap.objs.size) (.ref d) (.ref s.heap.objs.size)) _ _ _
 generalize hH:s.heap.push { cls:= .type "list",data:= .seq ([]:List Value).toArray }=H
 have Q8:H.objs.size=s.heap.objs.size+1:=by rw[<-hH,Ze]
 have Kz:H.DictAt knd d aP ep:=hm.at' fun o e=>by rw[<-hH];exact Sy _ e
 have UU:Shared.TypeIs { s with heap:=H } (.ref d) "dict":=Kz.dictOf.typeIs
 have Q9:s.heap.objs.size≠d:=ZK NB
 unfold Builtin.List.listExtendWith
 refine wpAny_bind (wpAny_typeOf UU ?_)
 have h1:Builtin.List.listSameRef (.ref s.heap.objs.size) (.ref d)=false:=by simp[Builtin.List.listSameRef,Q9]
 rw[if_neg (by rw[h1];decide)]
 refine wpAny_bind (wpAny_pyIter_dict (s:={ s with heap:=H }) hd Kz ?_)
 show wpAny _ A.in1 _ _ _ { s with heap:=H.push { cls:= .type "dict_keyiterator",data:= .fields #[.ref d, .int 0 0, .int aP.length 0, .int ep 0] } }
 generalize G6:H.push { cls:= .type "dict_keyiterator",data:= .fields #[.ref d, .int 0 0, .int aP.length 0, .int ep 0] }=H2
 have Ep:H2.DictAt knd d aP ep:=Kz.at' fun o e=>by rw[<-G6];exact Sy _ e
 have Q_:Shared.TypeIs { s with heap:=H2 } (.ref d) "dict":=Ep.dictOf.typeIs
 refine wpAny_bind (wpAny_holding ?_)
 unfold Builtin.List.listLengthHint
 refine wpAny_bind (wpAny_specialOf Q_ vm ?_)
 wp_delta
 refine wpAny_bind (wpAny_isInstance (T:="dict") (b:=true) Q_ (by rw[isSubtype_type];kernel_rfl) ?_)
 show wpAny _ A.in1 (typeOf (Value.ref d) >>= _) _ _ _
 refine wpAny_bind (wpAny_typeOf Q_ ?_)
 refine wpAny_pure ?_
 rw[if_pos (by decide+kernel)]
 refine wpAny_bind (wpAny_rule ?_)
 refine wpAny_bind ?_
 unfold Builtin.List.listTouch
 have hS:H2.get? s.heap.objs.size=some { cls:= .type "list",data:= .seq ([]:List Value).toArray }:=by
  rw[<-G6];exact Sy _ (by rw[<-hH];exact Xq _ rfl)
 refine wpAny_bind (wpAny_updateSeq hS rfl ?_ (WO _) (Yp (WO _)))
 have Nv:=X9 (Obj.mapSeq (fun l:Array Value=>l.push .none)) hS rfl
 refine wpAny_updateSeq Nv rfl ?_ (by show 1<=sizeLine;decide) (WO _)
 have QZ:=X9 (Obj.mapSeq (fun l:Array Value=>l.pop)) Nv rfl
 have Cg: ∀b o,b≠s.heap.objs.size->H2.get? b=some o->((H2.update s.heap.objs.size (Obj.mapSeq (fun l:Array Value=>l.push .none))).update s.heap.objs.size (Obj.mapSeq (fun l:Array Value=>l.pop))).get? b=some o:=fun b o hb e=>
  (XO _ _ (Ne.symm hb)).trans ((XO _ _ (Ne.symm hb)).trans e)
 have hit:H2.get? H.objs.size=some { cls:= .type "dict_keyiterator",data:= .fields #[.ref d, .int 0 0, .int aP.length 0, .int ep 0] }:=by rw[<-G6];exact Xq _ rfl
 have SO:H.objs.size≠s.heap.objs.size:=by rw[Q8];exact Zy _
 have UW:d≠H.objs.size:=by rw[Q8];exact Xy (YT NB)
 have QX:s.heap.objs.size∉[H.objs.size,d]:=fun UX=>by
  rcases UE.mp UX with z | z
  ·exact SO z.symm
  ·exact Q9 (Sz.mp z)
 refine wpAny_pure ⟨plainId_quiet PySem.F.plain_extend_loop _,codeAny_extend_loopS (Walks.dictKeys (knd:=knd) (A:=A.in1) hh H.objs.size d UW aP ep).toS hn _ QX _ aP.length 0 _ _ _ rfl (WO _)
  ⟨⟨_,Cg _ _ SO hit,rfl,rfl⟩,Ep.at' fun o e=>Cg d o (Ne.symm Q9) e⟩ QZ (ItemsOf.nil _) fun s' cq c' OV I0 iA=>?_⟩
 show wpAny _ A (load s.heap.objs.size >>= _) _ _ s'
 refine wpAny_bind (wpAny_load I0 ?_)
 refine wpAny_pure (hQ s' cq (fun b ob e=>OV.heap b ob (fun hb=>?_) (Cg b ob (Xy (Xs e)) (by rw[<-G6];exact Sy _ (by rw[<-hH];exact Sy _ e)))) OV.gens OV.drawn OV.os iA)
 have dk:=Xs e
 rcases UE.mp hb with h | h
 ·exact absurd dk (h▸XY _)
 ·rw[Sz.mp h,Q8]at dk;exact absurd dk (Nat.not_lt.mpr (YJ _))
end
section
variable {X:Cx}
theorem yX {aP:List (Key×V)} {vs:List (Key×Value)} (h:KV aP vs):vs.map (·.1)=aP.map (·.1):=by
 induction h with
 | nil=>rfl
 | cons r _ ih=>rw[Xw,Xw,ih,r.1]
end
section
variable {X:Cx}
end
end L2
set_option maxHeartbeats 4000000
namespace XL
open PySem PySem.Spec PySem.Calls PyProof.Rows PySem.W
section
variable {M:Model} {A:Around} {E:Value->Shared->Prop} {s:Shared} {base:Heap} {env UY:Env} {outer:List Env} {L e C:Addr} {dO:Option Addr}
end
end XL
set_option maxHeartbeats 4000000
namespace L2
open PySem PySem.Spec PyProof.Rows XL
section
variable {P:Program} {w:World} {K:PySem.W.Frag} {mg:Str->Option Value} {base:Heap} {N:List Str} {qual:Str} {scope:Scope} {f:Addr} {cd:Value} {A:Around} {outer:List Env} {s:Shared} {H:Hp} {E:XK}
end
section
variable {X:Cx} {scope:Scope} {C:Addr} {Nc:List Str} {s0:Shared} {H0:Hp} {fp:List Addr} {pn pins:List (Addr×Obj)} {xe:Value->Shared->Prop} {σ:St} {H:Hp} {s:Shared}
end
end L2
set_option maxHeartbeats 1000000
namespace L2
open PySem PySem.Spec PyProof.Rows
section
variable {X:Cx}
end
section
variable {X:Cx}
end
end L2
namespace PySem
open Sem (wp)
section
variable {prog:Program} {w:World} {K:Type} [DecidableEq K] (knd:KeyKind prog w K)
variable {knd}
variable {A:Around} {E:Value->Shared->Prop} {s:Shared}
end
end PySem
namespace PySem
open Sem (wp)
namespace F
end F
section
variable {prog:Program} {w:World} {A:Around} {E:Value->Shared->Prop} {s:Shared}
end
section
variable {prog:Program} {w:World} {K:Type} [DecidableEq K] {knd:HeapKind prog w K} {A:Around} {E:Value->Shared->Prop} {s:Shared}
end
end PySem
namespace L2
open PySem PySem.Spec PyProof.Rows
section
variable {X:Cx} {o i:Expr} {pos:Pos} {td ty:TE}
end
end L2
namespace L2.F2
open PySem PySem.Spec PyProof.Rows
end L2.F2
namespace L2
open PySem PySem.Spec PyProof.Rows
section
variable {prog:Program} {w:World} {A:Around} {E:Value->Shared->Prop} {s:Shared}
end
section
variable {X:Cx} {tg:Expr}
end
end L2
set_option maxHeartbeats 1000000
namespace L2
open PySem PySem.Spec PyProof.Rows
section
variable {X:Cx}
theorem Ci {i:Nat} (h:(i:Int)<2 ^ 63):Builtin.List.listFitsIndex (i:Int)=true:=by
 unfold Builtin.List.listFitsIndex
 rw[X8]
 exact ⟨decide_eq_true (by omega),decide_eq_true (by omega)⟩
def Fs:V->List V->Hp->VK->Prop:=fun x vs H Q=> ∃(l:Addr) (xs:List V) (i:Nat) (y:V),x= .ref l/\vs=[.int i,y]/\H l=some (.lst xs)/\i<=xs.length/\xs.length<sizeLine/\Q .fB (upd H l (.lst (xs.take i++y::xs.drop i)))
theorem AB:MW X "list.insert" Fs:=by
 intro pins s σ H x vs v us Q I rx rv h
 obtain ⟨l,xs,i,y,rfl,rfl,hH,hi,hz,q⟩:=h
 cases rx
 obtain ⟨a,b,rfl,⟨t,rfl⟩,rb⟩:=vals2 rv
 obtain ⟨z,aJ,n,r,hl,e⟩:=I.w_ hH
 have hn:=eG
 have hf: ¬(!Builtin.List.listFitsIndex (i:Int))=true:=by rw[Ci (by omega)];decide
 have hsz:aJ.toArray.size<=sizeLine:=by rw[WM];omega
 generalize hI:(i:Int)=I' at hf
 have hm:=PySem.AutoSeq1.list_insert_list_int_val_1 l aJ.toArray n I' t b hf hsz
 refine call_meets F.slot_list_insert ⟨_,e,rfl⟩ F.entry_list_insert (F.args_list_insert_3 _ _ _) hm ⟨e,?_⟩
 clear hm
 refine ⟨.fB,_,I.BM (its':=aJ.take i++b::aJ.drop i) hH e ?_ ?_ ?_,rfl,q⟩
 ·have e1:(if I'<0 then (I'+(aJ.toArray.size:Int)).toNat else min I'.toNat aJ.toArray.size)=i:=by rw[<-hI,if_neg (by omega),UG,WM];omega
  show ((aJ.toArray.extract 0 (if I'<0 then (I'+(aJ.toArray.size:Int)).toNat else min I'.toNat aJ.toArray.size)).push b++aJ.toArray.extract (if I'<0 then (I'+(aJ.toArray.size:Int)).toNat else min I'.toNat aJ.toArray.size))=_
  rw[e1]
  apply ZD.mp
  simp
  exact Xz (by rw[Xx];exact OS _)
 ·have h1:Vals (xs.take i) (aJ.take i):=r.take i
  exact h1.append (.cons rb (r.drop i))
 ·rw[UD,XR,Xm,Xx];omega
end
end L2
namespace L2
open PySem PySem.Spec PyProof.Rows PySem.W
section
section
variable {lt:Nat->Nat->Bool} {n:Nat}
end
end
section
variable {prog:Program} {w:World} {A:Around} {E:Value->Shared->Prop} {s:Shared}
end
section
variable {X:Cx}
end
section
variable {X:Cx} {tg:Expr}
end
section
variable {X:Cx} {tg:Expr}
end
end L2
namespace L2
open PySem PySem.Spec PyProof.Rows PySem.MeetsSeq PySem.SeqAt
section
variable {X:Cx}
end
section
variable {prog:Program} {w:World} {A:Around} {E:Value->Shared->Prop} {s:Shared}
variable {z TI TO i1 i2:Addr} {f1 f2:List Addr} {n1 n2 i:Nat} {P1 P2:Nat->Value->Prop} {S1 S2:Nat->Heap->Prop} {a b:Value}
end
section
variable {X:Cx} {nx:Str} {pos':Pos} {a b:Expr} {ta:TA} {p pos:Pos}
end
end L2
namespace L2
open PySem PySem.Spec PyProof.Rows HT
section
variable {prog:Program} {w:World} {A:Around} {E:Value->Shared->Prop} {s:Shared}
end
section
variable {X:Cx}
end
section
variable {X:Cx} {o i e value tg:Expr} {pos pos' MG:Pos} {td ty tv:TE} (K:PySem.W.Frag) (P:Program) (w:World)
end
section
variable {X:Cx}
end
section
variable {X:Cx}
end
section
variable {X:Cx} {tg:Expr}
end
end L2
set_option maxHeartbeats 1000000
namespace L2
open PySem PySem.Spec PyProof.Rows
section
variable {prog:Program} {w:World} {A:Around} {E:Value->Shared->Prop} {s:Shared}
end
section
variable {X:Cx} {a b:Expr} {ta:TA} {p p2 pos xA:Pos}
end
end L2
set_option maxHeartbeats 1000000
namespace L2
open PySem PySem.Spec PyProof.Rows
section
variable {prog:Program} {w:World} {A:Around} {E:Value->Shared->Prop} {s:Shared} {κ:KeyKind} {a₀:Array Keyed}
end
section
variable {prog:Program} {w:World} {A:Around} {E:Value->Shared->Prop} {s:Shared} {κ:KeyKind} {a₀:Array Keyed}
end
end L2
set_option maxHeartbeats 1000000
namespace L2
open PySem PySem.Spec PyProof.Rows
section
variable {prog:Program} {w:World} {A:Around} {E:Value->Shared->Prop} {s:Shared} {κ:KeyKind} {a₀:Array Keyed}
end
section
variable {prog:Program} {w:World} {A:Around} {E:Value->Shared->Prop} {s:Shared} {κ:KeyKind} {a₀:Array Keyed}
end
end L2
set_option maxHeartbeats 1000000
namespace L2
open PySem PySem.Spec PyProof.Rows
section
variable {prog:Program} {w:World} {A:Around} {E:Value->Shared->Prop} {s:Shared}
end
section
variable {X:Cx}
end
end L2
set_option maxHeartbeats 1000000
namespace L2
open PySem PySem.Spec PyProof.Rows
section
variable {X:Cx}
end
end L2
set_option maxHeartbeats 1000000
namespace L2
open PySem PySem.Spec PyProof.Rows
section
variable {prog:Program} {w:World} {A:Around} {E:Value->Shared->Prop} {s:Shared} {kd:SortKind} {lt:Keyed->Keyed->Bool} {a₀:Array Keyed}
end
end L2
set_option maxHeartbeats 1000000
namespace L2
open PySem PySem.Spec PyProof.Rows
section
variable {lt:Keyed->Keyed->Bool}
variable {a b out:Array Keyed} {ia ib k:Nat} {p q:Keyed}
end
section
variable {prog:Program} {w:World} {A:Around} {E:Value->Shared->Prop} {s:Shared} {kd:SortKind} {lt:Keyed->Keyed->Bool} {a₀:Array Keyed}
end
end L2
set_option maxHeartbeats 1000000
namespace L2
open PySem PySem.Spec PyProof.Rows
section
variable {lt:Keyed->Keyed->Bool}
variable {a b out:Array Keyed} {na nb k:Nat} {p q:Keyed}
end
section
variable {prog:Program} {w:World} {A:Around} {E:Value->Shared->Prop} {s:Shared} {kd:SortKind} {lt:Keyed->Keyed->Bool} {a₀:Array Keyed}
end
end L2
set_option maxHeartbeats 1000000
namespace L2
open PySem PySem.Spec PyProof.Rows
section
variable {lt:Keyed->Keyed->Bool}
end
section
variable {prog:Program} {w:World} {A:Around} {E:Value->Shared->Prop} {s:Shared} {kd:SortKind} {lt:Keyed->Keyed->Bool} {a₀:Array Keyed}
end
section
variable {prog:Program} {w:World} {A:Around} {E:Value->Shared->Prop} {s:Shared} {kd:SortKind} {lt:Keyed->Keyed->Bool} {a₀:Array Keyed}
end
end L2
set_option maxHeartbeats 1000000
namespace L2
open PySem PySem.Spec PyProof.Rows
section
variable {prog:Program} {w:World} {A:Around} {E:Value->Shared->Prop} {s:Shared} {kd:SortKind} {lt:Keyed->Keyed->Bool} {a₀:Array Keyed}
end
end L2
set_option maxHeartbeats 1000000
namespace L2
open PySem PySem.Spec PyProof.Rows
theorem sR: ∀a b c:List Int,bJ b a=false->bJ c b=false->bJ c a=false
 | [],[],[],_,_=>rfl
 | [],[],_::_,_,h=>h
 | [],_::_,[],_,_=>rfl
 | [],_::_,_::_,_,_=>rfl
 | _::_,[],_,h,_=>by cases h
 | _::_,_::_,[],_,h=>by cases h
 | x::a,y::b,z::c,h,g=>by
  have h':(if y=x then bJ b a else decide (y<x))=false:=h
  have g':(if z=y then bJ c b else decide (z<y))=false:=g
  show (if z=x then bJ c a else decide (z<x))=false
  by_cases e1:y=x
  ·rw[if_pos e1]at h'
   by_cases e2:z=y
   ·rw[if_pos e2]at g'
    rw[if_pos (e2.trans e1)]
    exact sR a b c h' g'
   ·rw[if_neg e2]at g'
    rw[if_neg fun w=>e2 (w.trans e1.symm), <-e1]
    exact g'
  ·rw[if_neg e1]at h'
   have q1:=of_decide_eq_false h'
   by_cases e2:z=y
   ·rw[if_neg fun w=>e1 (e2.symm.trans w),e2];exact h'
   ·rw[if_neg e2]at g'
    have q2:=of_decide_eq_false g'
    rw[if_neg (by omega)]
    exact decide_eq_false (by omega)
open Classical in
section
variable {prog:Program} {w:World} {A:Around} {E:Value->Shared->Prop} {s:Shared}
end
section
variable {X:Cx}
end
section
variable {X:Cx} {e st:Expr} {te:TE} {ts:TO} {pos p2:Pos}
theorem AD (l:List Nat) (t tk:Tok):sliceMade (S l) t none none (some (-1,tk))= .str (S l.reverse):=by
 unfold sliceMade
 rw[if_neg (by simp)]
 have e:slicePicked (S l) none none (some (-1,tk))=(List.range (S l).cps.size).reverse:=by
  rw[<-PySem.W.krv_range, <-PySem.W.krv_sliceRange]
  rfl
 rw[e,List.filterMap_reverse,PySem.W.krv_all,dR]
 rfl
def NC (te:TE) (ts:TO):TE:=fun σ H Q=>te σ H fun x H1=>ts σ H1 fun o H2=>o=some (-1)/\ ∃l,x= .str (S l)/\l.length<=sizeLine/\Q (.str (S l.reverse)) H2
theorem Ft (he:PE X e te) (hs:PO X (some st) ts):PE X (.Subscript e (.Slice none none (some st) p2) pos) (NC te ts):=by
 intro pins s σ H Q I h
 refine Subscript_ (b8 (he pins s σ H _ I h) fun v s1 ⟨x,H1,I1,r1,q1⟩=>?_)
 refine wpAny_Slice ?_
 rw[evalPart_none]
 refine wpAny_pure (wpAny_pure (b8 (hs pins s1 σ H1 _ I1 q1) fun vk s3 ⟨o,H3,I3,pk,eo,l,ex,hz,q3⟩=>?_))
 subst eo ex
 obtain ⟨t,rfl⟩:=r1
 cases pk with
 | int i tk=>
 have I4:Inv X pins σ H3 { s3 with heap:=s3.heap.push { cls:= .type "slice",data:= .fields #[.none, .none, .int (-1) tk] } }:=I3.kept (t':=s3.toks) fun b ob q=>Sy _ q
 show wpAny (model X.prog X.w) X.A (subscriptTail e (.Slice none none (some st) p2) (.str (S l) t) (.ref s3.heap.objs.size)) (EP X pins σ Q) X.xe { s3 with heap:=s3.heap.push { cls:= .type "slice",data:= .fields #[.none, .none, .int (-1) tk] } }
 refine tail_any (ops:=[.str (S l) t, .ref s3.heap.objs.size]) (typeIs_str _ _ _) F.slot_str_getitem.lookup (wpAny_getItem_str_slice (l:=none) (u:=none) (st:=some (-1,tk)) ⟨_,Xq _ rfl,rfl,rfl⟩ rfl ?_) (by with_unfolding_all rfl)
 rw[AD]
 refine ⟨by rw[b_,XB];exact hz,?_⟩
 exact ⟨.str (S l.reverse),H3,I4.tok _,⟨_,rfl⟩,q3⟩
end
end L2
namespace PySem
open PySem.Spec PyProof.Rows
section
variable {M:Model} {A:Around} {E:Value->Shared->Prop} {s₀ s:Shared} {m cm:Str->Option Value} {env:Env}
end
end PySem
namespace L2
open PySem PySem.Spec PyProof.Rows
section
variable {P:Program} {w:World} {K:PySem.W.Frag} {mg:Str->Option Value} {base:Heap}
end
section
variable {X:Cx} {n:Nat} {p:Value->Shared->Prop}
end
section
variable {X:Cx}
end
section
variable {X:Cx}
end
section
variable {X:Cx}
end
section
variable {X:Cx}
end
section
variable {X:Cx}
end
end L2
set_option maxHeartbeats 1000000
namespace L2
open PySem PySem.Spec PyProof.Rows
section
variable {prog:Program} {w:World} {A:Around} {E:Value->Shared->Prop} {s:Shared}
end
section
variable {X:Cx}
end
section
variable {X:Cx}
end
section
variable {X:Cx}
end
section
variable {X:Cx}
end
end L2
set_option maxHeartbeats 4000000
namespace L2
open PySem PySem.Spec PyProof.Rows
section
variable {X:Cx} {K:PySem.W.Frag} {CX:Af} {k1 k2:Nat} {f1 f2:Addr} {SQ SR:FuncData} {SU SV:List Str} {OW OX:Sp} {E:XK} {x f:Str} {p pos pos':Pos} {e o value:Expr} {es:List Expr} {ta tv:TE} {t:TA}
theorem bM (K:PySem.W.Frag) (hK:X.K=K) (he:PE X e ta) (hb:attributeBase e f X.env (eval e X.env)=eval e X.env):PE X (.Attribute e f pos) (MF K ta f):=by subst hK;exact Ic he hb
def Cj (f1 f2:Addr) (OW OX:Sp) (E:XK) (ta:TE) (t:TA):TE:=fun σ H Q=>ta σ H fun v H1=>(v= .ref f1/\t σ H1 fun vs H2=>OW vs H2 Q E)\/(v= .ref f2/\t σ H1 fun vs H2=>OX vs H2 Q E)
theorem kL (hf:PE X (.Name x p) ta) (F1:bI X.prog X.w X.K X.mg X.base CX k1 f1 SQ SU OW) (Hd:eI k1 X.A) (KA:PySem.W.keepIn X.K (.ref f1)=true) (oI:Binds X.K SQ SU []) (F2:bI X.prog X.w X.K X.mg X.base CX k2 f2 SR SV OX) (ND:eI k2 X.A) (xr:PySem.W.keepIn X.K (.ref f2)=true) (h_:Binds X.K SR SV []) (hx:Passes CX X E)
  (ha:PA X (e::es) t) (he:starEach (e::es) X.env=(false,eval e X.env)::starEach es X.env:=by rfl) (km:(backTo pos (starEach es X.env)).any (·.1)=false:=by rfl):
  PE X (.Call (.Name x p) (e::es) [] pos) (Cj f1 f2 OW OX E ta t):=by
 intro pins s σ H Q I h
 refine wpAny_Call_Name_kw (b8 (hf pins s σ H _ I h) fun u s1 ⟨v,H1,I1,r,q⟩=>?_)
 rcases q with ⟨rfl,q⟩ | ⟨rfl,q⟩
 ·obtain rfl:u=Value.ref f1:=r
  refine Zn (h₀:=X.base) I1.ok.mod.Kr KA (b8 (ha pos pins s1 σ H1 _ I1 q) fun us s2 ⟨vs,H2,I2,r2,q2⟩=>⟨I2.z5,?_⟩) he km
  exact wZ (dvs:=[]) (ds:=[]) F1 Hd oI .nil hx I2 r2 (by rw[XZ];exact q2)
 ·obtain rfl:u=Value.ref f2:=r
  refine Zn (h₀:=X.base) I1.ok.mod.Kr xr (b8 (ha pos pins s1 σ H1 _ I1 q) fun us s2 ⟨vs,H2,I2,r2,q2⟩=>⟨I2.z5,?_⟩) he km
  exact wZ (dvs:=[]) (ds:=[]) F2 ND h_ .nil hx I2 r2 (by rw[XZ];exact q2)
end
end L2
set_option maxHeartbeats 4000000
namespace L2
open PySem PySem.Spec PyProof.Rows
section
variable {prog:Program} {w:World} {A:Around} {E:Value->Shared->Prop} {R:Result->Shared->Prop} {I S:Addr} {fp wr:List Addr} {n:Nat} {P:Nat->Value->Prop} {St:Nat->Heap->Prop} {kw:List (Str×Value)} {bt:Nat->Nat->Bool}
theorem yY:(toString "max"++toString ".loop":String)="max.loop":=by decide
theorem NF (W:Walks prog w A.in1 I fp wr n P St) (cm:CmpOf prog w A.in1 .Gt P bt) (sf:S∉fp): ∀(m j:Nat) (s:Shared) (b:Value) (c:Nat),n=j+1+m->St (j+1) s.heap->P (argBest bt j) b->s.heap.get? S=some { cls:= .type "list",dict:=none,data:= .seq #[b,b] c,slots:= #[] }->
  (∀v h' tk,P (argBest bt (n - 1)) v->(∀a o,a∉wr->a≠S->s.heap.get? a=some o->h'.get? a=some o)->R (.ok (.ret v)) { s with heap:=h',toks:=tk })->
  codeAny (model prog w) A (.builtin "max.loop" ⟨[.ref I, .none, .ref S],kw⟩) R s:=by
 have sw:S∉wr:=fun z=>sf (W.sub _ z)
 intro m
 induction m with
 | zero=>
  intro j s b c en mN hb hS hR
  have e1:n=j+1:=en
  subst e1
  refine codeAny_builtin ZI ?_
  rw[Around.under_plainId Ys _]
  refine wpAny_bind (m:=seqItems? (.ref S)) (wpAny_seqItems hS rfl ?_)
  refine wpAny_bind (m:=tryCatch (pyNext (.ref I)) _) (wpAny_tryCatch (W.done s _ _ mN fun h1 tk k1=>?_))
  refine wpAny_bind (m:=updateSeq S fun _=> #[]) (wpAny_updateSeq (k1 S _ sw hS) rfl (wpAny_bind (wpAny_letGo (wpAny_pure ?_))))
  exact hR b _ tk hb fun a o aw aS ea=>(XO _ _ (Ne.symm aS)).trans (k1 a o aw ea)
 | succ m ih=>
  intro j s b c en mN hb hS hR
  refine codeAny_builtin ZI ?_
  rw[Around.under_plainId Ys _]
  refine wpAny_bind (m:=seqItems? (.ref S)) (wpAny_seqItems hS rfl ?_)
  refine wpAny_bind (m:=tryCatch (pyNext (.ref I)) _) (wpAny_tryCatch (W.item (j+1) s _ _ (by omega) mN fun v h1 tk pv wC k1=>?_))
  have KC:=k1 S _ sw hS
  refine wpAny_bind (m:=tryCatch (holding [v,v] (richCompare .Gt v b >>= _)) _) (wpAny_tryCatch (wpAny_holding (wpAny_bind (cm (j+1) (argBest bt j) v b _ _ _ pv hb (wpAny_bind (wpAny_holding (wpAny_truthy_bool (wpAny_bind (wpAny_letGo (wpAny_pure ?_))))))))))
  cases q:bt (j+1) (argBest bt j)
  ·rw[if_neg (by decide)]
   refine wpAny_bind (wpAny_letGo ?_)
   rw[yY]
   refine wpAny_pure ⟨plainId_quiet Ys _,ih (j+1) _ b c (by omega) wC (by rw[argBest,q];exact hb) KC fun v' h2 NG p2 k2=>?_⟩
   exact hR v' h2 NG p2 fun a o aw aS ea=>k2 a o aw aS (k1 a o aw ea)
  ·rw[if_pos rfl]
   refine wpAny_bind (wpAny_updateSeq KC rfl (wpAny_bind (wpAny_letGo ?_)))
   rw[yY]
   refine wpAny_pure ⟨plainId_quiet Ys _,ih (j+1) _ v _ (by omega) (W.frame _ _ _ wC fun a af o ea=>?_) (by rw[argBest,q];exact pv) (X9 _ KC rfl) fun v' h2 NG p2 k2=>?_⟩
   ·exact (XO _ _ (fun z:S=a=>sf (z▸af))).trans ea
   ·exact hR v' h2 NG p2 fun a o aw aS ea=>k2 a o aw aS ((XO _ _ (Ne.symm aS)).trans (k1 a o aw ea))
theorem NH (a d:Value):argsOk "max" ⟨[a],[(Str.ofString "default",d)]⟩:=by unfold argsOk;kernel_rfl
theorem Fu {s:Shared} {x d:Value} {Q:Value->Shared->Prop}
  (h:wpAny (model prog w) A.in1 (pyIter x) (fun it s₂=> ∃I fp wr n P St bt,it= .ref I/\Walks prog w A.in1 I fp wr n P St/\St 0 s₂.heap/\(∀b∈fp,b<s₂.heap.objs.size)/\CmpOf prog w A.in1 .Gt P bt/\
   ∀v h' tk,(n=0->v=d)->(0<n->P (argBest bt (n - 1)) v)->(∀b o,b∉wr->s₂.heap.get? b=some o->h'.get? b=some o)->Q v { s₂ with heap:=h',toks:=tk }) E s):
  wpAny (model prog w) A (call (.builtin "max") [x] [(Str.ofString "default",d)]) Q E s:=by
 refine kmk_tree PySem.F.kind_max PySem.F.plain_max PySem.F.entry_max (NH x d) ?_
 refine wpAny_bind (m:=Builtin.Builtins.bindParams "max" ["key","default"] 0 ⟨[],[(Str.ofString "default",d)]⟩) (wpAny_of_eq (a:=[none,some d]) rfl ?_)
 refine wpAny_bind (wpAny_pure (wpAny_bind (wpAny_mono h (fun it s2 h2=>?_) fun _ _ e=>e)))
 obtain ⟨I,fp,wr,n,P,St,bt,rfl,W,mN,UZ,cm,hQ⟩:=h2
 refine wpAny_bind (wpAny_newObj_type ?_)
 have sf:s2.heap.objs.size∉fp:=fun z=>XY _ (UZ _ z)
 have sw:s2.heap.objs.size∉wr:=fun z=>sf (W.sub _ z)
 have hS:(s2.heap.push { cls:= .type "list",data:= .seq #[] }).get? s2.heap.objs.size=some { cls:= .type "list",dict:=none,data:= .seq #[] 0,slots:= #[] }:=Xq _ rfl
 have NI:=W.frame _ _ (s2.heap.push { cls:= .type "list",data:= .seq #[] }) mN fun b _ o e=>Sy _ e
 have lo: ∀{b o},s2.heap.get? b=some o->b≠s2.heap.objs.size:=fun e=>Xy (Xs e)
 rw[yY]
 refine wpAny_pure ⟨plainId_quiet Ys _,codeAny_builtin ZI ?_⟩
 rw[Around.under_plainId Ys _]
 refine wpAny_bind (m:=seqItems? (.ref s2.heap.objs.size)) (wpAny_seqItems hS rfl ?_)
 cases n with
 | zero=>
  refine wpAny_bind (m:=tryCatch (pyNext (.ref I)) _) (wpAny_tryCatch (W.done _ _ _ NI fun h1 tk k1=>?_))
  refine wpAny_bind (wpAny_rule ?_)
  refine wpAny_pure (hQ d h1 tk (fun _=>rfl) (fun z=>absurd z (XY _)) fun b o bw e=>k1 b o bw (Sy _ e))
 | succ m=>
  refine wpAny_bind (m:=tryCatch (pyNext (.ref I)) _) (wpAny_tryCatch (W.item 0 _ _ _ (Nat.succ_pos _) NI fun v h1 tk pv wC k1=>?_))
  have KC:=k1 _ _ sw hS
  refine wpAny_bind (m:=updateSeq s2.heap.objs.size fun _=> #[v,v]) (wpAny_updateSeq KC rfl ?_)
  rw[yY]
  refine wpAny_pure ⟨plainId_quiet Ys _,NF W cm sf m 0 _ v _ (by omega) (W.frame _ _ _ wC fun a af o ea=>?_) pv (X9 _ KC rfl) fun v' h2 NG p2 k2=>?_⟩
  ·exact (XO _ _ (fun z:s2.heap.objs.size=a=>sf (z▸af))).trans ea
  ·exact hQ v' h2 NG (fun z=>by omega) (fun _=>p2) fun b o bw e=>k2 b o bw (lo e) ((XO _ _ (Ne.symm (lo e))).trans (k1 b o bw (Sy _ e)))
end
noncomputable def Ja (d:Int):List Int->Int
 | []=>d
 | a::r=>r.foldl (fun x y=>if y>x then y else x) a
noncomputable def eZ (l:List Int) (i j:Nat):Bool:=decide (l.getD i 0>l.getD j 0)
theorem kM (l:List Int): ∀n:Nat,n<l.length->l.getD (argBest (eZ l) n) 0=((l.drop 1).take n).foldl (fun x y=>if y>x then y else x) (l.getD 0 0)
 | 0,_=>by simp[argBest]
 | n+1,h=>by
  have ih:=kM l n (by omega)
  have e:(l.drop 1).take (n+1)=(l.drop 1).take n++[l.getD (n+1) 0]:=by
   rw[Qab,Yw,show 1+n=n+1 by omega,UI,Iw h]
   rfl
  rw[e,List.foldl_append, <-ih]
  show l.getD (if eZ l (n+1) (argBest (eZ l) n)=true then n+1 else argBest (eZ l) n) 0=if l.getD (n+1) 0>l.getD (argBest (eZ l) n) 0 then l.getD (n+1) 0 else l.getD (argBest (eZ l) n) 0
  by_cases z:l.getD (n+1) 0>l.getD (argBest (eZ l) n) 0
  ·rw[if_pos (show eZ l (n+1) (argBest (eZ l) n)=true from decide_eq_true z),if_pos z]
  ·rw[if_neg (show ¬eZ l (n+1) (argBest (eZ l) n)=true from fun w=>z (of_decide_eq_true w)),if_neg z]
section
variable {X:Cx}
theorem Ck {prog:Program} {w:World} {A:Around} {l:List Int} {aJ:List Value} (r:Vals (l.map V.int) aJ):CmpOf prog w A .Gt (fun i v=>aJ.toArray[i]? =some v) (eZ l):=by
 intro i j vi vj s Q E hi hj hQ
 have get: ∀{i:Nat} {v:Value},aJ.toArray[i]? =some v-> ∃t,v= .int (l.getD i 0) t:=by
  intro i v h
  have h':aJ[i]? =some v:=by simpa using h
  have hl:i<l.length:=by have:=(Iy.mp h').1;rw[<-r.length,Kw]at this;exact this
  obtain ⟨u,hu,ru⟩:=r.get (i:=i) (x:=V.int (l.getD i 0)) (by rw[Xo,UI,Iw hl];rfl)
  rw[h']at hu;cases hu
  exact ru
 obtain ⟨t,rfl⟩:=get hi
 obtain ⟨u,rfl⟩:=get hj
 exact gt_int hQ
def NJ (K:PySem.W.Frag) (d:Int) (t:TA):TE:=fun σ H Q=>t σ H fun vs H1=> ∃(p:Addr) (l:List Int),vs=[.ref p]/\bC K H1 p (l.map V.int)/\Q (.int (Ja d l)) H1
theorem Fv {e:Expr} {t:TA} {d:Int} {j:Nat} {kp cp p pos:Pos} (K:PySem.W.Frag) (hK:X.K=K) (hc:X.calm=true) (hg:Gl X "max") (hm:X.mg "max"=none) (ha:PA X [e] t)
  (he:backTo pos (starEach [e] X.env)=[(false,eval e X.env)]:=by rfl):PE X (.Call (.Name "max" p) [e] [⟨some "default", .Constant (.int d) j cp,kp⟩] pos) (NJ K d t):=by
 subst hK
 intro pins s σ H Q I h
 refine wpAny_Call_Name_kw (gv I hg hm boot_max ?_)
 refine callWith_kw (b8 (ha pos pins s σ H _ I h) fun us s1 ⟨vs,H1,I1,r1,q1⟩=>?_) he (by rw[he];rfl)
 obtain ⟨a,l,rfl,hq,q⟩:=q1
 obtain ⟨u,rfl,ru⟩:=vals1 r1
 cases ru
 refine kws_cons (wpAny_Constant_int (kws_nil ?_))
 obtain ⟨aJ,rv,pl,hz⟩:=I1.list hq
 have hlen:aJ.length=l.length:=by rw[<-rv.length,Kw]
 have hp:a<s1.heap.objs.size:=by
  obtain ⟨o,n,e,_⟩:=pl
  exact Xs e
 refine Fu (wpAny_pyIter_list pl.isList ?_)
 refine ⟨_,_,_,_,_,_,eZ l,rfl,Walks.list (A:=X.A.in1) (I1.ok.hd hc) s1.heap.objs.size a (Xy hp) aJ.toArray,⟨⟨_,Xq _ rfl,rfl,rfl⟩,?_⟩,fun b hb=>?_,Ck rv,fun v h' tk h0 h1 hk=>?_⟩
 ·obtain ⟨o,ho,hr⟩:=pl.isList
  exact ⟨o,Sy _ ho,hr⟩
 ·show b<(s1.heap.push _).objs.size
  rw[Ze]
  exact (UE.mp hb).elim (fun z=>z▸Yz _) fun z=>(Sz.mp z)▸YT hp
 ·have ru:RelV (.int (Ja d l)) v:=by
   cases l with
   | nil=>
    have:=h0 (by rw[WM,hlen];rfl)
    subst this
    exact ⟨_,rfl⟩
   | cons b l=>
    have hn:aJ.toArray.size - 1=l.length:=by rw[WM,hlen];rfl
    have hP:=h1 (by rw[WM,hlen];exact Nat.succ_pos _)
    rw[hn]at hP
    have U0:aJ[argBest (eZ (b::l)) l.length]? =some v:=by simpa using hP
    have hl:argBest (eZ (b::l)) l.length<(b::l).length:=Nat.lt_succ_of_le (argBest_lt _ _)
    have e:=kM (b::l) l.length (Yz _)
    rw[show ((b::l).drop 1).take l.length=l from Xz (OS _),UI,Iw hl]at e
    have e':(b::l)[argBest (eZ (b::l)) l.length]=Ja d (b::l):=e
    obtain ⟨u,hu,ru⟩:=rv.get (i:=argBest (eZ (b::l)) l.length) (x:=V.int (Ja d (b::l))) (by rw[Xo,Iw hl,e'];rfl)
    rw[U0]at hu;cases hu
    exact ru
  refine ⟨.int (Ja d l),H1,?_,ru,q⟩
  have I2:Inv X pins σ H1 { s1 with heap:=s1.heap.push { cls:= .type "list_iterator",data:= .fields #[.ref a, .int 0 0] },toks:=s1.toks+1 }:=I1.kept (t':=s1.toks+1) fun b o e=>Sy _ e
  have f:=I1.qc (H':=H1) (b:=s1.heap.objs.size) (OS _) I1.fresh
  exact I2.turned (h':=h') (t':=tk) (it:=s1.heap.objs.size) (fun b o hb e=>hk b o (by simpa using hb) e) f.1 f.2.1 f.2.2.2.1 f.2.2.2.2.1 f.2.2.2.2.2
end
end L2
set_option maxHeartbeats 1000000
namespace L2
open PySem PySem.Spec PyProof.Rows
section
variable {X:Cx}
theorem Jb:Ms X .Mult (fun x y H Q=> ∃i j,x= .int i/\y= .int j/\EN i j/\Q (.int (i*j)) H):=by
 intro pins s σ H x y v u Q I r1 r2 h
 obtain ⟨i,j,rfl,rfl,c,q⟩:=h
 obtain ⟨t,rfl⟩:=r1
 obtain ⟨t',rfl⟩:=r2
 exact imul_int ⟨.int _,H,I.tok _,⟨_,rfl⟩,q⟩ c.ok
theorem Fx:Ms X .FloorDiv (fun x y H Q=> ∃i j,x= .int i/\y= .int j/\Qp i j/\Q (.int (i / j)) H):=by
 intro pins s σ H x y v u Q I r1 r2 h
 obtain ⟨i,j,rfl,rfl,hc,q⟩:=h
 obtain ⟨t,rfl⟩:=r1
 obtain ⟨t',rfl⟩:=r2
 have h1:(0:Int)<j:=hc.1
 have h2:j<1073741824:=hc.2
 exact ifloordiv_int (by omega) (by rw[Int.fdiv_eq_ediv_of_nonneg i (by omega)];exact ⟨.int _,H,I.tok _,⟨_,rfl⟩,q⟩) (.inl (PyProof.noPylong_small (by omega)))
end
theorem vn: ∀{ls:List Int} {aJ:List Value},Vals (ls.map V.int) aJ->IntsAre aJ ls
 | [],_, .nil=> .nil
 | _::_,_, .cons ⟨t,e⟩ h=>e▸ .cons _ t (vn h)
theorem vp: ∀{ls:List Int} {aJ:List Value},IntsAre aJ ls->Vals (ls.map V.int) aJ
 | _,_, .nil=> .nil
 | _,_, .cons n t h=> .cons ⟨t,rfl⟩ (vp h)
section
variable {prog:Program} {w:World} {A:Around} {E:Value->Shared->Prop} {s:Shared}
theorem sS {Q:Value->Shared->Prop} (hh:A.handled=none) (d:Addr) (aP:List (Key×Value)) (ep:Nat) (ls:List Int) (hk:aP.map (·.1)=ls.map fun l=>Sum.inl l) (hd:(d==sysModules)=false) (hm:s.heap.DictAt (cA prog w) d aP ep) (UO:aP.length<64)
  (h: ∀(h1 h':Heap) (tk:Nat) (a:Addr) (out:Array Value) (Bu:List Int) (e:Nat),(∀b o,s.heap.get? b=some o->h1.get? b=some o)->(∀b o,h1.get? b=some o->h'.get? b=some o)->a=h1.objs.size->h'.get? a=some (seqObj "list" out e)->IntsAre out.toList Bu->Bu.Perm ls->(Bu.Pairwise fun a b=> ¬b<a)->Q (.ref a) { s with heap:=h',toks:=tk }):
  wpAny (model prog w) A (call (.builtin "sorted") [.ref d]) Q E s:=by
 refine Calls.call_function_entry kind_sorted plain_sorted entry_sorted (args_sorted1 _) ?_
 unfold Builtin.«sorted»
 refine wpAny_bind (m:=checkCount "sorted" 1 1 _) (wpAny_pure ?_)
 have jG:(10000:Nat)<sizeLine:=by decide
 refine wpAny_bind (sQ (A:=A.in1) (show A.in1.handled=none from hh) d aP ep hd hm (by omega) (fun s' acc U1 hg KD ho iA=>?_))
 obtain ⟨h1,h2⟩:=iA
 have hlen:aP.length=ls.length:=by have:=congrArg List.length hk;simpa using this
 have rv:Vals (ls.map V.int) acc.toList:=by
  have key: ∀(ls:List Int) (vs:List Value),vs.length=ls.length->(∀(j:Nat) (v:Value),vs[j]? =some v-> ∃l t,ls[j]? =some l/\v=Value.int l t)->Vals (ls.map V.int) vs:=by
   intro ls
   induction ls with
   | nil=>intro vs hl _;have:vs=[]:=Zc hl;subst this;exact .nil
   | cons l ls ih=>
    intro vs hl hv
    cases vs with
    | nil=>simp at hl
    | cons v vs=>
     obtain ⟨l',t,e1,e2⟩:=hv 0 v rfl
     have B2:l=l':=by simpa using e1
     subst B2
     refine .cons ⟨t,e2⟩ (ih vs (by simpa using hl) fun j v' e=>?_)
     obtain ⟨l',t',g1,g2⟩:=hv (j+1) v' (by simpa using e)
     exact ⟨l',t',by simpa using g1,g2⟩
  refine key ls acc.toList (by simpa [<-hlen]using h1) fun j v e=>?_
  obtain ⟨k,x,e1,e2⟩:=h2 j v (by simpa using e)
  have e3:(aP.map (·.1))[j]? =some k:=by rw[Xo,e1];rfl
  rw[hk,Xo]at e3
  cases e4:ls[j]? with
  | none=>rw[e4]at e3;cases e3
  | some l=>
   rw[e4]at e3
   have e5:k=Sum.inl l:=(Xr e3).symm
   subst e5
   obtain ⟨t,e6⟩:=Value.isInt_shape (k:=l) (v:=v) e2
   exact ⟨l,t,rfl,e6⟩
 have hS:=vn rv
 have hn:acc.toList.length=ls.length:=by rw[<-rv.length,Kw]
 refine wpAny_bind (wpAny_newList ?_)
 have Mj:(s'.heap.push (seqObj "list" acc.toList.toArray 0)).get? s'.heap.objs.size=some (seqObj "list" acc.toList.toArray 0):=Xq _ rfl
 show wpAny _ _ _ _ _ { s' with heap:=s'.heap.push (seqObj "list" acc.toList.toArray 0) }
 refine wpAny_bind (wpAny_holding (wpAny_call_entry slot_list_sort ⟨_,Mj,rfl⟩ entry_list_sort (list_sort_tree Mj hS (by omega) fun out Bu k1 k2 k3=>⟨_,rfl,?_⟩) (args_list_sort _)))
 obtain ⟨e,he⟩:=sortedHeap_at (out:=out) Mj
 refine wpAny_pure ⟨_,rfl,?_⟩
 have es: ∀hh:Heap,({ s' with heap:=hh }:Shared)={ s with heap:=hh,toks:=s'.toks }:=fun hh=>by
  cases s;cases s'
  simp only at hg KD ho
  subst hg KD ho
  rfl
 show Q (.ref s'.heap.objs.size) { s' with heap:=sortedHeap (s'.heap.push (seqObj "list" acc.toList.toArray 0)) s'.heap.objs.size acc.toList (out) }
 rw[es]
 refine h s'.heap _ _ _ _ Bu e U1 (fun b o hb=>?_) rfl he k1 k2 (k3.imp fun h=>Int.not_lt.mpr h)
 have dk:=Xs hb
 rw[sortedHeap_old (Xy dk) (by rw[size_push'];exact YT dk)]
 exact Sy _ hb
end
section
variable {X:Cx}
def Fy:List V->Hp->VK->Prop:=fun xs H Q=> ∃(d:Addr) (aP:List (Key×V)) (ls:List Int),xs=[.ref d]/\H d=some (.dK aP)/\aP.map (·.1)=(ls.map fun l=>Sum.inl l)/\ls.length<64/\ ∀(q:Addr) (ms:List Int),H q=none->ms.Perm ls->(ms.Pairwise fun a b=> ¬b<a)->Q (.ref q) (upd H q (.lst (ms.map V.int)))
theorem qh (hc:X.calm=true):dN X (.builtin "sorted") Fy:=by
 intro pins s σ H xs us Q I r h
 obtain ⟨d,aP,ls,rfl,hd,hk,hn,q⟩:=h
 obtain ⟨u,rfl,ru⟩:=vals1 r
 cases ru
 obtain ⟨hz,Ra,vs,kv,o,es,ep,e1,e2,e3,e4,e5,e6⟩:=I.bX d _ hd
 have hlen:vs.length=ls.length:=by
  have a1:=congrArg List.length (yX kv)
  have a2:=congrArg List.length hk
  simp only[Kw]at a1 a2
  omega
 refine sS (s:=s) (I.ok.hd hc) d vs ep ls ((yX kv).trans hk) Ra ⟨o,es,e1,e2,e3,e4,e5,e6⟩ (by omega) fun h1 h' tk a out Bu e k1 k2 ea he g1 g2 g3=>?_
 have va:=g2
 have hv:=vp g1
 have pw:=g3
 have I1:Inv X pins σ H { s with heap:=h1,toks:=tk }:=I.kept k1
 have hsz:(10000:Nat)<sizeLine:=by decide
 have I2:Inv X pins σ (upd H a (.lst (Bu.map V.int))) { s with heap:=h',toks:=tk }:=
  I1.laid (t':=tk) (a:=a) (o:= .lst (Bu.map V.int)) k2 (by rw[ea];exact OS _) ⟨by rw[Kw,va.length_eq];omega,out.toList,e,hv,by simpa [seqObj]using he⟩
 exact ⟨.ref a,_,I2,rfl,q _ _ (I1.bX.fresh (by rw[ea];exact OS _)) va pw⟩
end
end L2
set_option maxHeartbeats 1000000
namespace L2
open PySem PySem.Spec PyProof.Rows
section
variable {prog:Program} {w:World} {A:Around} {E:Value->Shared->Prop} {s:Shared}
theorem lY {R:Result->Shared->Prop} (hh:A.handled=none) (x:Str) (t:Tok) (it:Addr) (hit:cU s.heap it x t ((x.length:Int) - 1)) (h0:0<x.length) (hz:x.length<=sizeLine)
  (hR: ∀h' tk cq c',(∀b o,b≠it->s.heap.get? b=some o->h'.get? b=some o)->h'.get? s.heap.objs.size=some { cls:= .type "list",dict:=none,data:= .seq cq c',slots:= #[] }->ItemsOf (fun i v=> ∃c u,x.cps[x.length - 1 - i]? =some c/\v= .str ⟨#[c]⟩ u) cq x.length->R (.ok (.ret (.ref s.heap.objs.size))) { s with heap:=h',toks:=tk }):
  codeAny (model prog w) A (.builtin "proto.collect" ⟨[.ref it],[]⟩) R s:=by
 refine codeAny_builtin PySem.F.entry_proto_collect ?_
 rw[Around.under_plainId PySem.F.plain_proto_collect _]
 show wpAny _ A.in1 (newList [] >>= fun l=>again (.builtin "list.__iadd__" ⟨[l, .ref it],[]⟩)) _ _ s
 refine wpAny_bind (wpAny_newObj_type ?_)
 refine wpAny_pure ⟨plainId_quiet Y3 _,codeAny_builtin PySem.F.entry_list_iadd ?_⟩
 rw[Around.under_plainId Y3 _]
 have hS:(s.heap.push { cls:= .type "list",data:= .seq ([]:List Value).toArray }).get? s.heap.objs.size=some { cls:= .type "list",data:= .seq ([]:List Value).toArray }:=Xq _ rfl
 have IZ:cU (s.heap.push { cls:= .type "list",data:= .seq ([]:List Value).toArray }) it x t ((x.length:Int) - 1):=by
  obtain ⟨o,ho,r⟩:=hit
  exact ⟨o,Sy _ ho,r⟩
 show wpAny _ A.in1 (Builtin.List.listExtendWith (.ref s.heap.objs.size) (.ref it) (.ref s.heap.objs.size)) _ _ _
 exact Fp (s:={ s with heap:=s.heap.push { cls:= .type "list",data:= .seq ([]:List Value).toArray } }) hh x t it _ _ _ hS IZ h0 hz fun h' tk cq c' hk I0 iA=>hR h' tk cq c' (fun b o hb e=>hk b o (Xy (Xs e)) hb (Sy _ e)) I0 iA
theorem vq {Q:List Value->Shared->Prop} (hh:A.handled=none) (x:Str) (t:Tok) (it:Addr) (hit:cU s.heap it x t ((x.length:Int) - 1)) (h0:0<x.length) (hz:x.length<=sizeLine)
  (hQ: ∀(h':Heap) (tk:Nat) (cq:Array Value),(∀b o,b≠it->s.heap.get? b=some o->h'.get? b=some o)->ItemsOf (fun i v=> ∃c u,x.cps[x.length - 1 - i]? =some c/\v= .str ⟨#[c]⟩ u) cq x.length->Q cq.toList { s with heap:=h',toks:=tk }):
  wpAny (model prog w) A (collect (.ref it)) Q E s:=by
 unfold collect
 refine wpAny_bind (wpAny_runValue (lY hh x t it hit h0 hz fun h' tk cq c' hk I0 iA=>?_))
 show wpAny _ A (load s.heap.objs.size >>= _) _ _ _
 refine wpAny_bind (wpAny_load I0 ?_)
 exact wpAny_pure (hQ h' tk cq hk iA)
theorem qj {Q:Value->Shared->Prop} (hh:A.handled=none) (sep:Str) (ts:Tok) (x:Str) (t:Tok) (it:Addr) (hit:cU s.heap it x t ((x.length:Int) - 1)) (h0:0<x.length) (hz:x.length<=sizeLine)
  (hQ: ∀(h':Heap) (tk:Nat) (l:List (Str×Tok)),(∀b o,b≠it->s.heap.get? b=some o->h'.get? b=some o)->ItemsOf (fun i v=> ∃c u,x.cps[x.length - 1 - i]? =some c/\v= .str ⟨#[c]⟩ u) (strValues l).toArray x.length->
   JoinOk sep (l.map (·.1))=true/\ ∀t' k,Q (.str (Txt.join sep (l.map (·.1))) t') { s with heap:=h',toks:=k }):
  wpAny (model prog w) A (call (.builtin "str.join") [.str sep ts, .ref it]) Q E s:=by
 refine wpAny_call (codeAny_call_builtin X2.plain PySem.F.entry_str_join (X2.check _ _ _ _ _ _ _ _ (typeIs_str _ _ _) (PySem.F.args_str_join_2 _ _) ?_))
 rw[join_tree_other]
 refine wpAny_bind (wpAny_typeOf hit.typeIs ?_)
 show wpAny _ A.in1 ((pyIter (.ref it)).tryCatch _ >>= fun it=>collect it >>= fun items=>PySem.joinTail sep items) _ _ s
 refine wpAny_bind (wpAny_tryCatch (fR hit ?_))
 refine wpAny_bind (vq (A:=A.in1) hh x t it hit h0 hz fun h' tk acc hk iA=>?_)
 obtain ⟨l,hl⟩:=exists_strValues acc.toList fun v hv=>by
  obtain ⟨j,hj,rfl⟩:=Array.mem_iff_getElem.mp (Array.mem_toList_iff.mp hv)
  obtain ⟨c,u,_,e⟩:=iA.2 j _ (Array.getElem?_eq_getElem hj)
  exact ⟨_,u,e⟩
 rw[<-hl]
 have NK:ItemsOf (fun i v=> ∃c u,x.cps[x.length - 1 - i]? =some c/\v= .str ⟨#[c]⟩ u) (strValues l).toArray x.length:=by rw[hl];simpa using iA
 obtain ⟨bX,NL⟩:=hQ h' tk l hk NK
 unfold JoinOk at bX
 rw[Bool.not_eq_true']at bX
 have g:Gives (PySem.joinTail sep (strValues l)) (joinMade sep l):=by
  have g0:=gives_joinTail sep l bX
  cases l with
  | nil=>exact g0
  | cons p r=>cases r with
   | nil=>exact g0
   | cons q r'=>exact g0
 exact g prog w A (wants Q E) { s with heap:=h',toks:=tk } (post_join l ⟨joinFit_length bX,NL⟩)
end
section
variable {X:Cx}
def Cm (ta:TA):TE:=fun σ H Q=>ta σ H fun vs H1=> ∃l:List Nat,vs=[.str (S l)]/\0<l.length/\l.length<=1000000/\Q (.str (S l.reverse)) H1
theorem xB {o a:Expr} {ta:TA} {p2 apos xA fQ:Pos} (hc:X.calm=true) (ho:PE X o (tC (.str (S [])))) (hg:Gl X "reversed") (hm:X.mg "reversed"=none) (ha:PA X [a] ta)
  (kB:attributeBase o "join" X.env (eval o X.env)=eval o X.env:=by rfl)
  (Aj:((backTo fQ (starEach [.Call (.Name "reversed" p2) [a] [] xA] X.env)).all (fun x=>!x.1)&&(backToKw fQ (keywordEach [] X.env)).all (fun x=>x.1.isSome)
   &&decide (([.Call (.Name "reversed" p2) [a] [] xA]:List Expr).length+([]:List Keyword).length+(if ([]:List Keyword).isEmpty then 0 else 1)<30))=true:=by rfl)
  (jG:(apos.endLine==fQ.line)=true:=by rfl)
  (hs:starEach [a] X.env=[(false,eval a X.env)]:=by rfl) (HX:starEach [.Call (.Name "reversed" p2) [a] [] xA] X.env=[(false,eval (.Call (.Name "reversed" p2) [a] [] xA) X.env)]:=by rfl):
  PE X (.Call (.Attribute o "join" apos) [.Call (.Name "reversed" p2) [a] [] xA] [] fQ) (Cm ta):=by
 intro pins s σ H Q I h
 refine wpAny_Call_method_late kB Aj jG rfl (b8 (ho pins s σ H (fun x H1=>x= .str (S [])/\H1=H) I ⟨rfl,rfl⟩) fun v s1 ⟨x,H1,I1,r1,ex,eH⟩=>?_)
 subst ex eH
 obtain ⟨ts,rfl⟩:=r1
 obtain ⟨h1,h2⟩:=w5 I1 (show RelV (.str (S [])) (.str (S []) ts) from ⟨ts,rfl⟩) (show OP X.K "str" (.str (S [])) H1 from rfl)
 refine ⟨"str","str.join",Xt,X2,Yk,h1,h2,?_⟩
 rw[HX]
 refine Z2 rfl (Calls.evalArgs_plain ?_)
 refine Calls.spliced_cons ?_
 refine Call_ (gv I1 hg hm boot_reversed (X1 (b8 (ha xA pins s1 σ H1 _ I1 h) fun us s2 ⟨vs,H2,I2,r2,q2⟩=>?_) hs rfl))
 obtain ⟨l,rfl,h0,hz,q⟩:=q2
 obtain ⟨u,rfl,t,rfl⟩:=vals1 r2
 have U2:(1000000:Nat)<=sizeLine:=by decide
 have Fz:l.length<=sizeLine:=XM hz U2
 refine iO (by rw[b_];exact Fz) fun tk=>?_
 refine Calls.spliced_nil ?_
 have hit:cU (s2.heap.push { cls:= .type "reversed",data:= .fields #[.str (S l) t,rawInt (((S l).length:Int) - 1)] }) s2.heap.objs.size (S l) t (((S l).length:Int) - 1):=⟨_,Xq _ rfl,rfl,rfl⟩
 refine qj (I.ok.hd hc) (S []) ts (S l) t _ hit (by rw[b_];exact h0) (by rw[b_];exact Fz) fun h' WR L hk iA=>?_
 obtain ⟨KG,OY⟩:=iA
 rw[b_]at KG
 have hL:L.length=l.length:=by rw[<-KG];unfold strValues;simp
 have eL:L.map (·.1)=(l.reverse.map fun c=>[c]).map S:=by
  refine Zu fun j=>?_
  rw[Xo,Xo,Xo]
  by_cases hj:j<L.length
  ·have OZ:j<l.length:=by rw[<-hL];exact hj
   obtain ⟨c,u',e1,e2⟩:=OY j (.str L[j].1 L[j].2) (by unfold strValues;simp[hj])
   rw[Iw hj,YS OZ]
   have e3:l[l.length - 1 - j]? =some c:=by
    rw[b_]at e1
    rw[<-e1]
    unfold S
    simp
   rw[e3]
   show some L[j].1=some (S [c])
   have e4:L[j].1=⟨#[c]⟩:=(Value.str.inj e2).1
   rw[e4]
   rfl
  ·rw[Yl (Qah hj),Yl (by rw[XB, <-hL];exact Qah hj)]
   rfl
 rw[eL]
 refine ⟨joinOk_of ?_,fun t' k=>⟨.str (S l.reverse),H2,I2.kept fun b o e=>hk b o (Xy (Xs e)) (Sy _ e),⟨t',?_⟩,q⟩⟩
 ·have e0:(S []).length=0:=rfl
  rw[e0,Nat.mul_zero,Qaa,X4,X4]
  have e5:((fun x:Str=>x.length) ∘ S ∘ fun c:Nat=>[c])=fun _=>1:=by funext c;exact b_ [c]
  first
   | rw[e5,List.map_const',ZM,XB];omega
   |(have e6:((fun x:Str=>x.length) ∘ S) ∘ (fun c:Nat=>[c])=fun _=>1:=by funext c;exact b_ [c]
     rw[e6,List.map_const',ZM,XB];omega)
 ·rw[BW]
  congr 2
  rw[show (l.reverse.map fun c=>[c]).flatten=l.reverse by rw[<-List.flatMap_def,List.flatMap_singleton']]
end
end L2
set_option maxHeartbeats 4000000
namespace My
open PySem PySem.Spec PyProof.Rows L2 XL
noncomputable def aE:List Nat:=[97,98,99,100,101,102,103,104,105,106,107,108,109,110,111,112,113,114,115,116,117,118,119,120,121,122]
noncomputable def iD:List Nat:=[65,66,67,68,69,70,71,72,73,74,75,76,77,78,79,80,81,82,83,84,85,86,87,88,89,90]
def Lt (c:Nat):Prop:=c∈aE\/c∈iD
noncomputable instance (c:Nat):Decidable (Lt c):=by unfold Lt;infer_instance
noncomputable def aA (c:Nat):Nat:=if aB c=true then PyProof.Rows.up1 c else PyProof.Rows.lo1 c
theorem sU: ∀c∈aE++iD,c<128/\aA c∈aE++iD/\aA (aA c)=c/\aA c≠c:=by decide+kernel
theorem Lt.mem {c:Nat} (h:Lt c):c∈aE++iD:=Xn.mpr h
theorem Lt.lt {c:Nat} (h:Lt c):c<128:=(sU c h.mem).1
theorem Lt.aA {c:Nat} (h:Lt c):Lt (aA c):=Xn.mp (sU c h.mem).2.1
theorem aI {c:Nat} (h:Lt c):aA (aA c)=c:=(sU c h.mem).2.2.1
theorem dX {c:Nat} (h:Lt c):aA c≠c:=(sU c h.mem).2.2.2
theorem dY {a b:Nat} (ha:Lt a) (hb:Lt b) (e:My.aA a=My.aA b):a=b:=by rw[<-aI ha,e,aI hb]
theorem vv: ∀c∈aE,m6 iD ((aE.idxOf c:Nat):Int)=some (aA c):=by decide+kernel
theorem AE: ∀c∈iD,m6 aE ((iD.idxOf c:Nat):Int)=some (aA c):=by decide+kernel
noncomputable def dA (l:List Nat):List Nat:=(l.map aA).reverse
def aT (b:Addr) (H H':Hp):Prop:= ∀c o,H c=some o->c≠b->H' c=some o
theorem aT.refl (b:Addr) (H:Hp):aT b H H:=fun _ _ h _=>h
theorem aT.trans {b:Addr} {H H1 H2:Hp} (x:aT b H H1) (y:aT b H1 H2):aT b H H2:=fun c o h n=>y c o (x c o h n) n
theorem aT.of {b:Addr} {H H':Hp} (x:aq H H'):aT b H H':=fun c o h _=>x c o h
theorem aT.upd (b:Addr) (H:Hp) (o:HO):aT b H (upd H b o):=fun c o h n=>by rw[au n];exact h
theorem aq.upd {H:Hp} {p:Addr} {o:HO} (h:H p=none):aq H (L2.upd H p o):=fun c u e=>by rw[au (ay e h)];exact e
def bY (H:Hp) (b:Addr):Prop:= ∃x y:Int,H b=some (.lst [.int x, .int y])
theorem bY.same {H H':Hp} {b:Addr} (h:bY H b) (s:aq H H'):bY H' b:=let ⟨x,y,e⟩:=h;⟨x,y,s _ _ e⟩
structure Yd (y:List Nat):Prop where
 nd:y.Nodup
 lt: ∀c∈y,Lt c
 cl: ∀c∈y,aA c∈y
def mT (_:PySem.W.Frag):Sp:=fun vs H Q _=> ∃c,vs=[.str (S [c])]/\c<128/\Q (.str (S [aA c])) H
theorem sV {K:PySem.W.Frag} {vs:List V} {H:Hp} {Q:VK} {E:XK} (h:mT K vs H Q E):vs.length=1:=by obtain ⟨c,rfl,_⟩:=h;rfl
def qW (_:PySem.W.Frag):Sp:=fun vs H Q _=> ∃c,vs=[.str (S [c])]/\Lt c/\Q (.str (S [aA c])) H
theorem xC {K:PySem.W.Frag} {vs:List V} {H:Hp} {Q:VK} {E:XK} (h:qW K vs H Q E):vs.length=1:=by obtain ⟨c,rfl,_⟩:=h;rfl
def qX (_:PySem.W.Frag):Sp:=fun vs H Q _=> ∃l:List Nat,vs=[.str (S l)]/\(∀c∈l,c<128)/\l.length<=1000/\ ∀H',aq H H'->Q (.str (S (dA l))) H'
theorem xD {K:PySem.W.Frag} {vs:List V} {H:Hp} {Q:VK} {E:XK} (h:qX K vs H Q E):vs.length=1:=by obtain ⟨c,rfl,_⟩:=h;rfl
def yZ (K:PySem.W.Frag):Sp:=fun vs H Q _=> ∃(a:Addr) (ns:List Int) (k:Nat),vs=[.ref a, .int k]/\bC K H a (ns.map V.int)/\k<=1000/\ ∀b H',H b=none->bY H' b->aq H H'->Q (.ref b) H'
theorem Cn {K:PySem.W.Frag} {vs:List V} {H:Hp} {Q:VK} {E:XK} (h:yZ K vs H Q E):vs.length=2:=by obtain ⟨a,ns,k,rfl,_⟩:=h;rfl
def vw (_:PySem.W.Frag):Sp:=fun vs H Q _=> ∃(b:Addr) (m:Int),vs=[.ref b, .int m]/\bY H b/\1<=m/\m<1000000/\ ∀(r:Nat) H',(r:Int)<m->bY H' b->aT b H H'->Q (.int r) H'
theorem AF {K:PySem.W.Frag} {vs:List V} {H:Hp} {Q:VK} {E:XK} (h:vw K vs H Q E):vs.length=2:=by obtain ⟨b,m,rfl,_⟩:=h;rfl
def vx (_:PySem.W.Frag):Sp:=fun vs H Q _=> ∃(b:Addr) (wD top:Nat),vs=[.ref b, .int wD, .int top]/\bY H b/\1<=wD/\wD<=top/\top<=8/\ ∀(y:List Nat) H',Yd y->2*wD<=y.length->y.length<=2*top->bY H' b->aT b H H'->Q (.str (S y)) H'
theorem AG {K:PySem.W.Frag} {vs:List V} {H:Hp} {Q:VK} {E:XK} (h:vx K vs H Q E):vs.length=3:=by obtain ⟨b,m,t,rfl,_⟩:=h;rfl
def lR (K:PySem.W.Frag):Sp:=fun vs H Q _=> ∃(a:Addr) (ns:List Int),vs=[.ref a]/\bC K H a (ns.map V.int)/\ns.length<=63/\ ∀H',Q (.bl true) H'
theorem FA {K:PySem.W.Frag} {vs:List V} {H:Hp} {Q:VK} {E:XK} (h:lR K vs H Q E):vs.length=1:=by obtain ⟨b,m,rfl,_⟩:=h;rfl
theorem mU: ∀l:List Nat,(l.map fun c=>[c]).flatten=l
 | []=>rfl
 | c::l=>by rw[Xw,YU,mU l];rfl
theorem vz: ∀l:List Nat,((l.map fun c=>[c]).map List.length).sum=l.length
 | []=>rfl
 | c::l=>by
  rw[Xw,Xw,YG,vz l]
  show 1+l.length=l.length+1
  omega
theorem eM (l:List Nat):cn l=(l.map fun c=>[c]).map fun l=>V.str (S l):=by unfold cn;rw[X4];rfl
theorem sW (l:List Nat):(cn l).reverse=cn l.reverse:=by unfold cn;rw[YI]
theorem cX (l:List Nat) (c:Nat):cn l++[V.str (S [c])]=cn (l++[c]):=by unfold cn;rw[UH];rfl
theorem take_snoc {α:Type} {l:List α} {i:Nat} {x:α} (h:l[i]? =some x):l.take i++[x]=l.take (i+1):=by rw[Qab,h];rfl
theorem y0 {ns:List Int} {i:Nat} (h:i<ns.length): ∃z,(ns.map V.int)[i]? =some (V.int z):=⟨ns[i],by rw[Xo,Iw h];rfl⟩
theorem eV {σ:L2.St} {H:Hp} {A B:Hp->Prop} (h:A H):M1 σ H fun b H3=>if b=true then A H3 else B H3:=by
 show (if true=true then A H else B H)
 rw[if_pos rfl]
 exact h
theorem xE (b:Bool) (z:Int): ∃y,m6 [V.int 0,V.int z] (if b=true then 1 else 0)=some (V.int y):=by
 cases b
 ·exact ⟨0,rfl⟩
 ·exact ⟨z,rfl⟩
theorem j6 {α:Type}: ∀{l:List α} {i:Nat} {x:α},l[i]? =some x->(x::l.eraseIdx i).Perm l
 | [],i,x,h=>by simp at h
 | a::l,0,x,h=>by
  have:a=x:=by simpa using h
  subst this
  exact List.Perm.refl _
 | a::l,i+1,x,h=>by
  have ih:=j6 (l:=l) (i:=i) (x:=x) (by simpa using h)
  rw[Y4]
  exact (List.Perm.swap a x _).trans (List.Perm.cons a ih)
theorem lZ (l:List Nat) (i:Nat):(cn l).eraseIdx i=cn (l.eraseIdx i):=by
 unfold cn
 induction l generalizing i with
 | nil=>rfl
 | cons a l ih=>
  cases i with
  | zero=>rfl
  | succ i=>rw[Xw,Y4,ih,Y4,Xw]
theorem sX {l:List Nat} {i:Nat} (h:i<l.length):(cn l)[i]? =some (V.str (S [l[i]])):=by unfold cn;rw[Xo,Iw h];rfl
theorem FC (a b:List Nat):cn a++cn b=cn (a++b):=by unfold cn;rw[UH]
theorem AH: ∀c∈aE,aA c∉aE:=by decide+kernel
theorem l_:aE.Nodup:=by decide+kernel
theorem Yd.perm {a b:List Nat} (h:Yd a) (p:a.Perm b):Yd b:=
 ⟨p.nodup_iff.mp h.nd,fun c hc=>h.lt c (p.mem_iff.mpr hc),fun c hc=>p.mem_iff.mp (h.cl c (p.mem_iff.mpr hc))⟩
structure Jc (i:Nat) (L E:List Nat):Prop where
 yd:Yd E
 nd:L.Nodup
 sm: ∀c∈L,c∈aE
 ap: ∀c∈L,c∉E
 ll:L.length=26 - i
 el:E.length=2*i
theorem Jc.start:Jc 0 aE []:=⟨⟨Y6,fun _ h=>absurd h Xu,fun _ h=>absurd h Xu⟩,l_,fun _ h=>h,fun _ _ h=>absurd h Xu,rfl,rfl⟩
theorem Jc.turn {i r:Nat} {L E:List Nat} (w:Jc i L E) (hi:i<26) (hr:r<L.length):Jc (i+1) (L.eraseIdx r) (E++[L[r],aA L[r]]):=by
 have hp:=j6 (l:=L) (Iw hr)
 have hm:L[r]∈L:=XF hr
 have hs:=w.sm _ hm
 have hl:Lt L[r]:= .inl hs
 have O0:=hp.nodup_iff.mpr w.nd
 have sub: ∀c∈L.eraseIdx r,c∈L:=fun c hc=>hp.mem_iff.mp (WN _ hc)
 have SX:=w.ap _ hm
 have U3:aA L[r]∉E:=fun z=>SX (by have:=w.yd.cl _ z;rwa [aI hl]at this)
 refine ⟨⟨?_,fun c hc=>?_,fun c hc=>?_⟩,(XH.mp O0).2,fun c hc=>w.sm c (sub c hc),fun c hc hE=>?_,?_,?_⟩
 ·rw[Ye]
  refine ⟨w.yd.nd,?_,fun a ha b hb z=>?_⟩
  ·rw[XH]
   refine ⟨fun z=>(dX hl) (Sz.mp z).symm,XH.mpr ⟨Xu,Y6⟩⟩
  ·subst z
   rcases UE.mp hb with z | z
   ·exact SX (z▸ha)
   ·exact U3 (Sz.mp z▸ha)
 ·rcases Xn.mp hc with z | z
  ·exact w.yd.lt c z
  ·rcases UE.mp z with z | z
   ·rw[z];exact hl
   ·rw[Sz.mp z];exact hl.aA
 ·rcases Xn.mp hc with z | z
  ·exact Yr _ (w.yd.cl c z)
  ·refine XC _ ?_
   rcases UE.mp z with z | z
   ·rw[z];exact WN _ (Sz.mpr rfl)
   ·rw[Sz.mp z,aI hl];exact Xp
 ·rcases Xn.mp hE with z | z
  ·exact w.ap c (sub c hc) z
  ·rcases UE.mp z with z | z
   ·exact (XH.mp O0).1 (z▸hc)
   ·have e:c=aA L[r]:=Sz.mp z
    exact AH _ hs (e▸w.sm c (sub c hc))
 ·have:=hp.length_eq
  rw[XR,w.ll]at this
  omega
 ·rw[UD,w.el]
  show 2*i+2=_
  omega
theorem aT.cP {b p:Addr} {H H':Hp} {o:HO} (h:aT b H H') (n:H p=none):aT b H (L2.upd H' p o):=fun c u e z=>by rw[au (ay e n)];exact h c u e z
theorem bY.cP {b p:Addr} {H:Hp} {o:HO} (h:bY H b) (n:p≠b):bY (L2.upd H p o) b:=let ⟨x,y,e⟩:=h;⟨x,y,by rw[au (Ne.symm n)];exact e⟩
theorem aT.none {b p:Addr} {H H':Hp} (h:aT b H H') (n:H' p=none) (z:p≠b):H p=none:=by
 cases q:H p with
 | none=>rfl
 | some o=>rw[h p o q z]at n;cases n
theorem bY.ne {b p:Addr} {H:Hp} (h:bY H b) (n:H p=none):p≠b:=fun z=>by obtain ⟨x,y,e⟩:=h;rw[<-z,n]at e;cases e
theorem qk {c:Bool} {A B:Prop} (h:c=false) (hB:B):if c=true then A else B:=by rw[h];exact xf hB
theorem Rb {c:Bool} {A B:Prop} (h:c=true) (hA:A):if c=true then A else B:=by rw[h];exact Iz hA
theorem bV (l:List Nat):(dA l).length=l.length:=by unfold dA;rw[XB,Kw]
theorem FD {l:List Nat} (h: ∀c∈l,Lt c):dA (dA l)=l:=by
 unfold dA
 rw[YI,List.reverse_reverse,X4]
 have: ∀c∈l,(aA ∘ aA) c=c:=fun c hc=>aI (h c hc)
 calc l.map (aA ∘ aA)=l.map id:=YH this
  _=l:=Zr l
theorem He {l:List Nat} (h: ∀c∈l,Lt c): ∀c∈l,c<128:=fun c hc=>(h c hc).lt
theorem oJ (a:List Nat):a.take (cn a).length=a:=by rw[aN];exact Xz (OS _)
theorem aT.same {b:Addr} {H H2 H3:Hp} (n:H b=Option.none) (s:aq H H2) (t:aT b H2 H3):aq H H3:=fun c o e=>t c o (s c o e) (ay e n)
theorem aT.after {p:Addr} {H H1 H2:Hp} (s:aT p H H1) (t:aq H1 H2):aT p H H2:=fun c o e z=>t c o (s c o e z)
noncomputable def gX (ws:List (List Nat)):List V:=ws.map fun l=>V.str (S l)
theorem cj (ws:List (List Nat)):(gX ws).length=ws.length:=by unfold gX;rw[Kw]
theorem kN (ws:List (List Nat)) (l:List Nat):gX ws++[V.str (S l)]=gX (ws++[l]):=by unfold gX;rw[UH];rfl
theorem iT {ws:List (List Nat)} {i:Nat} (h:i<ws.length):(gX ws)[i]? =some (V.str (S ws[i])):=by unfold gX;rw[Xo,Iw h];rfl
noncomputable def fD (st:List Nat) (c:Nat):List Nat:=if st.getLast? =some (aA c) then st.dropLast else st++[c]
noncomputable def red (l:List Nat):List Nat:=l.foldl fD []
def xF:List Nat->Prop
 | []=>True
 | [_]=>True
 | a::b::r=>a≠aA b/\xF (b::r)
theorem xF.init: ∀{l:List Nat} {c:Nat},xF (l++[c])->xF l/\l.getLast?≠ some (aA c)
 | [],_,_=>⟨trivial,by simp⟩
 | [a],c,h=>⟨trivial,fun z=>h.1 (by simpa using z)⟩
 | a::b::r,c,h=>by
  have ih:=xF.init (l:=b::r) (c:=c) h.2
  exact ⟨⟨h.1,ih.1⟩,by simpa using ih.2⟩
theorem snoc_cases (l:List Nat):l=[]\/ ∃m a,l=m++[a]:=by
 by_cases h:l=[]
 ·exact .inl h
 ·exact .inr ⟨l.dropLast,l.getLast h,(List.dropLast_concat_getLast h).symm⟩
theorem xF.left: ∀{m l:List Nat},xF (m++l)->xF m
 | [],_,_=>trivial
 | [_],_,_=>trivial
 | a::b::r,l,h=>⟨h.1,xF.left (m:=b::r) (l:=l) h.2⟩
theorem AI {st:List Nat} {c d:Nat} (h:d∈fD st c):d∈st\/d=c:=by
 unfold fD at h
 by_cases e:st.getLast? =some (aA c)
 ·rw[if_pos e]at h
  exact .inl (List.dropLast_subset _ h)
 ·rw[if_neg e]at h
  rcases Xn.mp h with z | z
  ·exact .inl z
  ·exact .inr (Sz.mp z)
theorem fold_same: ∀(l st:List Nat),xF (st++l)->l.foldl fD st=st++l
 | [],st,_=>by simp
 | c::l,st,h=>by
  have h':xF ((st++[c])++l):=by rw[Yj];exact h
  have h2:=(xF.left h').init.2
  rw[Zh]
  have:fD st c=st++[c]:=by unfold fD;rw[if_neg h2]
  rw[this,fold_same l (st++[c]) h',Yj]
  rfl
theorem Co {l:List Nat} (h:xF l):red l=l:=by
 exact fold_same l [] h
theorem fold_lt: ∀(l st:List Nat),(∀c∈l,Lt c)->(∀c∈st,Lt c)-> ∀c∈l.foldl fD st,Lt c
 | [],_,_,h=>h
 | a::l,st,h1,h2=>fold_lt l _ (fun c hc=>h1 c (WN _ hc)) fun c hc=>(AI hc).elim (h2 c) fun z=>z▸h1 a Xp
theorem Jd {l:List Nat} (h: ∀c∈l,Lt c): ∀c∈red l,Lt c:=fold_lt l [] h fun _ h=>absurd h Xu
theorem AJ (st:List Nat) (c:Nat):(fD st c).length<=st.length+1:=by
 unfold fD
 by_cases e:st.getLast? =some (aA c)
 ·rw[if_pos e,List.length_dropLast];omega
 ·rw[if_neg e,UD];exact OS _
theorem vA: ∀(l st:List Nat),(l.foldl fD st).length<=st.length+l.length
 | [],_=>OS _
 | c::l,st=>by
  have:=vA l (fD st c)
  have h2:=AJ st c
  rw[Zh,XR]
  omega
theorem kO (l:List Nat):(red l).length<=l.length:=by
 have:=vA l []
 rw[List.length_nil,ZJ]at this
 exact this
theorem Cp {l:List Nat} {i c:Nat} (h:l[i]? =some c):red (l.take (i+1))=fD (red (l.take i)) c:=by
 unfold red
 rw[<-take_snoc h,List.foldl_append]
 rfl
theorem Cq: ∀{l:List Nat},(∀k a b,l[k]? =some a->l[k+1]? =some b->a≠aA b)->xF l
 | [],_=>trivial
 | [_],_=>trivial
 | a::b::r,h=>⟨h 0 a b rfl rfl,Cq (l:=b::r) fun k x y h1 h2=>h (k+1) x y (by simpa using h1) (by simpa using h2)⟩
noncomputable def Bv (l:List Nat) (s e:Nat):List Nat:=(l.drop s).take (e - s)
noncomputable def strip:Nat->List Nat->List Nat
 | 0,l=>l
 | n+1,l=>match l with
  | []=>[]
  | [a]=>[a]
  | a::b::r=>if a=aA ((b::r).getLast (by simp)) then strip n (b::r).dropLast else a::b::r
theorem e_: ∀(n:Nat) {l:List Nat},l.length<2->strip n l=l
 | 0,_,_=>rfl
 | _+1,[],_=>rfl
 | _+1,[_],_=>rfl
 | _+1,_::_::_,h=>by simp at h;omega
theorem kP (l:List Nat) (y:Nat):(l++[y]).getLast (by simp)=y:=by simp
theorem strip_go (n:Nat) {a y:Nat} {m:List Nat} (h:a=aA y):strip (n+1) (a::(m++[y]))=strip n m:=by
 cases m with
 | nil=>
  show (if a=aA (([y]:List Nat).getLast (by simp)) then strip n ([y]:List Nat).dropLast else _)=strip n []
  rw[if_pos (by simpa using h)]
  rfl
 | cons b r=>
  show (if a=aA ((b::(r++[y])).getLast (by simp)) then strip n (b::(r++[y])).dropLast else _)=strip n (b::r)
  have e1:(b::(r++[y])).getLast (by simp)=y:=kP (b::r) y
  have e2:(b::(r++[y])).dropLast=b::r:=by
   have:b::(r++[y])=(b::r)++[y]:=rfl
   rw[this,ZZ]
  rw[if_pos (by rw[e1];exact h),e2]
theorem strip_stop (n:Nat) {a y:Nat} {m:List Nat} (h:a≠aA y):strip n (a::(m++[y]))=a::(m++[y]):=by
 cases n with
 | zero=>rfl
 | succ n=>
  cases m with
  | nil=>
   show (if a=aA (([y]:List Nat).getLast (by simp)) then _ else _)=_
   rw[if_neg (by simpa using h)]
   rfl
  | cons b r=>
   show (if a=aA ((b::(r++[y])).getLast (by simp)) then _ else _)=_
   have e1:(b::(r++[y])).getLast (by simp)=y:=kP (b::r) y
   rw[if_neg (by rw[e1];exact h)]
   rfl
theorem Cr {l:List Nat} (h:2<=l.length): ∃a m y,l=a::(m++[y]):=by
 cases l with
 | nil=>simp at h
 | cons a r=>
  rcases snoc_cases r with rfl | ⟨m,y,rfl⟩
  ·simp at h
  ·exact ⟨a,m,y,rfl⟩
theorem oK: ∀(n:Nat) (l:List Nat) (k:Nat),l.length<=n->strip (n+k) l=strip n l
 | 0,l,k,h=>by rw[e_ _ (by omega),e_ _ (by omega)]
 | n+1,l,k,h=>by
  by_cases h2:l.length<2
  ·rw[e_ _ h2,e_ _ h2]
  ·obtain ⟨a,m,y,rfl⟩:=Cr (l:=l) (by omega)
   have hm:m.length<=n:=by simp at h;omega
   by_cases e:a=aA y
   ·have:n+1+k=(n+k)+1:=by omega
    rw[this,strip_go _ e,strip_go _ e,oK n m k hm]
   ·rw[strip_stop _ e,strip_stop _ e]
noncomputable def core (l:List Nat):List Nat:=strip l.length l
theorem y6 {a y:Nat} {m:List Nat} (h:a=aA y):core (a::(m++[y]))=core m:=by
 unfold core
 have:(a::(m++[y])).length=(m.length+1)+1:=by simp
 rw[this,strip_go _ h,oK _ _ _ (OS _)]
theorem md {a y:Nat} {m:List Nat} (h:a≠aA y):core (a::(m++[y]))=a::(m++[y]):=strip_stop _ h
theorem gY {l:List Nat} (h:l.length<2):core l=l:=e_ _ h
theorem vB {P:List Nat->List Nat->Prop} (h1: ∀l,l.length<2->P l l) (h2: ∀a m y,a≠aA y->P (a::(m++[y])) (a::(m++[y]))) (h3: ∀a m y r,a=aA y->P m r->P (a::(m++[y])) r): ∀(n:Nat) (l:List Nat),l.length<=n->P l (core l)
 | 0,l,h=>by rw[gY (by omega)];exact h1 l (by omega)
 | n+1,l,h=>by
  by_cases hl:l.length<2
  ·rw[gY hl];exact h1 l hl
  ·obtain ⟨a,m,y,rfl⟩:=Cr (l:=l) (by omega)
   by_cases e:a=aA y
   ·rw[y6 e]
    exact h3 a m y _ e (vB h1 h2 h3 n m (by simp at h;omega))
   ·rw[md e];exact h2 a m y e
theorem vC (l:List Nat):(core l).length<=l.length:=
 vB (P:=fun l r=>r.length<=l.length) (fun _ _=>OS _) (fun _ _ _ _=>OS _) (fun a m y r _ k=>by simp;omega) l.length l (OS _)
theorem Je {l:List Nat} {s e:Nat} (h1:s+2<=e) (h2:e<=l.length):Bv l s e=l[s]::(Bv l (s+1) (e - 1)++[l[e - 1]]):=by
 unfold Bv
 rw[X_ (by omega)]
 have e1:e - s=(e - 1 - (s+1))+1+1:=by omega
 rw[e1,List.take_succ_cons,Qab,Yw]
 have e2:s+1+(e - 1 - (s+1))=e - 1:=by omega
 rw[e2,Iw (by omega)]
 rfl
theorem FE {l:List Nat} {s e:Nat} (h2:e<=l.length):(Bv l s e).length=e - s:=by unfold Bv;rw[Xm,Xx];omega
theorem FF (l:List Nat):Bv l 0 l.length=l:=by unfold Bv;simp
def kQ (_:PySem.W.Frag):Sp:=fun vs H Q _=> ∃l:List Nat,vs=[.str (S l)]/\(∀c∈l,Lt c)/\l.length<=1000/\ ∀H',aq H H'->Q (.str (S (red l))) H'
theorem ql {K:PySem.W.Frag} {vs:List V} {H:Hp} {Q:VK} {E:XK} (h:kQ K vs H Q E):vs.length=1:=by obtain ⟨c,rfl,_⟩:=h;rfl
def mV (_:PySem.W.Frag):Sp:=fun vs H Q _=> ∃l:List Nat,vs=[.str (S l)]/\(∀c∈l,Lt c)/\l.length<=1000/\ ∀H',aq H H'->Q (.str (S (core (red l)))) H'
theorem sY {K:PySem.W.Frag} {vs:List V} {H:Hp} {Q:VK} {E:XK} (h:mV K vs H Q E):vs.length=1:=by obtain ⟨c,rfl,_⟩:=h;rfl
theorem cQ {α:Type} (l:List α) (k:Nat):cut l none (some (k:Int))=l.take k:=by
 unfold cut
 rw[HT.kA,HT.gh,List.drop_zero,Nat.sub_zero]
 by_cases h:k<=l.length
 ·rw[Yg h]
 ·rw[Yi (by omega),Xz (OS _),Xz (by omega)]
theorem cY {α:Type} (l:List α) (k:Nat):cut l (some (k:Int)) none=l.drop k:=by
 unfold cut
 rw[HT.kA,HT.gh]
 by_cases h:k<=l.length
 ·rw[Yg h,Xz (by rw[Xx];exact OS _)]
 ·rw[Yi (by omega),Yu (OS _),Yu (by omega)]
  simp
mutual
theorem eqv_refl: ∀d:PyData,d.hasDict=false->PyData.eqv d d=true
 | .none,_=>rfl
 | .bool b,_=>by simp[PyData.eqv]
 | .int i,_=>by simp[PyData.eqv]
 | .str x,_=>by simp[PyData.eqv]
 | .list xs,h=>by show PyData.eqvAll xs xs=true;exact eqvAll_refl xs (by simpa [PyData.hasDict]using h)
 | .tuple xs,h=>by show PyData.eqvAll xs xs=true;exact eqvAll_refl xs (by simpa [PyData.hasDict]using h)
 | .dict aP,h=>by simp[PyData.hasDict]at h
theorem eqvAll_refl: ∀ds:List PyData,PyData.hasDictAll ds=false->PyData.eqvAll ds ds=true
 | [],_=>rfl
 | d::ds,h=>by
  simp[PyData.hasDictAll]at h
  show (PyData.eqv d d&&PyData.eqvAll ds ds)=true
  rw[eqv_refl d h.1,eqvAll_refl ds h.2]
  rfl
end
noncomputable def dJ (c:List Nat) (k:Nat):List Nat:=c.drop k++c.take k
noncomputable def kR (c:List Nat) (n:Nat):List (List Nat):=(List.range n).map fun k=>dJ c (k+1)
noncomputable def fE (c:List Nat):List Nat:=cf c (kR c (c.length - 1))
@[irreducible] noncomputable def dG (w:List Nat):List Nat:=fE (core (red w))
theorem qY (c:List Nat) (n:Nat):kR c (n+1)=kR c n++[dJ c (n+1)]:=by unfold kR;rw[Yv,UH];rfl
theorem gZ: ∀(r:List (List Nat)) (a b:List Nat),cf a (r++[b])=cO (cf a r) b
 | [],_,_=>rfl
 | _::r,_,_=>gZ r _ _
theorem cC (c:List Nat) (k:Nat):(dJ c k).length=c.length:=by unfold dJ;rw[UD,Xx,Xm];omega
theorem j7: ∀(r:List (List Nat)) (a:List Nat),cf a r=a\/cf a r∈r
 | [],a=> .inl rfl
 | b::r,a=>by
  rcases j7 r (cO a b) with h | h
  ·have hl:cO a b=a\/cO a b=b:=by unfold cO;split<;>simp
   rcases hl with e | e
   ·left;show cf (cO a b) r=a;rw[h,e]
   ·right;show cf (cO a b) r∈b::r;rw[h,e];exact Xp
  ·right;exact WN _ h
theorem qZ (c:List Nat): ∃k,fE c=dJ c k:=by
 rcases j7 (kR c (c.length - 1)) c with h | h
 ·exact ⟨0,by show cf _ _=_;rw[h];unfold dJ;simp⟩
 ·unfold kR at h
  obtain ⟨k,_,e⟩:=XA.mp h
  exact ⟨k+1,e.symm⟩
theorem AK (w:List Nat):(dG w).length<=w.length:=by
 obtain ⟨k,e⟩:=qZ (core (red w))
 unfold dG
 rw[e,cC]
 exact XM (vC _) (kO w)
def y7 (_:PySem.W.Frag):Sp:=fun vs H Q _=> ∃l:List Nat,vs=[.str (S l)]/\(∀c∈l,Lt c)/\l.length<=1000/\ ∀H',aq H H'->Q (.str (S (dG l))) H'
theorem Cs {K:PySem.W.Frag} {vs:List V} {H:Hp} {Q:VK} {E:XK} (h:y7 K vs H Q E):vs.length=1:=by obtain ⟨c,rfl,_⟩:=h;rfl
theorem Jf (n d:Nat):HT.hX n d (some (-1))=n - 1:=by
 have e:HT.hX n d (some (-1))=(if (-1:Int)<0 then ((-1:Int)+(n:Int)).toNat else min (-1:Int).toNat n):=rfl
 rw[e,if_pos (by decide)]
 omega
theorem Jg {α:Type} (l:List α):cut l (some (-2)) none=l.drop (l.length - 2):=by
 have e: ∀d,HT.hX l.length d (some (-2))=(if (-2:Int)<0 then ((-2:Int)+(l.length:Int)).toNat else min (-2:Int).toNat l.length):=fun _=>rfl
 have e2: ∀d,HT.hX l.length d (some (-2))=l.length - 2:=fun d=>by rw[e,if_pos (by decide)];omega
 unfold cut
 rw[HT.kA,e2]
 exact Xz (by rw[Xx];exact OS _)
def AllLt (l:List Nat):Prop:= ∀c∈l,Lt c
theorem oM (a b:List Nat): ¬a<cO a b:=by
 unfold cO
 split
 ·rename_i h;exact fun g=>Y7 a (List.lt_trans g h)
 ·exact Y7 a
theorem m_ (a b:List Nat): ¬b<cO a b:=by
 unfold cO
 split
 ·exact Y7 b
 ·rename_i h;exact h
theorem Hf {a b c:List Nat} (h: ¬b<a) (g: ¬c<b): ¬c<a:=List.le_trans (show a<=b from h) (show b<=c from g)
theorem j8: ∀(r:List (List Nat)) (a:List Nat), ∀x∈a::r, ¬x<cf a r
 | [],a,x,hx=>by rw[Sz.mp hx];exact Y7 a
 | b::r,a,x,hx=>by
  show ¬x<cf (cO a b) r
  have h0:=j8 r (cO a b) (cO a b) Xp
  rcases UE.mp hx with e | hx
  ·rw[e];exact Hf h0 (oM a b)
  ·rcases UE.mp hx with e | hx
   ·rw[e];exact Hf h0 (m_ a b)
   ·exact j8 r (cO a b) x (WN _ hx)
theorem vD (c:List Nat):dJ c 0=c:=by unfold dJ;simp
theorem kS (u:List Nat): ∀(m i:Nat),i<m*u.length->(dz m u)[i]? =u[i%u.length]?
 | 0,i,h=>by simp at h
 | m+1,i,h=>by
  rw[eK,List.getElem?_append]
  by_cases z:i<u.length
  ·rw[if_pos z,Yy z]
  ·rw[if_neg z,kS u m (i - u.length) (by rw[Zk]at h;omega), <-Z_ (by omega)]
def gK (w:List Nat) (s:Nat):Prop:=dz (w.length / s) (w.take s)=w
def gL (w:List Nat) (k:Nat):Prop:=dJ w k=w
noncomputable instance (w:List Nat) (s:Nat):Decidable (gK w s):=by unfold gK;infer_instance
noncomputable instance (w:List Nat) (s:Nat):Decidable (gL w s):=by unfold gL;infer_instance
def bL (w:List Nat) (s:Nat):Prop:=(w=[]/\s=0)\/(1<=s/\s<=w.length/\gK w s/\ ∀j,1<=j->j<s-> ¬gK w j)
def j9 (w:List Nat) (s:Nat):Prop:=(w=[]/\s=0)\/(1<=s/\s<=w.length/\gL w s/\ ∀j,1<=j->j<s-> ¬gL w j)
theorem sZ {w:List Nat} {s:Nat} (h1:1<=s) (h2:s<=w.length) (h:gK w s):gL w s:=by
 unfold gK at h
 have hm:1<=w.length / s:=Nat.div_pos h2 h1
 obtain ⟨m,e⟩: ∃m,w.length / s=m+1:=⟨w.length / s - 1,by omega⟩
 rw[e]at h
 have hu:(w.take s).length=s:=by rw[Xm];omega
 generalize w.take s=u at h hu
 unfold gL dJ
 rw[<-h,eK,List.drop_left' hu,List.take_left' hu, <-xp,eK]
noncomputable def Fw (w:List Nat) (i:Nat):Option Nat:=w[i%w.length]?
theorem nN {w:List Nat} {k i:Nat} (hk:k<=w.length) (hi:i<w.length):(dJ w k)[i]? =Fw w (i+k):=by
 unfold dJ Fw
 rw[List.getElem?_append,Xx]
 by_cases z:i<w.length - k
 ·rw[if_pos z,Yw,Yy (by omega),ZL]
 ·rw[if_neg z,Y2,if_pos (by omega),Z_ (by omega),Yy (by omega)]
  congr 1
  omega
def wF (w:List Nat) (k:Nat):Prop:= ∀i,Fw w (i+k)=Fw w i
theorem Ct (w:List Nat) (i k:Nat):Fw w (i%w.length+k)=Fw w (i+k):=by unfold Fw;rw[Nat.mod_add_mod]
theorem gj {w:List Nat} {k:Nat} (hn:w≠[]) (hk:k<=w.length):gL w k↔wF w k:=by
 have hl:0<w.length:=SD.mpr hn
 constructor
 ·intro h i
  have hi:=Y1 i hl
  rw[<-Ct, <-nN hk hi,h]
  rfl
 ·intro h
  refine Zu fun i=>?_
  by_cases hi:i<w.length
  ·rw[nN hk hi,h i]
   unfold Fw
   rw[Yy hi]
  ·have hr:(dJ w k).length=w.length:=cC w k
   rw[Yl (by omega),Yl (by omega)]
theorem wF.mul {w:List Nat} {k:Nat} (h:wF w k): ∀j i,Fw w (i+k*j)=Fw w i
 | 0,i=>rfl
 | j+1,i=>by rw[Nat.mul_succ, <-Nat.add_assoc,h,wF.mul h j]
theorem wF.whole (w:List Nat):wF w w.length:=fun i=>by unfold Fw;rw[Nat.add_mod_right]
theorem wF.rest {w:List Nat} {k:Nat} (h:wF w k):wF w (w.length%k):=fun i=>by
 rw[<-h.mul (w.length / k) (i+w.length%k),Nat.add_assoc,ZR]
 exact wF.whole w i
theorem q5 {w:List Nat} {k:Nat} (hn:w≠[]) (h1:1<=k) (h2:k<=w.length) (h:gL w k) (hl: ∀j,1<=j->j<k-> ¬gL w j):gK w k:=by
 have hp:=(gj hn h2).mp h
 have hr:w.length%k=0:=by
  by_cases z:w.length%k=0
  ·exact z
  ·have dk:=Y1 w.length (show k>0 by omega)
   exact absurd ((gj hn (by omega)).mpr hp.rest) (hl _ (by omega) dk)
 have hm:w.length / k*k=w.length:=by
  have:=ZR w.length k
  rw[hr,ZJ,YE]at this
  exact this
 have hu:(w.take k).length=k:=by rw[Xm];omega
 unfold gK
 refine Zu fun i=>?_
 by_cases hi:i<w.length
 ·rw[kS _ _ _ (by rw[hu,hm];exact hi),hu,Y2]
  have U4:=Y1 i (show k>0 by omega)
  rw[if_pos U4]
  have e:=hp.mul (i / k) (i%k)
  rw[ZR]at e
  unfold Fw at e
  rw[Yy hi,Yy (by omega)]at e
  exact e.symm
 ·rw[Yl (by rw[u6,hu,hm];omega),Yl (by omega)]
theorem jm {w:List Nat} {s k:Nat} (h:bL w s) (g:j9 w k):s=k:=by
 rcases h with ⟨e,e2⟩ | ⟨h1,h2,h3,h4⟩
 ·rcases g with ⟨_,g2⟩ | ⟨g1,g2,_,_⟩
  ·rw[e2,g2]
  ·rw[e]at g2;simp at g2;omega
 ·rcases g with ⟨e,_⟩ | ⟨g1,g2,g3,g4⟩
  ·rw[e]at h2;simp at h2;omega
  ·have hn:w≠[]:=fun z=>by rw[z]at h2;simp at h2;omega
   by_cases z:s<k
   ·exact absurd (sZ h1 h2 h3) (g4 s h1 z)
   ·by_cases z2:k<s
    ·exact absurd (q5 hn g1 g2 g3 g4) (h4 k g1 z2)
    ·omega
theorem AL (w:List Nat) (h:w≠[]):gK w w.length:=by
 have hl:0<w.length:=SD.mpr h
 unfold gK
 rw[Nat.div_self hl,Xz (OS _)]
 show dz (0+1) w=w
 rw[eK]
 simp[dz]
theorem AM (w:List Nat):gL w w.length:=by
 unfold gL dJ
 rw[Yu (OS _),Xz (OS _)]
 rfl
noncomputable def FG (c:List Nat) (n:Nat):List Nat:=((List.range n).map (· +1)).filter fun k=>decide (gL c k)
theorem s_ {c:List Nat} {n k:Nat}:k∈FG c n↔(1<=k/\k<=n)/\gL c k:=by
 unfold FG
 rw[XI,XA]
 constructor
 ·rintro ⟨⟨j,hj,rfl⟩,h⟩
  have:=Yt.mp hj
  exact ⟨by omega,of_decide_eq_true h⟩
 ·rintro ⟨h1,h2⟩
  exact ⟨⟨k - 1,Yt.mpr (by omega),by omega⟩,decide_eq_true h2⟩
theorem xG (c:List Nat) (n:Nat):(FG c n).Pairwise (· < ·):=by
 unfold FG
 refine List.Pairwise.filter _ ?_
 rw[Yc]
 exact (List.pairwise_lt_range (n:=n)).imp fun h=>Nat.succ_lt_succ h
theorem oN {c:List Nat} (h:c≠[]): ∃k r,FG c c.length=k::r/\j9 c k:=by
 have hl:0<c.length:=SD.mpr h
 have hm:c.length∈FG c c.length:=s_.mpr ⟨by omega,AM c⟩
 rcases e:FG c c.length with _ | ⟨k,r⟩
 ·rw[e]at hm;exact absurd hm Xu
 ·refine ⟨k,r,rfl, .inr ?_⟩
  have hk:k∈FG c c.length:=by rw[e];exact Xp
  obtain ⟨⟨h1,h2⟩,h3⟩:=s_.mp hk
  refine ⟨h1,h2,h3,fun j j1 j2 z=>?_⟩
  have hj:j∈FG c c.length:=s_.mpr ⟨by omega,z⟩
  have hs:=xG c c.length
  rw[e]at hj hs
  rcases UE.mp hj with w | w
  ·omega
  ·have:=List.rel_of_pairwise_cons hs w
   omega
noncomputable def Hg (w:List Nat) (s:Nat):List V:=[.str (S (w.take s)), .int ((w.length / s:Nat):Int)]
def y8 (_:PySem.W.Frag):Sp:=fun vs H Q _=> ∃l:List Nat,vs=[.str (S l)]/\(∀c∈l,Lt c)/\l.length<=1000/\ ∀p s H',H p=none->H' p=some (.tup (Hg (dG l) s))->bL (dG l) s->aq H H'->Q (.ref p) H'
theorem Cu {K:PySem.W.Frag} {vs:List V} {H:Hp} {Q:VK} {E:XK} (h:y8 K vs H Q E):vs.length=1:=by obtain ⟨c,rfl,_⟩:=h;rfl
theorem NM {l:List Nat} (h:l.Nodup) {i j:Nat} (hi:i<l.length) (hj:j<l.length) (e:l[i]=l[j]):i=j:=by
 have hp:=YC.mp h
 rcases Nat.lt_trichotomy i j with z | z | z
 ·exact absurd e (hp i j hi hj z)
 ·exact z
 ·exact absurd e.symm (hp j i hj hi z)
theorem bo: ∀c∈aE,aB c=true/\PyProof.Rows.lo1 c=c/\aA c∈iD:=by decide+kernel
theorem bQ: ∀c∈iD,aB c=false/\PyProof.Rows.lo1 c=aA c/\c∉aE/\aA c∈aE:=by decide+kernel
theorem q8: ∀c∈iD,c∉aE:=by decide+kernel
theorem jn {c:Nat} (h:Lt c):aB c=decide (c∈aE):=by
 rcases h with h | h
 ·rw[(bo c h).1,decide_eq_true h]
 ·rw[(bQ c h).1,decide_eq_false (bQ c h).2.2.1]
noncomputable def gr (y:List Nat) (a b c:Nat):Bool:=decide ((((y.idxOf b:Nat):Int) - ((y.idxOf a:Nat):Int))%(y.length:Int)<(((y.idxOf c:Nat):Int) - ((y.idxOf a:Nat):Int))%(y.length:Int))
def iF (i j k:Nat):Prop:=(i<j/\j<k)\/(j<k/\k<i)\/(k<i/\i<j)
noncomputable instance (i j k:Nat):Decidable (iF i j k):=by unfold iF;infer_instance
theorem iU {i j n:Nat} (hi:i<n) (hj:j<n):((j:Int) - (i:Int))%(n:Int)=if i<=j then (j:Int) - i else (j:Int) - i+n:=by
 split
 ·exact XJ (by omega) (by omega)
 ·rw[<-YM]
  exact XJ (by omega) (by omega)
theorem di {y:List Nat} {a b c:Nat} (hn:y.Nodup) (ha:a∈y) (hb:b∈y) (hc:c∈y) (oO:a≠b) (xH:a≠c) (xI:b≠c):gr y a b c=decide (iF (y.idxOf a) (y.idxOf b) (y.idxOf c)):=by
 have ia:=SA ha
 have ib:=SA hb
 have ic:=SA hc
 have inj: ∀{u v:Nat},u∈y->v∈y->u≠v->y.idxOf u≠y.idxOf v:=fun {u v} hu hv h z=>h (by
  have e1:=Ya (SA hu)
  have e2:=Ya (SA hv)
  rw[<-e1, <-e2]
  congr 1)
 have n1:=inj ha hb oO
 have n2:=inj ha hc xH
 have n3:=inj hb hc xI
 unfold gr
 rw[iU ia ib,iU ia ic]
 generalize y.idxOf a=i at*
 generalize y.idxOf b=j at*
 generalize y.idxOf c=k at*
 refine decide_eq_decide.mpr ?_
 unfold iF
 split<;>split<;>omega
theorem Cv {i j k:Nat}:iF j k i↔iF i j k:=by unfold iF;omega
theorem FH {i j k:Nat} (h1:i≠j) (h2:i≠k) (h3:j≠k):iF i k j↔ ¬iF i j k:=by unfold iF;omega
theorem FI {y:List Nat} {a b c:Nat} (hn:y.Nodup) (ha:a∈y) (hb:b∈y) (hc:c∈y) (oO:a≠b) (xH:a≠c) (xI:b≠c):gr y b c a=gr y a b c:=by
 rw[di hn ha hb hc oO xH xI,di hn hb hc ha xI (Ne.symm oO) (Ne.symm xH)]
 exact decide_eq_decide.mpr Cv
theorem bR {y:List Nat} {u v:Nat} (hu:u∈y) (hv:v∈y) (h:u≠v):y.idxOf u≠y.idxOf v:=fun z=>h (by
 have e1:=Ya (SA hu)
 have e2:=Ya (SA hv)
 rw[<-e1, <-e2]
 congr 1)
theorem Cw {y:List Nat} {a b c:Nat} (hn:y.Nodup) (ha:a∈y) (hb:b∈y) (hc:c∈y) (oO:a≠b) (xH:a≠c) (xI:b≠c):gr y a c b=!gr y a b c:=by
 rw[di hn ha hb hc oO xH xI,di hn ha hc hb xH oO (Ne.symm xI)]
 rw[<-decide_not]
 exact decide_eq_decide.mpr (FH (bR ha hb oO) (bR ha hc xH) (bR hb hc xI))
theorem j_ (d:Nat) (t:List Nat) (a:Nat):(d::t).idxOf a=if d=a then 0 else t.idxOf a+1:=by
 by_cases h:d=a
 ·subst h;rw[if_pos rfl,List.idxOf_cons_self]
 ·rw[if_neg h,ZT,show (d==a)=false by simp[h]];rfl
theorem fU (p:Nat->Bool): ∀{y:List Nat} {a b:Nat},a∈y->b∈y->p a=true->p b=true->((y.filter p).idxOf a<(y.filter p).idxOf b↔y.idxOf a<y.idxOf b)
 | [],_,_,ha,_,_,_=>absurd ha Xu
 | d::t,a,b,ha,hb,pa,pb=>by
  by_cases hd:p d=true
  ·rw[XQ hd,j_,j_,j_,j_]
   by_cases e1:d=a
   ·rw[if_pos e1,if_pos e1]
    by_cases e2:d=b
    ·rw[if_pos e2,if_pos e2]
    ·rw[if_neg e2,if_neg e2];omega
   ·rw[if_neg e1,if_neg e1]
    by_cases e2:d=b
    ·rw[if_pos e2,if_pos e2];omega
    ·have KH:a∈t:=(UE.mp ha).resolve_left (Ne.symm e1)
     have Bw:b∈t:=(UE.mp hb).resolve_left (Ne.symm e2)
     have ih:=fU p KH Bw pa pb
     rw[if_neg e2,if_neg e2];omega
  ·have e1:d≠a:=fun z=>hd (z▸pa)
   have e2:d≠b:=fun z=>hd (z▸pb)
   have KH:a∈t:=(UE.mp ha).resolve_left (Ne.symm e1)
   have Bw:b∈t:=(UE.mp hb).resolve_left (Ne.symm e2)
   have ih:=fU p KH Bw pa pb
   rw[XE hd,j_,j_,if_neg e1,if_neg e2]
   omega
theorem AN {y:List Nat} {p:Nat->Bool} {a b c:Nat} (hn:y.Nodup) (ha:a∈y.filter p) (hb:b∈y.filter p) (hc:c∈y.filter p) (oO:a≠b) (xH:a≠c) (xI:b≠c):gr (y.filter p) a b c=gr y a b c:=by
 obtain ⟨KG,OY⟩:=XI.mp ha
 obtain ⟨oI,h_⟩:=XI.mp hb
 obtain ⟨NN,KI⟩:=XI.mp hc
 rw[di (hn.filter _) ha hb hc oO xH xI,di hn KG oI NN oO xH xI]
 refine decide_eq_decide.mpr ?_
 unfold iF
 rw[fU p KG oI OY h_,fU p oI NN h_ KI,fU p NN KG KI OY]
theorem AO {a b:List Nat} (h:a.Perm b) (ha:a.Pairwise (· <= ·)) (hb:b.Pairwise (· <= ·)):a=b:=
 List.Perm.eq_of_pairwise (le:=fun x y=>x<=y) (fun _ _ _ _ h1 h2=>ZS h1 h2) ha hb h
def vE (_:PySem.W.Frag):Sp:=fun vs H Q _=> ∃l:List Nat,vs=[.str (S l)]/\(∀c∈l,c<128)/\l.length<64/\ ∀l' H',l'.Perm (l.filter aB)->l'.Pairwise (· <= ·)->aq H H'->Q (.str (S l')) H'
theorem AQ {K:PySem.W.Frag} {vs:List V} {H:Hp} {Q:VK} {E:XK} (h:vE K vs H Q E):vs.length=1:=by obtain ⟨c,rfl,_⟩:=h;rfl
def iV (_:PySem.W.Frag):Sp:=fun vs H Q _=> ∃(y:List Nat) (a b:Nat),vs=[.str (S y), .str (S [a]), .str (S [b])]/\a∈y/\b∈y/\y.length<=1000/\Q (.int ((((y.idxOf b:Nat):Int) - ((y.idxOf a:Nat):Int))%(y.length:Int))) H
theorem ng {K:PySem.W.Frag} {vs:List V} {H:Hp} {Q:VK} {E:XK} (h:iV K vs H Q E):vs.length=3:=by obtain ⟨c,_,_,rfl,_⟩:=h;rfl
theorem mW {p:Nat->Bool} {l:List Nat} {i c:Nat} (h:l[i]? =some c):(l.take (i+1)).filter p=(l.take i).filter p++if p c=true then [c] else []:=by
 rw[<-take_snoc h,Yo]
 congr 1
 by_cases z:p c=true
 ·rw[if_pos z,XQ z];rfl
 ·rw[if_neg z,XE z];rfl
theorem Cy {y:List Nat} (h:Yd y):2*(y.filter aB).length=y.length:=by
 have key: ∀p q:Nat->Bool,(∀c∈y,p c=true->q (aA c)=true)->(y.filter p).length<=(y.filter q).length:=fun p q NO=>by
  have hn:((y.filter p).map aA).Nodup:=by
   show ((y.filter p).map aA).Pairwise (· ≠ ·)
   rw[Yc]
   refine (h.nd.filter p).imp_of_mem fun {a b} ha hb z e=>z ?_
   exact dY (h.lt a (XI.mp ha).1) (h.lt b (XI.mp hb).1) e
  have:=hn.length_le_of_subset (l₂:=y.filter q) fun c hc=>by
   obtain ⟨d,hd,rfl⟩:=XA.mp hc
   obtain ⟨d1,d2⟩:=XI.mp hd
   exact XI.mpr ⟨h.cl d d1,NO d d1 d2⟩
  rwa [Kw]at this
 have k1:=key aB (fun c=>!aB c) fun c hc z=>by
  rw[jn (h.lt c hc)]at z
  have hs:=of_decide_eq_true z
  rw[(bQ _ (bo c hs).2.2).1];rfl
 have k2:=key (fun c=>!aB c) aB fun c hc z=>by
  rcases h.lt c hc with q | q
  ·rw[(bo c q).1]at z;cases z
  ·exact (bo _ (bQ c q).2.2.2).1
 have k3:(y.filter aB).length+(y.filter fun c=>!aB c).length=y.length:=by
  clear k1 k2 key h
  induction y with
  | nil=>rfl
  | cons a r ih=>
   cases hq:aB a
   ·rw[XE (by simp[hq]),XQ (by simp[hq]),XR,XR];omega
   ·rw[XQ hq,XE (by simp[hq]),XR,XR];omega
 omega
noncomputable def rd (w:List Nat) (k:Int):Nat:=w.getD (k%(w.length:Int)).toNat 0
theorem NP {w:List Nat} (h:w≠[]) (k:Int):(k%(w.length:Int)).toNat<w.length:=by
 have:0<w.length:=SD.mpr h
 have h1:=Yh k (b:=(w.length:Int)) (by omega)
 have h2:=Yb k (b:=(w.length:Int)) (by omega)
 omega
theorem eN {w:List Nat} (h:w≠[]) (k:Int):w[(k%(w.length:Int)).toNat]? =some (rd w k):=by
 unfold rd
 rw[UI,Iw (NP h k)]
 rfl
theorem iW {w:List Nat} (h:w≠[]) (k:Int):rd w k∈w:=WQ (eN h k)
theorem ft (w:List Nat) (k:Int):rd w (k+w.length)=rd w k:=by unfold rd;rw[YM]
theorem g5 (w:List Nat) (k:Int):rd w (k%w.length)=rd w k:=by unfold rd;rw[Zd _ (Int.dvd_refl _)]
theorem me {w:List Nat} {k:Nat} (h:k<w.length):w[k]? =some (rd w k):=by
 have dH:w≠[]:=fun z=>by rw[z]at h;exact absurd h (ZQ _)
 have:=eN dH (k:Int)
 rwa [XJ (by omega) (by omega),UG]at this
theorem vF {w:List Nat} {k:Int} {n:Nat} {c:Nat} (hn:n<w.length) (e:k%(w.length:Int)=n) (h:w[n]? =some c):rd w k=c:=by
 have:=me hn
 rw[h]at this
 rw[<-g5,e]
 exact (Xr this).symm
theorem kT {w:List Nat} {k:Int} (h1: -(w.length:Int)<=k) (h2:k<w.length):m6 w k=some (rd w k):=by
 have dH:w≠[]:=fun z=>by rw[z]at h1 h2;simp at h1 h2;omega
 unfold m6 Em
 by_cases h0:0<=k
 ·rw[if_pos h0,if_pos h2]
  have:=eN dH k
  rw[XJ h0 h2]at this
  exact this
 ·rw[if_neg h0,if_pos h1]
  have:=eN dH (k+w.length)
  rw[ft,XJ (by omega) (by omega)]at this
  exact this
theorem g6 {f:Int->Nat} {p:Nat} (P: ∀k,f (k+p)=f k) (k:Int): ∀t:Nat,f (k+t*p)=f k
 | 0=>by simp
 | t+1=>by
  have:k+((t+1:Nat):Int)*p=k+t*p+p:=by rw[X6,Int.add_mul];simp;omega
  rw[this,P,g6 P k t]
theorem fw {f g:Int->Nat} {p q:Nat} (hp:0<p) (hq:0<q) (Pf: ∀k,f (k+p)=f k) (Pg: ∀k,g (k+q)=g k) (h: ∀n:Nat,n<p+q->f n=g n) (k:Int):f k=g k:=by
 have up: ∀N n:Nat,n<N->f n=g n:=by
  intro N
  induction N with
  | zero=>intro n hn;omega
  | succ N ih=>
   intro n hn
   by_cases z:n<p+q
   ·exact h n z
   ·have e1:f n=f ((n - p:Nat):Int):=by have:=Pf ((n - p:Nat):Int);rwa [show ((n - p:Nat):Int)+p=n by omega]at this
    have e2:g ((n - p:Nat):Int)=g ((n - p - q:Nat):Int):=by have:=Pg ((n - p - q:Nat):Int);rwa [show ((n - p - q:Nat):Int)+q=((n - p:Nat):Int) by omega]at this
    have e3:f ((n - q:Nat):Int)=f ((n - p - q:Nat):Int):=by have:=Pf ((n - p - q:Nat):Int);rwa [show ((n - p - q:Nat):Int)+p=((n - q:Nat):Int) by omega]at this
    have e4:g n=g ((n - q:Nat):Int):=by have:=Pg ((n - q:Nat):Int);rwa [show ((n - q:Nat):Int)+q=n by omega]at this
    rw[e1,ih (n - p) (by omega),e2, <-ih (n - p - q) (by omega), <-e3,ih (n - q) (by omega), <-e4]
 have lX: ∃m:Nat,k+((k.natAbs*q:Nat):Int)*p=m/\k+((k.natAbs*p:Nat):Int)*q=m:=by
  have e1:((k.natAbs*q:Nat):Int)*p=((k.natAbs*(q*p):Nat):Int):=by rw[Nat.mul_assoc k.natAbs q p |>.symm];simp
  have e2:((k.natAbs*p:Nat):Int)*q=((k.natAbs*(q*p):Nat):Int):=by rw[YE q p,Nat.mul_assoc k.natAbs p q |>.symm];simp
  have hle:k.natAbs<=k.natAbs*(q*p):=Nat.le_mul_of_pos_right _ (Nat.mul_pos hq hp)
  generalize k.natAbs*(q*p)=M at e1 e2 hle
  exact ⟨(k+M).toNat,by omega,by omega⟩
 obtain ⟨m,h1,h2⟩:=lX
 rw[<-g6 Pf k (k.natAbs*q),h1, <-g6 Pg k (k.natAbs*p),h2]
 exact up (m+1) m (Yz m)
noncomputable def p8 (f g:Int->Nat):Nat->Nat->Nat
 | 0,i=>i
 | n+1,i=>if f i=g i then p8 f g n (i+1) else i
theorem iX (f g:Int->Nat): ∀n i:Nat,i<=p8 f g n i/\p8 f g n i<=i+n/\(∀j:Nat,i<=j->j<p8 f g n i->f j=g j)/\(p8 f g n i<i+n->f (p8 f g n i)≠g (p8 f g n i))
 | 0,i=>⟨OS _,OS _,fun j h1 h2=>absurd (XN h1 h2) (XY _),fun h=>absurd h (XY _)⟩
 | n+1,i=>by
  unfold p8
  by_cases z:f i=g i
  ·rw[if_pos z]
   obtain ⟨h1,h2,h3,h4⟩:=iX f g n (i+1)
   refine ⟨by omega,by omega,fun j g1 g2=>?_,fun g1=>h4 (by omega)⟩
   by_cases e:j=i
   ·rw[e];exact z
   ·exact h3 j (by omega) g2
  ·rw[if_neg z]
   exact ⟨OS _,by omega,fun j g1 g2=>absurd (XN g1 g2) (XY _),fun _=>z⟩
noncomputable def al (y:List Nat) (f g:Int->Nat) (n:Nat):Nat:=
 if f 0≠g 0\/f (-1)=g (-1) then 0 else
 if gr y (aA (f (-1))) (aA (g (-1))) (f 0)=gr y (f (p8 f g n 0)) (g (p8 f g n 0)) (aA (f ((p8 f g n 0:Nat) - 1))) then p8 f g n 0 else 0
noncomputable def ac (y:List Nat) (a b p q:Nat):Bool:=if p=a\/p=b\/q=a\/q=b then false else (gr y a p b != gr y a q b)
noncomputable def sq (w:List Nat) (i:Int):Int->Nat:=fun n=>rd w (i+n)
noncomputable def bq (v:List Nat) (j:Int):Int->Nat:=fun n=>aA (rd v (j - n))
theorem cZ (w:List Nat) (i k:Int):sq w i (k+w.length)=sq w i k:=by unfold sq;rw[<-Zx,ft]
theorem xJ (w:List Nat) (k:Int):rd w (k - w.length)=rd w k:=by rw[<-ft w (k - w.length)];congr 1;omega
theorem oP (w:List Nat) (i k:Int):bq w i (k+w.length)=bq w i k:=by unfold bq;rw[show i - (k+(w.length:Int))=i - k - w.length by omega,xJ]
theorem g7 {v:List Nat} (h:v≠[]) (k:Int):rd (dA v) k=aA (rd v (-1 - k)):=by
 have lX:0<v.length:=SD.mpr h
 have h1:=Yh k (b:=(v.length:Int)) (by omega)
 have h2:=Yb k (b:=(v.length:Int)) (by omega)
 have e:(-1 - k)%(v.length:Int)=v.length - 1 - k%v.length:=by
  have e1:=ZY k v.length
  have: -1 - k=(v.length - 1 - k%v.length)+v.length*(-(k / v.length) - 1):=by rw[Int.mul_sub,Int.mul_neg];omega
  rw[this,Zo,XJ (by omega) (by omega)]
 generalize hr:k%(v.length:Int)=r at h1 h2 e
 obtain ⟨n,rfl⟩: ∃n:Nat,r=n:=⟨r.toNat,by omega⟩
 have hn:n<v.length:=by omega
 have e2:rd v (-1 - k)=v[v.length - 1 - n]'(by omega):=vF (n:=v.length - 1 - n) (by omega) (by rw[e];omega) (Iw (by omega))
 rw[e2]
 refine vF (n:=n) (by rw[bV];exact hn) (by rw[bV];exact hr) ?_
 unfold dA
 rw[YS (by rw[Kw];exact hn),Kw,Xo,Iw (by omega)]
 rfl
theorem Jh {v:List Nat} (h:v≠[]) (j:Nat):sq (dA v) ((v.length:Int) - 1 - j)=bq v j:=by
 funext n
 unfold sq bq
 rw[g7 h,show -1 - ((v.length:Int) - 1 - j+n)=j - n - v.length by omega,xJ]
structure SW (y w:List Nat):Prop where
 ne:w≠[]
 bE: ∀c∈w,c∈y
 red: ∀k:Int,rd w k≠aA (rd w (k - 1))
theorem SW.rd {y w:List Nat} (h:SW y w) (k:Int):rd w k∈y:=h.bE _ (iW h.ne k)
theorem jo {w v:List Nat} {f g:Int->Nat} (hw:w≠[]) (hv:v≠[]) (pf: ∀k,f (k+w.length)=f k) (pg: ∀k,g (k+v.length)=g k) (h:f (-1)≠g (-1)):p8 f g (w.length+v.length) 0<w.length+v.length/\f (p8 f g (w.length+v.length) 0)≠g (p8 f g (w.length+v.length) 0):=by
 obtain ⟨_,b,c,d⟩:=iX f g (w.length+v.length) 0
 by_cases z:p8 f g (w.length+v.length) 0<w.length+v.length
 ·exact ⟨z,d (by omega)⟩
 ·exact absurd (fw (SD.mpr hw) (SD.mpr hv) pf pg (fun n hn=>c n (WO _) (by omega)) (-1)) h
noncomputable def vG (ws:List (List Nat)):Nat->List (Nat×Nat)
 | 0=>[]
 | n+1=>vG ws n++(List.range (ws.getD n []).length).map fun i=>(n,i)
noncomputable def places (ws:List (List Nat)):List (Nat×Nat):=vG ws ws.length
theorem nP {ws:List (List Nat)}: ∀{n:Nat} {o:Nat×Nat},o∈vG ws n↔o.1<n/\o.2<(ws.getD o.1 []).length
 | 0,o=>by simp[vG]
 | n+1,o=>by
  unfold vG
  rw[Xn,nP (n:=n),XA]
  constructor
  ·rintro (⟨h1,h2⟩ | ⟨i,hi,rfl⟩)
   ·exact ⟨by omega,h2⟩
   ·exact ⟨by simp,Yt.mp hi⟩
  ·rintro ⟨h1,h2⟩
   by_cases z:o.1<n
   ·exact .inl ⟨z,h2⟩
   ·have e:o.1=n:=by omega
    exact .inr ⟨o.2,Yt.mpr (by rw[<-e];exact h2),by rw[<-e]⟩
theorem y9 {ws:List (List Nat)}: ∀n:Nat,(vG ws n).Pairwise fun a b=>Eo a.1 a.2 b.1 b.2=true
 | 0=>List.Pairwise.nil
 | n+1=>by
  unfold vG
  rw[YF]
  refine ⟨y9 n,?_,fun a ha b hb=>?_⟩
  ·rw[Yc]
   refine List.pairwise_lt_range.imp fun {a b} h=>?_
   unfold Eo
   rw[if_pos rfl]
   exact decide_eq_true (by show (a:Int)<b;omega)
  ·obtain ⟨i,hi,rfl⟩:=XA.mp hb
   have:=(nP.mp ha).1
   unfold Eo
   rw[if_neg (by show ¬((a.1:Nat):Int)=(n:Nat);omega)]
   exact decide_eq_true (by show ((a.1:Nat):Int)<(n:Nat);omega)
theorem mf: ∀{a b:List Int},bJ a b=true->bJ b a=false/\a≠b
 | [],[],h=>by simp[bJ]at h
 | [],_::_,h=>⟨rfl,by simp⟩
 | _::_,[],h=>by simp[bJ]at h
 | x::r,z::t,h=>by
  simp only[bJ]at h ⊢
  split at h
  ·rename_i e
   obtain ⟨h1,h2⟩:=mf h
   rw[if_pos e.symm]
   exact ⟨h1,fun q=>h2 (List.cons.inj q).2⟩
  ·rename_i e
   have h':=of_decide_eq_true h
   rw[if_neg (fun q=>e q.symm)]
   exact ⟨decide_eq_false (by omega),fun q=>e (List.cons.inj q).1⟩
noncomputable def iY (n:Nat) (l:List Nat):List Nat:=(List.replicate n l).flatten
def AR (w:List Nat):Prop:= ∀(k a b:Nat),w[k]? =some a->w[k+1]? =some b->b≠aA a
theorem AR.nil:AR []:=fun k a b h=>by simp at h
theorem AR.take {w:List Nat} (h:AR w) (n:Nat):AR (w.take n):=fun k a b h1 h2=>by
 rw[Y2]at h1 h2
 split at h1
 ·split at h2
  ·exact h k a b h1 h2
  ·cases h2
 ·cases h1
theorem AR.snoc {w:List Nat} {c:Nat} (h:AR w) (hc: ∀a,w.getLast? =some a->c≠aA a):AR (w++[c]):=fun k a b h1 h2=>by
 by_cases z:k+1<w.length
 ·rw[XT (by omega)]at h1
  rw[XT z]at h2
  exact h k a b h1 h2
 ·have xr:k+1<(w++[c]).length:=(Iy.mp h2).1
  rw[UD]at xr
  have e:k+1=w.length:=by simp at xr;omega
  rw[XT (by omega)]at h1
  rw[e,Yf (OS _),Nat.sub_self]at h2
  have e2:c=b:=by simpa using h2
  rw[<-e2]
  refine hc a ?_
  rw[YY, show w.length - 1=k by omega]
  exact h1
theorem SW.of {y w:List Nat} (ne:w≠[]) (bE: ∀c∈w,c∈y) (Er:AR w) (hd: ∀a b,w.head? =some a->w.getLast? =some b->a≠aA b):SW y w:=by
 refine ⟨ne,bE,fun k=>?_⟩
 have lX:0<w.length:=SD.mpr ne
 have h1:=Yh k (b:=(w.length:Int)) (by omega)
 have h2:=Yb k (b:=(w.length:Int)) (by omega)
 have hk:=eN ne k
 have KA:=eN ne (k - 1)
 by_cases z:k%(w.length:Int)=0
 ·have e:(k - 1)%(w.length:Int)=w.length - 1:=by
   rw[<-Int.emod_sub_emod,z]
   have:(0:Int) - 1=(w.length - 1)+w.length*(-1):=by omega
   rw[this,Zo,XJ (by omega) (by omega)]
  rw[z]at hk
  rw[e]at KA
  refine hd _ _ ?_ ?_
  ·rw[ZN];exact hk
  ·rw[YY, show w.length - 1=((w.length:Int) - 1).toNat by omega];exact KA
 ·have e:(k - 1)%(w.length:Int)=k%w.length - 1:=by
   rw[<-Int.emod_sub_emod,XJ (by omega) (by omega)]
  rw[e]at KA
  refine Er _ _ _ KA ?_
  rw[show (k%(w.length:Int) - 1).toNat+1=(k%(w.length:Int)).toNat by omega]
  exact hk
theorem SW.Er {y w:List Nat} (h:SW y w):AR w:=fun k a b h1 h2=>by
 have hk:=(Iy.mp h2).1
 have e1:=me (w:=w) (k:=k) (by omega)
 have e2:=me (w:=w) (k:=k+1) hk
 rw[h1]at e1
 rw[h2]at e2
 rw[Xr e1,Xr e2]
 have:=h.red ((k+1:Nat):Int)
 rwa [show (((k+1:Nat):Int) - 1)=(k:Int) by omega]at this
theorem tf {w:List Nat} {n:Nat} (h:w≠[]) (hn:n<=w.length) (k:Int):rd (w.drop n++w.take n) k=rd w (k+n):=by
 have lX:0<w.length:=SD.mpr h
 have hl:(w.drop n++w.take n).length=w.length:=by rw[UD,Xx,Xm];omega
 have h1:=Yh k (b:=(w.length:Int)) (by omega)
 have h2:=Yb k (b:=(w.length:Int)) (by omega)
 have e:(k+n)%(w.length:Int)=(k%w.length+n)%w.length:=by rw[Qag]
 generalize hr:k%(w.length:Int)=r at h1 h2 e
 obtain ⟨m,rfl⟩: ∃m:Nat,r=m:=⟨r.toNat,by omega⟩
 have hm:m<w.length:=by omega
 by_cases z:m+n<w.length
 ·have hg:w[m+n]? =some (rd w (k+n)):=by
   have:=eN h (k+n)
   rwa [e,XJ (by omega) (by omega),show ((m:Int)+n).toNat=m+n by omega]at this
  refine vF (n:=m) (by rw[hl];exact hm) (by rw[hl];exact hr) ?_
  rw[XT (by rw[Xx];omega),Yw,ZL]
  exact hg
 ·have hg:w[m+n - w.length]? =some (rd w (k+n)):=by
   have:=eN h (k+n)
   have e2:((m:Int)+n)%w.length=((m+n - w.length:Nat):Int):=by
    have:(m:Int)+n=((m+n - w.length:Nat):Int)+w.length:=by omega
    rw[this,YM,XJ (by omega) (by omega)]
   rwa [e,e2,UG]at this
  refine vF (n:=m) (by rw[hl];exact hm) (by rw[hl];exact hr) ?_
  rw[Yf (by rw[Xx];omega),Xx,Y2,if_pos (by omega),show m - (w.length - n)=m+n - w.length by omega]
  exact hg
theorem SW.dJ {y w:List Nat} {n:Nat} (h:SW y w) (hn:n<=w.length):SW y (w.drop n++w.take n):=by
 refine ⟨fun z=>h.ne ?_,fun c hc=>?_,fun k=>?_⟩
 ·have l0:(w.drop n++w.take n).length=0:=by rw[z];rfl
  rw[UD,Xx,Xm]at l0
  exact X7.mp (by omega)
 ·exact h.bE c ((Xn.mp hc).elim Zb YV)
 ·rw[tf h.ne hn,tf h.ne hn,show k - 1+n=k+n - 1 by omega]
  exact h.red _
theorem SW.dA {y w:List Nat} (hy:Yd y) (h:SW y w):SW y (dA w):=by
 refine ⟨fun z=>h.ne ?_,fun c hc=>?_,fun k=>?_⟩
 ·have:=bV w
  rw[z]at this
  exact X7.mp this.symm
 ·obtain ⟨d,hd,rfl⟩:=XA.mp (YA.mp hc)
  exact hy.cl d (h.bE d hd)
 ·rw[g7 h.ne,g7 h.ne,show -1 - (k - 1)= -1 - k+1 by omega]
  intro q
  have l1:=hy.lt _ (h.rd (-1 - k))
  have l2:=hy.lt _ (h.rd (-1 - k+1))
  rw[aI l2]at q
  have:=h.red (-1 - k+1)
  rw[show -1 - k+1 - 1= -1 - k by omega]at this
  exact this q.symm
theorem kU (n:Nat) (l:List Nat):iY (n+1) l=l++iY n l:=by unfold iY;rw[Z0,YU]
theorem y_ (n:Nat) (l:List Nat):(iY n l).length=n*l.length:=by
 induction n with
 | zero=>simp[iY]
 | succ n ih=>rw[kU,UD,ih,Zk,ZL]
theorem za {l:List Nat}: ∀{n k:Nat},k<n*l.length->(iY n l)[k]? =l[k%l.length]?
 | 0,k,h=>by simp at h
 | n+1,k,h=>by
  rw[kU]
  by_cases z:k<l.length
  ·rw[XT z,Yy z]
  ·rw[Yf (by omega),za (by rw[Zk]at h;omega),Z_ (by omega:l.length<=k)]
theorem zc {w:List Nat} {n:Nat} (h:w≠[]) (hn:0<n) (k:Int):rd (iY n w) k=rd w k:=by
 have lX:0<w.length:=SD.mpr h
 have hl:=y_ n w
 have SY:0<n*w.length:=Nat.mul_pos hn lX
 have h1:=Yh k (b:=((n*w.length:Nat):Int)) (by omega)
 have h2:=Yb k (b:=((n*w.length:Nat):Int)) (by omega)
 have e:k%(w.length:Int)=(k%((n*w.length:Nat):Int))%w.length:=(Zd k (by rw[Qan];exact Int.dvd_mul_left _ _)).symm
 generalize hr:k%((n*w.length:Nat):Int)=r at h1 h2 e
 obtain ⟨m,rfl⟩: ∃m:Nat,r=m:=⟨r.toNat,by omega⟩
 have hm:m<n*w.length:=by omega
 refine vF (n:=m) (by rw[hl];exact hm) (by rw[hl];exact hr) ?_
 rw[za hm]
 have:=eN h k
 rwa [e,show (((m:Int)%w.length).toNat)=m%w.length by rw[<-ZA,UG]]at this
theorem FJ {w:List Nat} {n c:Nat} (h:c∈iY n w):c∈w:=by
 obtain ⟨l,hl,hc⟩:=List.mem_flatten.mp h
 rwa [List.eq_of_mem_replicate hl]at hc
theorem SW.dz {y w:List Nat} {n:Nat} (h:SW y w) (hn:0<n):SW y (iY n w):=by
 refine ⟨fun z=>?_,fun c hc=>h.bE c (FJ hc),fun k=>by rw[zc h.ne hn,zc h.ne hn];exact h.red k⟩
 have:=y_ n w
 rw[z]at this
 have h2:0<n*w.length:=Nat.mul_pos hn (SD.mpr h.ne)
 simp at this
 omega
theorem SW.twice {y w:List Nat} (h:SW y w):SW y (w++w):=by
 have:=h.dz (n:=2) (by decide)
 rwa [show iY 2 w=w++w by rw[kU,kU];simp[iY]]at this
theorem SW.snoc {y w:List Nat} {c:Nat} (hy:Yd y) (Er:AR w) (bE: ∀a∈w,a∈y) (hc:c∈y) (h1: ∀a,w.getLast? =some a->c≠aA a) (h2: ∀a,w.head? =some a->c≠aA a):SW y (w++[c]):=by
 refine SW.of (by simp) (fun a ha=>?_) (Er.snoc h1) fun a b ha hb=>?_
 ·rcases Xn.mp ha with q | q
  ·exact bE a q
  ·rw[Sz.mp q];exact hc
 ·have eb:b=c:=by simpa using hb.symm
  subst eb
  cases w with
  | nil=>
   have:b=a:=by simpa using ha
   rw[<-this]
   exact fun q=>dX (hy.lt b hc) q.symm
  | cons x r=>
   have:x=a:=by simpa using ha
   subst this
   have hx:x∈y:=bE x Xp
   intro q
   exact h2 x rfl (by rw[q,aI (hy.lt b hc)])
theorem tm {w:List Nat} (h:w≠[]):w.getLast? =some (rd w (-1)):=by
 have lX:0<w.length:=SD.mpr h
 have:=eN h (-1)
 have e:(-1:Int)%(w.length:Int)=w.length - 1:=by
  have e2:(-1:Int)=((w.length:Int) - 1)+w.length*(-1):=by omega
  rw[e2,Zo,XJ (by omega) (by omega)]
 rw[e]at this
 rw[YY, show w.length - 1=((w.length:Int) - 1).toNat by omega]
 exact this
theorem nQ {w:List Nat} (h:w≠[]):w.head? =some (rd w 0):=by
 have:=eN h 0
 rw[ZN]
 simpa using this
theorem AS (w:List Nat): ∃k,j9 w k:=by
 by_cases h:w=[]
 ·exact ⟨0, .inl ⟨h,rfl⟩⟩
 ·obtain ⟨k,_,_,t⟩:=oN h
  exact ⟨k,t⟩
theorem bL.turn {w:List Nat} {s:Nat} (h:bL w s):j9 w s:=by
 obtain ⟨k,t⟩:=AS w
 rw[jm h t];exact t
theorem bL.least {w:List Nat} {s j:Nat} (h:bL w s) (j1:1<=j) (j2:j<s) (hp:wF w j):False:=by
 rcases h.turn with ⟨_,e⟩ | ⟨h1,h2,h3,h4⟩
 ·omega
 ·have hn:w≠[]:=fun z=>by rw[z]at h2;simp at h2;omega
  exact h4 j j1 j2 ((gj hn (by omega)).mpr hp)
theorem SW.U5 {y w:List Nat} (hy:Yd y) (h:SW y w):xF w:=Cq fun k a b ha hb e=>by
 have Bw:b∈y:=h.bE b (WQ hb)
 have:=h.Er k a b ha hb
 rw[e,aI (hy.lt b Bw)]at this
 exact this rfl
theorem SW.core {y w:List Nat} (hy:Yd y) (h:SW y w):My.core (My.red w)=w:=by
 rw[Co (h.U5 hy)]
 by_cases z:w.length<2
 ·exact gY z
 ·obtain ⟨a,m,e,hw⟩:=Cr (l:=w) (by omega)
  have h0:=nQ h.ne
  have h1:=tm h.ne
  have hr:=h.red 0
  rw[show (0:Int) - 1= -1 by omega]at hr
  rw[hw]at h0 h1 hr ⊢
  have e0:a=My.rd (a::(m++[e])) 0:=Xr h0
  have e1:e=My.rd (a::(m++[e])) (-1):=by
   have:(a::(m++[e])).getLast? =some e:=by rw[<-List.cons_append,List.getLast?_append];rfl
   exact Xr (this.symm.trans h1)
  exact md (by rw[<-e0, <-e1]at hr;exact hr)
theorem tu {w:List Nat} {k:Nat} (hk:k<=w.length) (i:Nat):Fw (dJ w k) i=Fw w (i+k):=by
 by_cases z:w=[]
 ·subst z
  unfold Fw dJ
  simp
 ·have hp:0<w.length:=SD.mpr z
  have e:Fw (dJ w k) i=(dJ w k)[i%w.length]?:= by unfold Fw;rw[cC]
  rw[e,nN hk (Y1 _ hp),Ct]
theorem ze {w:List Nat} {k s:Nat} (hk:k<=w.length) (hn:w≠[]):wF (dJ w k) s↔wF w s:=by
 constructor
 ·intro h i
  have h1:=h (i+(w.length - k))
  rw[tu hk,tu hk]at h1
  have e1:i+(w.length - k)+s+k=i+s+w.length:=by omega
  have e2:i+(w.length - k)+k=i+w.length:=by omega
  rw[e1,e2,wF.whole w,wF.whole w]at h1
  exact h1
 ·intro h i
  rw[tu hk,tu hk,show i+s+k=i+k+s by omega]
  exact h _
theorem q9 {w:List Nat} (hn:w≠[]) {s:Nat} (h:bL w s):j9 w s:=by
 obtain ⟨k,r,_,g⟩:=oN hn
 rw[jm h g]
 exact g
theorem Cz {w:List Nat} {k s:Nat} (hk:k<=w.length) (hn:w≠[]) (h:j9 (dJ w k) s):j9 w s:=by
 have uR:dJ w k≠[]:=fun z=>hn (X7.mp (by have:=cC w k;rw[z]at this;exact this.symm))
 rcases h with ⟨z,_⟩ | ⟨h1,h2,h3,h4⟩
 ·exact absurd z uR
 ·rw[cC]at h2
  refine .inr ⟨h1,h2,(gj hn h2).mpr ((ze hk hn).mp ((gj uR (by rw[cC];exact h2)).mp h3)),fun j j1 j2 j3=>h4 j j1 j2 ?_⟩
  exact (gj uR (by rw[cC];omega)).mpr ((ze hk hn).mpr ((gj hn (by omega)).mp j3))
theorem AU {y w:List Nat} {s t:Nat} (hy:Yd y) (h:SW y w) (hr:bL (dG w) s) (hw:bL w t):s=t/\(dG w).length=w.length:=by
 have e:dG w=fE w:=by unfold dG;rw[h.core hy]
 obtain ⟨k,ek⟩:=qZ w
 have xr: ∃k,k<=w.length/\fE w=dJ w k:=by
  by_cases z:k<=w.length
  ·exact ⟨k,z,ek⟩
  ·refine ⟨w.length,OS _,?_⟩
   rw[ek]
   unfold dJ
   rw[Yu (by omega),Xz (by omega),List.drop_length,Yq]
 obtain ⟨k,hk,ek⟩:=xr
 rw[e,ek]at hr ⊢
 have uR:dJ w k≠[]:=fun z=>h.ne (X7.mp (by have:=cC w k;rw[z]at this;exact this.symm))
 refine ⟨?_,cC w k⟩
 exact (jm hw (Cz hk h.ne (q9 uR hr))).symm
theorem zf {w:List Nat} (hn:w≠[]): ∃s,bL w s:=by
 obtain ⟨k,r,_,g⟩:=oN hn
 rcases g with ⟨z,_⟩ | ⟨h1,h2,h3,h4⟩
 ·exact absurd z hn
 ·exact ⟨k, .inr ⟨h1,h2,q5 hn h1 h2 h3 h4,fun j j1 j2 j3=>h4 j j1 j2 (sZ j1 (by omega) j3)⟩⟩
theorem CA {w:List Nat} {s t:Nat} (hn:w≠[]) (h:bL w s) (g:bL w t):s=t:=jm h (q9 hn g)
theorem tw {a b:List Nat} {e:Nat} (hn:(a++b).Nodup) (he:e∈a++b):(b++a).idxOf e=if (a++b).idxOf e<a.length then (a++b).idxOf e+b.length else (a++b).idxOf e - a.length:=by
 rw[Ye]at hn
 obtain ⟨na,nb,U6⟩:=hn
 by_cases z:e∈a
 ·have zb:e∉b:=fun q=>U6 e z e q rfl
  rw[Zt,Zt,if_pos z,if_neg zb,if_pos (SA z)]
 ·have zb:e∈b:=(Xn.mp he).resolve_left z
  rw[Zt,Zt,if_pos zb,if_neg z,if_neg (by omega)]
  omega
structure KJ (y:List Nat) (ws:List (List Nat)):Prop where
 sw: ∀w∈ws,SW y w/\w.length<=12
 wD:ws.length<=4
 all:(places ws).length<=24
theorem getD_in {ws:List (List Nat)} {c:Nat} (h:c<ws.length):ws.getD c []∈ws:=by
 rw[UI,Iw h];exact XF h
def iZ (_:PySem.W.Frag):Sp:=fun vs H Q _=> ∃(w:List Nat) (i:Nat),vs=[.str (S w), .int i]/\(∀c∈w,Lt c)/\w.length<=1000/\i<w.length/\ ∀q H',H q=none->H' q=some (.tup [.str (S [aA (rd w ((i:Int) - 1))]), .str (S [rd w i])])->aq H H'->Q (.ref q) H'
theorem nh {K:PySem.W.Frag} {vs:List V} {H:Hp} {Q:VK} {E:XK} (h:iZ K vs H Q E):vs.length=2:=by obtain ⟨_,_,rfl,_⟩:=h;rfl
def q_ (_:PySem.W.Frag):Sp:=fun vs H Q _=> ∃(b:Addr) (y:List Nat) (top:Nat),vs=[.ref b, .str (S y), .int top]/\bY H b/\Yd y/\2<=y.length/\y.length<=8/\1<=top/\top<=100/\ ∀(w:List Nat) H',SW y w->w.length<=top->bY H' b->aT b H H'->Q (.str (S w)) H'
theorem xK {K:PySem.W.Frag} {vs:List V} {H:Hp} {Q:VK} {E:XK} (h:q_ K vs H Q E):vs.length=3:=by obtain ⟨_,_,_,rfl,_⟩:=h;rfl
def vH (_:PySem.W.Frag):Sp:=fun vs H Q _=> ∃(b:Addr) (y w:List Nat) (top:Nat),vs=[.ref b, .str (S y), .str (S w), .int top]/\bY H b/\Yd y/\2<=y.length/\y.length<=8/\1<=top/\top<=100/\SW y w/\w.length<=top/\ ∀(u:List Nat) H',SW y u->u.length<=top->bY H' b->aT b H H'->Q (.str (S u)) H'
theorem AV {K:PySem.W.Frag} {vs:List V} {H:Hp} {Q:VK} {E:XK} (h:vH K vs H Q E):vs.length=4:=by obtain ⟨_,_,_,_,rfl,_⟩:=h;rfl
theorem tD {ws:List (List Nat)} {m:Nat} (h: ∀w∈ws,w.length<=m): ∀n:Nat,n<=ws.length->(vG ws n).length<=n*m
 | 0,_=>WO _
 | n+1,hn=>by
  unfold vG
  have:=tD h n (by omega)
  have h2:=h _ (getD_in (ws:=ws) (c:=n) (by omega))
  rw[UD,Kw,Zs,Zk]
  omega
theorem CB {α:Type} (w:List α):cut w none (some (-1))=w.take (w.length - 1):=by
 unfold cut
 rw[HT.kA,Jf]
 simp
structure Wd (y w:List Nat):Prop where
 Er:AR w
 bE: ∀c∈w,c∈y
theorem Wd.more {y w:List Nat} {c:Nat} (h:Wd y w) (hc:c∈y) (hn:w≠[]->c≠aA (rd w (-1))):Wd y (w++[c]):=
 ⟨h.Er.snoc fun a ha=>by
  have dH:w≠[]:=fun z=>by rw[z]at ha;simp at ha
  rw[tm dH]at ha
  rw[<-Xr ha]
  exact hn dH,fun a ha=>by
  rcases Xn.mp ha with g | g
  ·exact h.bE a g
  ·rw[Sz.mp g];exact hc⟩
theorem Wd.sw {y w:List Nat} (h:Wd y w) (dH:w≠[]) (he:rd w 0≠aA (rd w (-1))):SW y w:=
 SW.of dH h.bE h.Er fun a b ha hb=>by
  rw[nQ dH]at ha
  rw[tm dH]at hb
  rw[<-Xr ha, <-Xr hb]
  exact he
theorem Wd.one {y w:List Nat} (hy:Yd y) (h:Wd y w) (h1:w.length=1):SW y w:=by
 have dH:w≠[]:=fun z=>by rw[z]at h1;simp at h1
 refine h.sw dH ?_
 have e:rd w 0=rd w (-1):=by
  have:=ft w (-1)
  rw[h1]at this
  exact this
 rw[<-e]
 exact fun q=>dX (hy.lt _ (h.bE _ (iW dH 0))) q.symm
theorem tE {y w u:List Nat} (hw:SW y w) (hu:SW y u) (lw:w.length<=12) (lu:u.length<=12):KJ y [w,u]:=by
 refine ⟨fun x hx=>?_,by show 2<=4;decide,?_⟩
 ·rcases UE.mp hx with g | g
  ·rw[g];exact ⟨hw,lw⟩
  ·rw[Sz.mp g];exact ⟨hu,lu⟩
 ·have:=tD (ws:=[w,u]) (m:=12) (fun x hx=>by
   rcases UE.mp hx with g | g
   ·rw[g];exact lw
   ·rw[Sz.mp g];exact lu) 2 (OS _)
  exact this
noncomputable def vI (y:List Nat) (a b:Nat):Int:=((y.idxOf b:Int) - (y.idxOf a:Int))%(y.length:Int)
noncomputable def eO (y:List Nat) (f:Int->Nat) (k:Int):Int:=vI y (aA (f (k - 1))) (f k)
structure gG (y:List Nat) (f:Int->Nat):Prop where
 bE: ∀k,f k∈y
 red: ∀k,f k≠aA (f (k - 1))
structure Run (f g:Int->Nat) (a b:Nat):Prop where
 mh: ∀k:Int, -(b:Int)<=k->k<=a->f k=g k
 hi:f (a+1)≠g (a+1)
 lo:f (-(b:Int) - 1)≠g (-(b:Int) - 1)
noncomputable def jC (f:Int->Nat):Int->Nat:=fun k=>aA (f (-k))
noncomputable def dj (f:Int->Nat):Int->Nat:=fun k=>f (k - 1)
noncomputable def gk (y:List Nat) (f g:Int->Nat) (a:Nat):Bool:=decide (eO y f (a+1)<eO y g (a+1))
noncomputable def gy (y:List Nat) (f g:Int->Nat) (b:Nat):Bool:=decide (eO y f (-(b:Int))<eO y g (-(b:Int)))
noncomputable def uF (x a b:Nat):Bool:=decide (b<a\/(a=b/\aB x=false))
noncomputable def xM (y:List Nat) (f g:Int->Nat) (a b:Nat):Bool:=if uF (f 0) a b=true then gy y f g b else gk y f g a
theorem Run.one {f g:Int->Nat} {a b a' b':Nat} (h:Run f g a b) (h':Run f g a' b'):a=a'/\b=b':=by
 constructor
 ·by_cases z:a<a'
  ·exact absurd (h'.mh (a+1) (by omega) (by omega)) h.hi
  ·by_cases z2:a'<a
   ·exact absurd (h.mh (a'+1) (by omega) (by omega)) h'.hi
   ·omega
 ·by_cases z:b<b'
  ·exact absurd (h'.mh (-(b:Int) - 1) (by omega) (by omega)) h.lo
  ·by_cases z2:b'<b
   ·exact absurd (h.mh (-(b':Int) - 1) (by omega) (by omega)) h'.lo
   ·omega
theorem Run.bk {f g:Int->Nat} {a b:Nat} (h:Run f g a (b+1)):Run (dj f) (dj g) (a+1) b:=
 ⟨fun k h1 h2=>h.mh (k - 1) (by omega) (by omega),fun z=>h.hi (by
  unfold dj at z
  rwa [show ((a+1:Nat):Int)+1 - 1=a+1 by omega]at z),fun z=>h.lo (by
  unfold dj at z
  rwa [show -(b:Int) - 1 - 1= -((b+1:Nat):Int) - 1 by omega]at z)⟩
theorem Run.fd {f g:Int->Nat} {a b:Nat} (h:Run (dj f) (dj g) (a+1) b):Run f g a (b+1):=
 ⟨fun k h1 h2=>by
  have:=h.mh (k+1) (by omega) (by omega)
  unfold dj at this
  rwa [show k+1 - 1=k by omega]at this,fun z=>h.hi (by
  unfold dj
  rwa [show ((a+1:Nat):Int)+1 - 1=a+1 by omega]),fun z=>h.lo (by
  unfold dj
  rwa [show -(b:Int) - 1 - 1= -((b+1:Nat):Int) - 1 by omega])⟩
theorem nR (y:List Nat) (f:Int->Nat) (k:Int):eO y (dj f) k=eO y f (k - 1):=rfl
theorem kW (y:List Nat) (f g:Int->Nat) (a:Nat):gk y (dj f) (dj g) (a+1)=gk y f g a:=by
 unfold gk
 rw[nR,nR,show ((a+1:Nat):Int)+1 - 1=a+1 by omega]
theorem kX (y:List Nat) (f g:Int->Nat) (b:Nat):gy y (dj f) (dj g) b=gy y f g (b+1):=by
 unfold gy
 rw[nR,nR,show -(b:Int) - 1= -((b+1:Nat):Int) by omega]
theorem CC {x z a b:Nat} (h:uF x a (b+1)=true):uF z (a+1) b=true:=by
 unfold uF at h ⊢
 have:=of_decide_eq_true h
 exact decide_eq_true (by omega)
theorem eQ {y:List Nat} {a b:Nat} (ha:a∈y) (hb:b∈y) (h:a≠b):0<vI y a b/\vI y a b<y.length/\vI y b a=y.length - vI y a b:=by
 have ia:=SA ha
 have ib:=SA hb
 have n:=bR ha hb h
 unfold vI
 rw[iU ia ib,iU ib ia]
 generalize y.idxOf a=i at*
 generalize y.idxOf b=j at*
 split<;>split<;>omega
theorem kY {y:List Nat} {a b c:Nat} (ha:a∈y) (hb:b∈y) (hc:c∈y) (h:vI y a b=vI y a c):b=c:=by
 have ia:=SA ha
 have ib:=SA hb
 have ic:=SA hc
 refine Classical.byContradiction fun z=>bR hb hc z ?_
 unfold vI at h
 rw[iU ia ib,iU ia ic]at h
 split at h<;>split at h<;>omega
theorem gG.rv {y:List Nat} {f:Int->Nat} (hy:Yd y) (h:gG y f):gG y (jC f):=⟨fun k=>hy.cl _ (h.bE _),fun k z=>by
 unfold jC at z
 have e:=aI (hy.lt _ (h.bE (-(k - 1))))
 rw[e]at z
 have:=h.red (-(k - 1))
 rw[show -(k - 1) - 1= -k by omega]at this
 exact this z.symm⟩
theorem mX {y:List Nat} {f:Int->Nat} (hy:Yd y) (h:gG y f):jC (jC f)=f:=by
 funext k
 unfold jC
 rw[aI (hy.lt _ (h.bE _)),Int.neg_neg]
theorem i0 {y:List Nat} {f:Int->Nat} (hy:Yd y) (h:gG y f) (k:Int):eO y (jC f) (k+1)=y.length - eO y f (-k):=by
 unfold eO jC
 rw[show k+1 - 1=k by omega,aI (hy.lt _ (h.bE _)),show -(k+1)= -k - 1 by omega]
 exact (eQ (hy.cl _ (h.bE _)) (h.bE _) (Ne.symm (h.red _))).2.2
theorem Run.rv {y:List Nat} {f g:Int->Nat} {a b:Nat} (hy:Yd y) (hf:gG y f) (hg:gG y g) (h:Run f g a b):Run (jC f) (jC g) b a:=
 ⟨fun k h1 h2=>by unfold jC;rw[h.mh _ (by omega) (by omega)],fun z=>h.lo (by
  unfold jC at z
  have:=dY (hy.lt _ (hf.bE _)) (hy.lt _ (hg.bE _)) z
  rwa [show -((b:Int)+1)= -(b:Int) - 1 by omega]at this),fun z=>h.hi (by
  unfold jC at z
  have:=dY (hy.lt _ (hf.bE _)) (hy.lt _ (hg.bE _)) z
  rwa [show -(-(a:Int) - 1)=a+1 by omega]at this)⟩
theorem fI: ∀c∈aE++iD,aB (aA c)=!aB c:=by decide+kernel
theorem Ji {y:List Nat} {f g:Int->Nat} {a b:Nat} (hy:Yd y) (hf:gG y f) (hg:gG y g) (h0:f 0=g 0):xM y (jC g) (jC f) b a=xM y f g a b:=by
 have e1:gy y (jC g) (jC f) a=gk y f g a:=by
  unfold gy gk
  have h1:=i0 hy hf (-(a:Int) - 1)
  have h2:=i0 hy hg (-(a:Int) - 1)
  rw[show -(a:Int) - 1+1= -a by omega,show -(-(a:Int) - 1)=a+1 by omega]at h1 h2
  rw[h1,h2]
  exact decide_eq_decide.mpr (by omega)
 have e2:gk y (jC g) (jC f) b=gy y f g b:=by
  unfold gy gk
  rw[i0 hy hf,i0 hy hg]
  exact decide_eq_decide.mpr (by omega)
 unfold xM
 rw[e1,e2]
 have e3:uF (jC g 0) b a=!uF (f 0) a b:=by
  unfold uF jC
  rw[show (-0:Int)=0 from rfl, <-h0,fI _ (hy.lt _ (hf.bE 0)).mem]
  rw[<-decide_not]
  refine decide_eq_decide.mpr ?_
  cases aB (f 0)
  ·simp;omega
  ·simp;omega
 rw[e3]
 cases uF (f 0) a b<;>rfl
def uB (y:List Nat) (f g:Int->Nat):Prop:= ∃a b,Run f g a b/\uF (f 0) a b=true/\gk y f g a≠gy y f g b
def gM (y:List Nat) (f g:Int->Nat):Prop:= ∃a,Run f g a 0/\gk y f g a≠gy y f g 0
open Classical in
noncomputable def one (p:Prop):Int:=if p then 1 else 0
theorem fF {p:Prop} (h:p):one p=1:=by unfold one;rw[if_pos h]
theorem a_ {p:Prop} (h: ¬p):one p=0:=by unfold one;rw[if_neg h]
theorem bp {p q:Prop} (h:p↔q):one p=one q:=by rw[propext h]
theorem Run.zero {f g:Int->Nat} {a b:Nat} (h:Run f g a b):f 0=g 0:=h.mh 0 (by omega) (by omega)
theorem CD {y:List Nat} {f g:Int->Nat} {e0 e1:Bool} {m:Prop}
  (r0:f 0=g 0-> ∃a b,Run f g a b) (r1:f (-1)=g (-1)-> ∃a b,Run (dj f) (dj g) a b)
  (h0: ∀a b,Run f g a b->e0=xM y f g a b) (h1: ∀a b,Run (dj f) (dj g) a b->e1=xM y (dj f) (dj g) a b)
  (ma:f 0=g 0->f (-1)≠g (-1)->(m↔e0≠gy y f g 0)) (mb:f (-1)=g (-1)->f 0≠g 0->(m↔e1≠gk y (dj f) (dj g) 0)) (mc:f (-1)=g (-1)->f 0=g 0->(m↔e1≠e0))
  (t:f 0=g 0\/f (-1)=g (-1)):one m=one (gM y f g)+one (uB y (dj f) (dj g)) - one (uB y f g):=by
 have hb: ∀{a b},Run (dj f) (dj g) a b->f (-1)=g (-1):=fun h=>h.zero
 by_cases z0:f 0=g 0
 ·obtain ⟨a,b,r⟩:=r0 z0
  have e:=h0 a b r
  unfold xM at e
  have hu:uB y f g↔(uF (f 0) a b=true/\gk y f g a≠gy y f g b):=⟨fun ⟨a',b',r',x⟩=>by obtain ⟨rfl,rfl⟩:=r.one r';exact x,fun x=>⟨a,b,r,x⟩⟩
  by_cases z1:f (-1)=g (-1)
  ·cases b with
   | zero=>exact absurd z1 r.lo
   | succ b=>
    have r2:=r.bk
    have e2:=h1 _ _ r2
    unfold xM at e2
    have Jj:uB y (dj f) (dj g)↔(uF (dj f 0) (a+1) b=true/\gk y f g a≠gy y f g (b+1)):=⟨fun ⟨a',b',r',x⟩=>by
     obtain ⟨rfl,rfl⟩:=r2.one r'
     rw[kW,kX]at x;exact x,fun x=>⟨_,_,r2,by rw[kW,kX];exact x⟩⟩
    rw[kW,kX]at e2
    have NQ: ¬gM y f g:=fun ⟨a',r',_⟩=>absurd (r.one r').2 (Za b)
    rw[a_ NQ,bp hu,bp Jj,bp (mc z1 z0),e,e2]
    have mono:= @CC (f 0) (dj f 0) a b
    generalize uF (f 0) a (b+1)=B0 at*
    generalize uF (dj f 0) (a+1) b=B1 at*
    generalize gk y f g a=A at*
    generalize gy y f g (b+1)=C at*
    revert mono
    cases B0<;>cases B1<;>cases A<;>cases C<;>simp[one]
  ·have b0:b=0:=by
    cases b with
    | zero=>rfl
    | succ b=>exact absurd (r.mh (-1) (by omega) (by omega)) z1
   subst b0
   have Jj: ¬uB y (dj f) (dj g):=fun ⟨_,_,r',_⟩=>z1 (hb r')
   have NQ:gM y f g↔gk y f g a≠gy y f g 0:=⟨fun ⟨a',r',x⟩=>by obtain ⟨rfl,_⟩:=r.one r';exact x,fun x=>⟨a,r,x⟩⟩
   rw[a_ Jj,bp NQ,bp hu,bp (ma z0 z1),e]
   generalize uF (f 0) a 0=B0 at*
   generalize gk y f g a=A at*
   generalize gy y f g 0=C at*
   cases B0<;>cases A<;>cases C<;>simp[one]
 ·have z1:=t.resolve_left z0
  obtain ⟨a,b,r⟩:=r1 z1
  have a0:a=0:=by
   cases a with
   | zero=>rfl
   | succ a=>exact absurd (r.fd.zero) z0
  subst a0
  have e:=h1 _ _ r
  unfold xM at e
  have U7: ¬uB y f g:=fun ⟨_,_,r',_⟩=>z0 r'.zero
  have NQ: ¬gM y f g:=fun ⟨_,r',_⟩=>z0 r'.zero
  have Jj:uB y (dj f) (dj g)↔(uF (dj f 0) 0 b=true/\gk y (dj f) (dj g) 0≠gy y (dj f) (dj g) b):=⟨fun ⟨a',b',r',x⟩=>by
   obtain ⟨rfl,rfl⟩:=r.one r';exact x,fun x=>⟨_,_,r,x⟩⟩
  rw[a_ U7,a_ NQ,bp Jj,bp (mb z1 z0),e]
  generalize uF (dj f 0) 0 b=B0 at*
  generalize gk y (dj f) (dj g) 0=A at*
  generalize gy y (dj f) (dj g) b=C at*
  cases B0<;>cases A<;>cases C<;>simp[one]
theorem dq {f g:Int->Nat} {p q:Nat} (hp:0<p) (hq:0<q) (Pf: ∀k,f (k+p)=f k) (Pg: ∀k,g (k+q)=g k) (h0:f 0=g 0) (hn: ∃k,f k≠g k): ∃a b,Run f g a b/\a<p+q/\b<p+q:=by
 obtain ⟨k0,S0⟩:=hn
 have up: ∃a:Nat,a<p+q/\(∀j:Nat,j<a->f (j+1)=g (j+1))/\f (a+1)≠g (a+1):=by
  obtain ⟨_,b,c,d⟩:=iX (fun k=>f (k+1)) (fun k=>g (k+1)) (p+q) 0
  by_cases z:p8 (fun k=>f (k+1)) (fun k=>g (k+1)) (p+q) 0<p+q
  ·exact ⟨_,z,fun j hj=>c j (WO _) hj,d (by omega)⟩
  ·refine absurd ?_ S0
   have:=fw (f:=fun k=>f (k+1)) (g:=fun k=>g (k+1)) hp hq (fun k=>by rw[show k+(p:Int)+1=k+1+p by omega];exact Pf _) (fun k=>by rw[show k+(q:Int)+1=k+1+q by omega];exact Pg _) (fun n hn=>c n (WO _) (by omega)) (k0 - 1)
   rwa [show k0 - 1+1=k0 by omega]at this
 have U8: ∀k,f (-(k+p))=f (-k):=fun k=>by have:=Pf (-(k+p));rw[<-this];congr 1;omega
 have U9: ∀k,g (-(k+q))=g (-k):=fun k=>by have:=Pg (-(k+q));rw[<-this];congr 1;omega
 have dn: ∃a:Nat,a<p+q/\(∀j:Nat,j<a->f (-(j:Int) - 1)=g (-(j:Int) - 1))/\f (-(a:Int) - 1)≠g (-(a:Int) - 1):=by
  obtain ⟨_,b,c,d⟩:=iX (fun k=>f (-k - 1)) (fun k=>g (-k - 1)) (p+q) 0
  by_cases z:p8 (fun k=>f (-k - 1)) (fun k=>g (-k - 1)) (p+q) 0<p+q
  ·exact ⟨_,z,fun j hj=>c j (WO _) hj,d (by omega)⟩
  ·refine absurd ?_ S0
   have:=fw (f:=fun k=>f (-k - 1)) (g:=fun k=>g (-k - 1)) hp hq (fun k=>by have:=U8 (k+1);rw[show -(k+(p:Int)) - 1= -(k+1+p) by omega,this];congr 1;omega) (fun k=>by have:=U9 (k+1);rw[show -(k+(q:Int)) - 1= -(k+1+q) by omega,this];congr 1;omega) (fun n hn=>c n (WO _) (by omega)) (-k0 - 1)
   rwa [show -(-k0 - 1) - 1=k0 by omega]at this
 obtain ⟨a,ha,a1,a2⟩:=up
 obtain ⟨b,hb,b1,b2⟩:=dn
 refine ⟨a,b,⟨fun k h1 h2=>?_,a2,b2⟩,ha,hb⟩
 by_cases z:k=0
 ·rw[z];exact h0
 ·by_cases z2:0<k
  ·obtain ⟨j,rfl⟩: ∃j:Nat,k=j+1:=⟨(k - 1).toNat,by omega⟩
   exact a1 j (by omega)
  ·obtain ⟨j,rfl⟩: ∃j:Nat,k= -(j:Int) - 1:=⟨(-k - 1).toNat,by omega⟩
   exact b1 j (by omega)
theorem CF {y:List Nat} {p p' x:Nat} (hy:Yd y) (hp:p∈y) (xN:p'∈y) (hx:x∈y) (h1:p≠p') (h2:p≠x) (h3:p'≠x):decide (vI y p x<vI y p' x)=!gr y p p' x:=by
 have ip:=SA hp
 have U_:=SA xN
 have ix:=SA hx
 have n1:=bR hp xN h1
 have n2:=bR hp hx h2
 have n3:=bR xN hx h3
 rw[di hy.nd hp xN hx h1 h2 h3]
 unfold vI
 rw[iU ip ix,iU U_ ix, <-decide_not]
 refine decide_eq_decide.mpr ?_
 unfold iF
 split<;>split<;>omega
theorem tF {y:List Nat} {f g:Int->Nat} (hy:Yd y) (hf:gG y f) (hg:gG y g) (h0:f 0=g 0) (h1:f (-1)≠g (-1)):gy y f g 0=!gr y (aA (f (-1))) (aA (g (-1))) (f 0):=by
 have e:gy y f g 0=decide (vI y (aA (f (-1))) (f 0)<vI y (aA (g (-1))) (g 0)):=rfl
 rw[e, <-h0]
 have r1:=hf.red 0
 have r2:=hg.red 0
 rw[show (0:Int) - 1= -1 by omega]at r1 r2
 exact CF hy (hy.cl _ (hf.bE _)) (hy.cl _ (hg.bE _)) (hf.bE 0) (fun z=>h1 (dY (hy.lt _ (hf.bE _)) (hy.lt _ (hg.bE _)) z)) (Ne.symm r1) (by rw[h0];exact Ne.symm r2)
theorem tG {y:List Nat} {f g:Int->Nat} {a:Nat} (h:f a=g a):gk y f g a=gr y (aA (f a)) (f (a+1)) (g (a+1)):=by
 unfold gk eO
 rw[show (a:Int)+1 - 1=a by omega, <-h]
 rfl
theorem zg {y:List Nat} {f g:Int->Nat} {n:Nat} (hy:Yd y) (hf:gG y f) (hg:gG y g) (hd:f (-1)≠g (-1)->p8 f g n 0<n/\f (p8 f g n 0)≠g (p8 f g n 0)):gM y f g↔0<al y f g n:=by
 unfold al
 by_cases z:f 0≠g 0\/f (-1)=g (-1)
 ·rw[if_pos z]
  refine ⟨fun ⟨a,r,_⟩=>?_,fun h=>absurd h (XY _)⟩
  rcases z with z | z
  ·exact absurd r.zero z
  ·exact absurd z r.lo
 ·rw[if_neg z]
  have z0:f 0=g 0:=Classical.byContradiction fun q=>z (.inl q)
  have z1:f (-1)≠g (-1):=fun q=>z (.inr q)
  obtain ⟨d1,d2⟩:=hd z1
  obtain ⟨_,_,d3,_⟩:=iX f g n 0
  generalize p8 f g n 0=D at*
  cases D with
  | zero=>exact absurd z0 d2
  | succ a=>
   have r:Run f g a 0:=⟨fun k h1 h2=>by
    obtain ⟨j,rfl⟩: ∃j:Nat,k=j:=⟨k.toNat,by omega⟩
    exact d3 j (WO _) (by omega),d2,z1⟩
   have e1:((a+1:Nat):Int)=(a:Int)+1:=by omega
   rw[e1,show (a:Int)+1 - 1=a by omega]
   have O1:=d3 a (WO _) (Yz a)
   have rf:=hf.red (a+1)
   have rg:=hg.red (a+1)
   rw[show (a:Int)+1 - 1=a by omega]at rf rg
   have Va:f (a+1)≠g (a+1):=d2
   have eg:=FI hy.nd (hy.cl _ (hf.bE a)) (hf.bE (a+1)) (hg.bE (a+1)) (Ne.symm rf) (by rw[O1];exact Ne.symm rg) Va
   rw[eg, <-tG O1]
   have eb:=tF hy hf hg z0 z1
   have key:gM y f g↔gk y f g a≠gy y f g 0:=⟨fun ⟨a',r',x⟩=>by obtain ⟨rfl,_⟩:=r.one r';exact x,fun x=>⟨a,r,x⟩⟩
   rw[key,eb]
   generalize gr y (aA (f (-1))) (aA (g (-1))) (f 0)=G
   generalize gk y f g a=A
   cases G<;>cases A<;>simp
noncomputable def ni (a b a' b':Nat):Bool:=decide (iF a a' b) != decide (iF a b' b)
theorem i3 (a b a' b':Nat):ni a b a' b'=ni a b b' a':=by unfold ni;generalize decide (iF a a' b)=p;generalize decide (iF a b' b)=q;cases p<;>cases q<;>rfl
theorem vJ (a b:Nat):ni a b a b=false:=by
 unfold ni
 have h1: ¬iF a a b:=by unfold iF;omega
 have h2: ¬iF a b b:=by unfold iF;omega
 rw[decide_eq_false h1,decide_eq_false h2]
 rfl
theorem jq {a b:Nat} (h:a≠b):decide (b<a)=!decide (a<b):=by
 rcases YK h with q | q
 ·rw[decide_eq_true q,decide_eq_false (Zl q)];rfl
 ·rw[decide_eq_true q,decide_eq_false (Zl q)];rfl
theorem Hh {a b c:Nat} (h1:a≠b) (h2:b≠c) (h3:a≠c):decide (iF a b c)=!(decide (a<b) ^^ (decide (b<c) ^^ decide (c<a))):=by
 have e:decide (iF a b c)=((decide (a<b)&&decide (b<c))||((decide (b<c)&&decide (c<a))||(decide (c<a)&&decide (a<b)))):=by
  rw[<-Qao, <-Qao, <-Qao, <-Bool.decide_or, <-Bool.decide_or]
  exact decide_eq_decide.mpr Iff.rfl
 rw[e]
 have k1:decide (a<b)=true->decide (b<c)=true->decide (c<a)=true->False:=fun p q r=>Zl (YX (of_decide_eq_true p) (of_decide_eq_true q)) (of_decide_eq_true r)
 have k2:decide (b<a)=true->decide (c<b)=true->decide (a<c)=true->False:=fun p q r=>Zl (YX (of_decide_eq_true q) (of_decide_eq_true p)) (of_decide_eq_true r)
 rw[jq h1,jq h2,jq (Ne.symm h3)]at k2
 revert k1 k2
 generalize decide (a<b)=p
 generalize decide (b<c)=q
 generalize decide (c<a)=r
 revert p q r
 decide
theorem CG {a b a' b':Nat} (h1:a≠b) (h3:a≠a') (h4:a≠b') (h5:b≠a') (h6:b≠b'):ni a b a' b'=((decide (a<a') ^^ decide (a'<b)) ^^ (decide (a<b') ^^ decide (b'<b))):=by
 unfold ni
 rw[Hh h3 (Ne.symm h5) h1,Hh h4 (Ne.symm h6) h1]
 generalize decide (a<a')=p
 generalize decide (a'<b)=q
 generalize decide (a<b')=r
 generalize decide (b'<b)=s
 generalize decide (b<a)=t
 revert p q r s t
 decide
theorem kZ {a b a' b':Nat} (h1:a≠b) (h2:a'≠b') (h3:a≠a') (h4:a≠b') (h5:b≠a') (h6:b≠b'):ni a b a' b'=ni a' b' a b:=by
 rw[CG h1 h3 h4 h5 h6,CG h2 (Ne.symm h3) (Ne.symm h5) (Ne.symm h4) (Ne.symm h6),jq h3,jq (Ne.symm h6)]
 generalize decide (a<a')=p
 generalize decide (a'<b)=q
 generalize decide (a<b')=r
 generalize decide (b'<b)=s
 revert p q r s
 decide
theorem vK {a b a' b':Nat} (h1:a≠b) (h2:a'≠b') (h3:a≠a') (h4:a≠b') (h5:b≠a') (h6:b≠b'):ni b a a' b'=ni a b a' b':=by
 rw[kZ (Ne.symm h1) h2 h5 h6 h3 h4,i3,kZ h2 h1 (Ne.symm h3) (Ne.symm h5) (Ne.symm h4) (Ne.symm h6)]
theorem FK {a b c i j k:Nat} (n1:i≠j) (n2:i≠k) (n3:j≠k) (h1:i<j->a<b) (h2:j<i->b<a) (h3:i<k->a<c) (h4:k<i->c<a) (h5:j<k->b<c) (h6:k<j->c<b):iF a b c↔iF i j k:=by
 have e: ∀{i j a b:Nat},i≠j->(i<j->a<b)->(j<i->b<a)->(i<j↔a<b):=fun {i j a b} n f g=>⟨f,fun q=>(YK n).elim id fun r=>absurd (g r) (Zl q)⟩
 unfold iF
 rw[e n1 h1 h2,e n3 h5 h6,e (Ne.symm n2) h4 h3]
def Sep (y:List Nat) (ps:List (Nat×Nat)):Prop:= ∀p∈ps, ∀q∈ps,y.idxOf p.1<y.idxOf q.1->p.2<q.2
theorem Sep.iF {y:List Nat} {ps:List (Nat×Nat)} (h:Sep y ps) {a b c:Nat×Nat} (ha:a∈ps) (hb:b∈ps) (hc:c∈ps) (n1:y.idxOf a.1≠y.idxOf b.1) (n2:y.idxOf a.1≠y.idxOf c.1) (n3:y.idxOf b.1≠y.idxOf c.1):My.iF a.2 b.2 c.2↔My.iF (y.idxOf a.1) (y.idxOf b.1) (y.idxOf c.1):=FK n1 n2 n3 (h a ha b hb) (h b hb a ha) (h a ha c hc) (h c hc a ha) (h b hb c hc) (h c hc b hb)
theorem Sep.gr {y:List Nat} {ps:List (Nat×Nat)} (h:Sep y ps) (hn:y.Nodup) {a b c:Nat×Nat} (ha:a∈ps) (hb:b∈ps) (hc:c∈ps) (ya:a.1∈y) (yb:b.1∈y) (yc:c.1∈y) (n1:a.1≠b.1) (n2:a.1≠c.1) (n3:b.1≠c.1):decide (My.iF a.2 b.2 c.2)=My.gr y a.1 b.1 c.1:=by
 rw[di hn ya yb yc n1 n2 n3]
 exact decide_eq_decide.mpr (h.iF ha hb hc (bR ya yb n1) (bR ya yc n2) (bR yb yc n3))
theorem Sep.same {y:List Nat} {ps:List (Nat×Nat)} (h:Sep y ps) {a b c:Nat×Nat} (ha:a∈ps) (hb:b∈ps) (hc:c∈ps) (e:b.1=c.1) (n:y.idxOf a.1≠y.idxOf c.1):My.iF a.2 b.2 c.2↔b.2<c.2:=by
 have h1:=h a ha b hb
 have h2:=h b hb a ha
 have h3:=h a ha c hc
 have h4:=h c hc a ha
 rw[e]at h1 h2
 unfold My.iF
 omega
theorem Sep.Hi {y:List Nat} {ps:List (Nat×Nat)} (h:Sep y ps) {a b c:Nat×Nat} (ha:a∈ps) (hb:b∈ps) (hc:c∈ps) (e:a.1=b.1) (n:y.idxOf a.1≠y.idxOf c.1):My.iF a.2 b.2 c.2↔a.2<b.2:=by
 have h1:=h b hb c hc
 have h2:=h c hc b hb
 have h3:=h a ha c hc
 have h4:=h c hc a ha
 rw[<-e]at h1 h2
 unfold My.iF
 omega
section
variable {y:List Nat} {f g:Int->Nat} {a b a' b':Nat}
theorem Jk (hy:Yd y) (hf:gG y f) (hg:gG y g) (h:Sep y [(aA (f (-1)),a),(f 0,b),(aA (g (-1)),a'),(g 0,b')]) (hb:b≠b') (z0:f 0=g 0) (z1:f (-1)≠g (-1)):ni a b a' b'=true↔decide (b<b')≠gy y f g 0:=by
 have r1:=hf.red 0
 have r2:=hg.red 0
 rw[show (0:Int) - 1= -1 by omega]at r1 r2
 have ya:=hy.cl _ (hf.bE (-1))
 have O2:=hy.cl _ (hg.bE (-1))
 have n1:aA (f (-1))≠aA (g (-1)):=fun z=>z1 (dY (hy.lt _ (hf.bE _)) (hy.lt _ (hg.bE _)) z)
 have e1:=h.gr hy.nd (a:=(aA (f (-1)),a)) (b:=(aA (g (-1)),a')) (c:=(f 0,b)) (by simp) (by simp) (by simp) ya O2 (hf.bE 0) n1 (Ne.symm r1) (by rw[z0];exact Ne.symm r2)
 have e2:=h.same (a:=(aA (f (-1)),a)) (b:=(g 0,b')) (c:=(f 0,b)) (by simp) (by simp) (by simp) z0.symm (bR ya (hf.bE 0) (Ne.symm r1))
 unfold ni
 rw[tF hy hf hg z0 z1]
 simp only at e1 e2
 rw[e1]
 generalize gr y (aA (f (-1))) (aA (g (-1))) (f 0)=G
 by_cases q:b<b'
 ·rw[decide_eq_true q,decide_eq_false (by rw[e2];omega)]
  cases G<;>simp
 ·rw[decide_eq_false q,decide_eq_true (by rw[e2];omega)]
  cases G<;>simp
theorem Jl (hy:Yd y) (hf:gG y f) (hg:gG y g) (h:Sep y [(aA (f (-1)),a),(f 0,b),(aA (g (-1)),a'),(g 0,b')]) (ha:a≠a') (z1:f (-1)=g (-1)) (z0:f 0≠g 0):ni a b a' b'=true↔decide (a'<a)≠gk y (dj f) (dj g) 0:=by
 have r1:=hf.red 0
 have r2:=hg.red 0
 rw[show (0:Int) - 1= -1 by omega]at r1 r2
 have ya:=hy.cl _ (hf.bE (-1))
 have O2:=hy.cl _ (hg.bE (-1))
 have e1:=h.Hi (a:=(aA (f (-1)),a)) (b:=(aA (g (-1)),a')) (c:=(f 0,b)) (by simp) (by simp) (by simp) (by show aA _=aA _;rw[z1]) (bR ya (hf.bE 0) (Ne.symm r1))
 have e2:=h.gr hy.nd (a:=(aA (f (-1)),a)) (b:=(g 0,b')) (c:=(f 0,b)) (by simp) (by simp) (by simp) ya (hg.bE 0) (hf.bE 0) (by show aA _≠_;rw[z1];exact Ne.symm r2) (Ne.symm r1) (Ne.symm z0)
 have e3:gk y (dj f) (dj g) 0=gr y (aA (f (-1))) (f 0) (g 0):=tG (f:=dj f) (g:=dj g) (a:=0) z1
 have e4:=Cw hy.nd ya (hf.bE 0) (hg.bE 0) (Ne.symm r1) (by rw[z1];exact Ne.symm r2) z0
 unfold ni
 simp only at e1 e2
 rw[e3,e2,e4]
 generalize gr y (aA (f (-1))) (f 0) (g 0)=G
 by_cases q:a'<a
 ·rw[decide_eq_true q,decide_eq_false (by rw[e1];omega)]
  cases G<;>simp
 ·rw[decide_eq_false q,decide_eq_true (by rw[e1];omega)]
  cases G<;>simp
theorem tH (hy:Yd y) (hf:gG y f) (hg:gG y g) (h:Sep y [(aA (f (-1)),a),(f 0,b),(aA (g (-1)),a'),(g 0,b')]) (ha:a≠a') (hb:b≠b') (z1:f (-1)=g (-1)) (z0:f 0=g 0):ni a b a' b'=true↔decide (a'<a)≠decide (b<b'):=by
 have r1:=hf.red 0
 rw[show (0:Int) - 1= -1 by omega]at r1
 have ya:=hy.cl _ (hf.bE (-1))
 have e1:=h.Hi (a:=(aA (f (-1)),a)) (b:=(aA (g (-1)),a')) (c:=(f 0,b)) (by simp) (by simp) (by simp) (by show aA _=aA _;rw[z1]) (bR ya (hf.bE 0) (Ne.symm r1))
 have e2:=h.same (a:=(aA (f (-1)),a)) (b:=(g 0,b')) (c:=(f 0,b)) (by simp) (by simp) (by simp) z0.symm (bR ya (hf.bE 0) (Ne.symm r1))
 unfold ni
 simp only at e1 e2
 rw[decide_eq_decide.mpr e1,decide_eq_decide.mpr e2]
 by_cases q:a'<a<;>by_cases q2:b<b'
 ·rw[decide_eq_true q,decide_eq_true q2,decide_eq_false (show ¬a<a' by omega),decide_eq_false (show ¬b'<b by omega)];simp
 ·rw[decide_eq_true q,decide_eq_false q2,decide_eq_false (show ¬a<a' by omega),decide_eq_true (show b'<b by omega)];simp
 ·rw[decide_eq_false q,decide_eq_true q2,decide_eq_true (show a<a' by omega),decide_eq_false (show ¬b'<b by omega)];simp
 ·rw[decide_eq_false q,decide_eq_false q2,decide_eq_true (show a<a' by omega),decide_eq_true (show b'<b by omega)];simp
theorem Jm (hy:Yd y) (hf:gG y f) (hg:gG y g) (h:Sep y [(aA (f (-1)),a),(f 0,b),(aA (g (-1)),a'),(g 0,b')]) (z0:f 0≠g 0) (z1:f (-1)≠g (-1)) (z2:aA (f (-1))≠g 0) (z3:aA (g (-1))≠f 0):ni a b a' b'=ac y (aA (f (-1))) (f 0) (aA (g (-1))) (g 0):=by
 have r1:=hf.red 0
 have r2:=hg.red 0
 rw[show (0:Int) - 1= -1 by omega]at r1 r2
 have ya:=hy.cl _ (hf.bE (-1))
 have O2:=hy.cl _ (hg.bE (-1))
 have n1:aA (f (-1))≠aA (g (-1)):=fun z=>z1 (dY (hy.lt _ (hf.bE _)) (hy.lt _ (hg.bE _)) z)
 have e1:=h.gr hy.nd (a:=(aA (f (-1)),a)) (b:=(aA (g (-1)),a')) (c:=(f 0,b)) (by simp) (by simp) (by simp) ya O2 (hf.bE 0) n1 (Ne.symm r1) z3
 have e2:=h.gr hy.nd (a:=(aA (f (-1)),a)) (b:=(g 0,b')) (c:=(f 0,b)) (by simp) (by simp) (by simp) ya (hg.bE 0) (hf.bE 0) z2 (Ne.symm r1) (Ne.symm z0)
 unfold ni ac
 simp only at e1 e2
 rw[e1,e2,if_neg (fun q=>q.elim (fun q=>n1 q.symm) fun q=>q.elim z3 fun q=>q.elim (fun q=>z2 q.symm) fun q=>z0 q.symm)]
end
noncomputable def sm:Nat->(Int->Int)->Int
 | 0,_=>0
 | n+1,h=>sm n h+h n
theorem aH {h g:Int->Int}: ∀{n:Nat},(∀i:Nat,i<n->h i=g i)->sm n h=sm n g
 | 0,_=>rfl
 | n+1,e=>by
  show sm n h+h n=sm n g+g n
  rw[aH fun i hi=>e i (by omega),e n (by omega)]
theorem oQ (h g:Int->Int): ∀n:Nat,sm n (fun i=>h i+g i)=sm n h+sm n g
 | 0=>rfl
 | n+1=>by
  show sm n _+(h n+g n)=(sm n h+h n)+(sm n g+g n)
  rw[oQ h g n];omega
theorem xO (h g:Int->Int): ∀n:Nat,sm n (fun i=>h i - g i)=sm n h - sm n g
 | 0=>rfl
 | n+1=>by
  show sm n _+(h n - g n)=(sm n h+h n) - (sm n g+g n)
  rw[xO h g n];omega
theorem fJ: ∀n:Nat,sm n (fun _=>0)=0
 | 0=>rfl
 | n+1=>by show sm n _+0=0;rw[fJ n];rfl
theorem zh (h:Int->Int): ∀n:Nat,sm n (fun i=>h (i - 1))+h ((n:Int) - 1)=sm n h+h (-1)
 | 0=>rfl
 | n+1=>by
  have:=zh h n
  show sm n _+h ((n:Int) - 1)+h (((n+1:Nat):Int) - 1)=(sm n h+h n)+h (-1)
  rw[show ((n+1:Nat):Int) - 1=n by omega]
  omega
theorem oR {h:Int->Int} {n:Nat} (P: ∀k,h (k+n)=h k):sm n (fun i=>h (i - 1))=sm n h:=by
 have h1:=zh h n
 have h2:=P (-1)
 rw[show (-1:Int)+n=(n:Int) - 1 by omega]at h2
 omega
theorem zi (h:Int->Int): ∀n:Nat,sm n (fun i=>h ((n:Int) - 1 - i))=sm n h
 | 0=>rfl
 | n+1=>by
  have e: ∀(m:Nat) (g:Int->Int),sm (m+1) g=g 0+sm m (fun i=>g (i+1)):=fun m=>by
   induction m with
   | zero=>intro g;show (0:Int)+g 0=g 0+0;omega
   | succ m ih=>intro g;show sm (m+1) g+g ((m+1:Nat):Int)=g 0+(sm m (fun i=>g (i+1))+g ((m:Int)+1));rw[ih];rw[show ((m+1:Nat):Int)=(m:Int)+1 by omega];omega
  rw[e]
  have:=zi h n
  show h (((n+1:Nat):Int) - 1 - 0)+sm n (fun i=>h (((n+1:Nat):Int) - 1 - (i+1)))=sm n h+h n
  rw[show ((n+1:Nat):Int) - 1 - 0=n by omega, <-this,Int.add_comm]
  congr 1
  exact aH fun i _=>by congr 1;omega
theorem nS {h:Int->Int} {n:Nat} (P: ∀k,h (k+n)=h k):sm n (fun i=>h (i+1))=sm n h:=by
 have:=oR (h:=fun i=>h (i+1)) (n:=n) (fun k=>by show h (k+n+1)=h (k+1);rw[<-P (k+1)];congr 1;omega)
 rw[<-this]
 exact aH fun i _=>by show h ((i:Int) - 1+1)=h i;congr 1;omega
theorem oS {h:Int->Int} {n:Nat} (P: ∀k,h (k+n)=h k):sm n (fun i=>h (-i))=sm n h:=by
 rw[<-zi (fun i=>h (-i)) n, <-nS P]
 exact aH fun i _=>by
  show h (-((n:Int) - 1 - i))=h (i+1)
  rw[<-P (-((n:Int) - 1 - i))];congr 1;omega
theorem Jn {h:Int->Int} {n:Nat} (P: ∀k,h (k+n)=h k):sm n (fun i=>h (1 - i))=sm n h:=by
 rw[<-nS P, <-oS (h:=fun i=>h (i+1)) (fun k=>by show h (k+n+1)=h (k+1);rw[<-P (k+1)];congr 1;omega)]
 exact aH fun i _=>by show h (1 - (i:Int))=h (-(i:Int)+1);congr 1;omega
noncomputable def bZ (n m:Nat) (h:Int->Int->Int):Int:=sm n fun i=>sm m fun j=>h i j
theorem br {n m:Nat} {h g:Int->Int->Int} (e: ∀i j:Nat,i<n->j<m->h i j=g i j):bZ n m h=bZ n m g:=aH fun i hi=>aH fun j hj=>e i j hi hj
theorem cu (n m:Nat) (h g:Int->Int->Int):bZ n m (fun i j=>h i j+g i j)=bZ n m h+bZ n m g:=by
 unfold bZ
 rw[<-oQ]
 exact aH fun i _=>oQ _ _ _
theorem FL (n m:Nat) (h g:Int->Int->Int):bZ n m (fun i j=>h i j - g i j)=bZ n m h - bZ n m g:=by
 unfold bZ
 rw[<-xO]
 exact aH fun i _=>xO _ _ _
theorem rh {n m:Nat} {h:Int->Int->Int} (P: ∀i j,h (i+n) j=h i j) (Q: ∀i j,h i (j+m)=h i j):bZ n m (fun i j=>h (i - 1) (j - 1))=bZ n m h:=by
 unfold bZ
 have e: ∀i:Int,sm m (fun j=>h i (j - 1))=sm m (h i):=fun i=>oR (Q i)
 rw[<-oR (h:=fun i=>sm m fun j=>h i j) (n:=n) (fun k=>aH fun j _=>P k j)]
 exact aH fun i _=>e _
structure KL (y:List Nat) (n:Nat) (F:Int->Int->Nat) (o i:Int->Nat):Prop where
 pos:0<n
 xP: ∀k,gG y (F k)
 bk: ∀k,dj (F k)=F (k - 1)
 NR: ∀k,F (k+n)=F k
 own: ∀k x,F k (x+n)=F k x
 op: ∀k,o (k+n)=o k
 ip: ∀k,i (k+n)=i k
structure Hj (y:List Nat) (F:Int->Int->Nat) (o i:Int->Nat) (G:Int->Int->Nat) (o' i':Int->Nat):Prop where
 sep: ∀s t,Sep y [(aA (F s (-1)),i (s - 1)),(F s 0,o s),(aA (G t (-1)),i' (t - 1)),(G t 0,o' t)]
 on: ∀s t a b,Run (F s) (G t) a b->o s≠o' t/\i s≠i' t/\decide (o s<o' t)=xM y (F s) (G t) a b/\decide (i' t<i s)=xM y (F s) (G t) a b
def CH (F G:Int->Int->Nat) (s t:Int):Prop:=F s 0=G t 0\/F s (-1)=G t (-1)
def par (F G:Int->Int->Nat) (s t:Int):Prop:= ∀k,F s k=G t k
noncomputable def FN (o i o' i':Int->Nat) (s t:Int):Bool:=ni (i (s - 1)) (o s) (i' (t - 1)) (o' t)
theorem CI {y:List Nat} {n m:Nat} {F G:Int->Int->Nat} {o i o' i':Int->Nat} (hF:KL y n F o i) (hG:KL y m G o' i') {s t:Int}:par F G (s - 1) (t - 1)↔par F G s t:=by
 unfold par
 rw[<-hF.bk, <-hG.bk]
 unfold dj
 exact ⟨fun h k=>by have:=h (k+1);rwa [show k+1 - 1=k by omega]at this,fun h k=>h _⟩
theorem zj {y:List Nat} {n m:Nat} {F G:Int->Int->Nat} {o i o' i':Int->Nat} (hy:Yd y) (hF:KL y n F o i) (hG:KL y m G o' i') (h:Hj y F o i G o' i'):
  bZ n m (fun s t=>one (CH F G s t/\FN o i o' i' s t=true/\ ¬par F G s t))=bZ n m fun s t=>one (gM y (F s) (G t)):=by
 have pt: ∀s t:Int,one (CH F G s t/\FN o i o' i' s t=true/\ ¬par F G s t)=one (gM y (F s) (G t))+one (uB y (F (s - 1)) (G (t - 1))) - one (uB y (F s) (G t)):=fun s t=>by
  by_cases hp:par F G s t
  ·have nr: ∀{a b}, ¬Run (F s) (G t) a b:=fun r=>r.hi (hp _)
   have xN:=(CI hF hG).mpr hp
   have Vb: ∀{a b}, ¬Run (F (s - 1)) (G (t - 1)) a b:=fun r=>r.hi (xN _)
   rw[a_ (fun z=>z.2.2 hp),a_ (fun ⟨_,r,_⟩=>nr r),a_ (fun ⟨_,_,r,_⟩=>Vb r),a_ (fun ⟨_,_,r,_⟩=>nr r)]
   rfl
  ·by_cases ht:CH F G s t
   ·have dH: ∃k,F s k≠G t k:=Classical.byContradiction fun z=>hp fun k=>Classical.byContradiction fun q=>z ⟨k,q⟩
    have Jo: ∃k,F (s - 1) k≠G (t - 1) k:=Classical.byContradiction fun z=>hp ((CI hF hG).mp fun k=>Classical.byContradiction fun q=>z ⟨k,q⟩)
    have e1: ∀s,F (s - 1) 0=F s (-1):=fun s=>by rw[<-hF.bk];rfl
    have e2: ∀t,G (t - 1) 0=G t (-1):=fun s=>by rw[<-hG.bk];rfl
    have ei:one (CH F G s t/\FN o i o' i' s t=true/\ ¬par F G s t)=one (FN o i o' i' s t=true):=bp ⟨fun z=>z.2.1,fun z=>⟨ht,z,hp⟩⟩
    rw[ei, <-hF.bk, <-hG.bk]
    refine CD (e0:=decide (o s<o' t)) (e1:=decide (i' (t - 1)<i (s - 1))) (fun z=>?_) (fun z=>?_) (fun a b r=>(h.on s t a b r).2.2.1) (fun a b r=>?_) (fun z0 z1=>?_) (fun z1 z0=>?_) (fun z1 z0=>?_) ht
    ·obtain ⟨a,b,r,_⟩:=dq hF.pos hG.pos (hF.own s) (hG.own t) z dH
     exact ⟨a,b,r⟩
    ·obtain ⟨a,b,r,_⟩:=dq hF.pos hG.pos (hF.own (s - 1)) (hG.own (t - 1)) (by rw[e1,e2];exact z) Jo
     rw[hF.bk,hG.bk]
     exact ⟨a,b,r⟩
    ·rw[hF.bk,hG.bk]at r ⊢
     exact (h.on _ _ a b r).2.2.2
    ·obtain ⟨a,b,r,_⟩:=dq hF.pos hG.pos (hF.own s) (hG.own t) z0 dH
     exact Jk hy (hF.xP s) (hG.xP t) (h.sep s t) (h.on s t a b r).1 z0 z1
    ·obtain ⟨a,b,r,_⟩:=dq hF.pos hG.pos (hF.own (s - 1)) (hG.own (t - 1)) (by rw[e1,e2];exact z1) Jo
     exact Jl hy (hF.xP s) (hG.xP t) (h.sep s t) (h.on _ _ a b r).2.1 z1 z0
    ·obtain ⟨a,b,r,_⟩:=dq hF.pos hG.pos (hF.own s) (hG.own t) z0 dH
     obtain ⟨a2,b2,r2,_⟩:=dq hF.pos hG.pos (hF.own (s - 1)) (hG.own (t - 1)) (by rw[e1,e2];exact z1) Jo
     exact tH hy (hF.xP s) (hG.xP t) (h.sep s t) (h.on _ _ a2 b2 r2).2.1 (h.on s t a b r).1 z1 z0
   ·have t0:F s 0≠G t 0:=fun z=>ht (.inl z)
    have t1:F (s - 1) 0≠G (t - 1) 0:=by
     rw[<-hF.bk, <-hG.bk]
     exact fun z=>ht (.inr z)
    rw[a_ (fun z=>ht z.1),a_ (fun ⟨_,r,_⟩=>t0 r.zero),a_ (fun ⟨_,_,r,_⟩=>t1 r.zero),a_ (fun ⟨_,_,r,_⟩=>t0 r.zero)]
    rfl
 have e:bZ n m (fun s t=>one (CH F G s t/\FN o i o' i' s t=true/\ ¬par F G s t))=bZ n m (fun s t=>(one (gM y (F s) (G t))+one (uB y (F (s - 1)) (G (t - 1)))) - one (uB y (F s) (G t))):=br fun s t _ _=>pt s t
 rw[e,FL,cu,rh (h:=fun s t=>one (uB y (F s) (G t))) (fun s t=>by rw[hF.NR]) (fun s t=>by rw[hG.NR])]
 omega
theorem aY {y w:List Nat} (h:SW y w) (i:Int):gG y (sq w i):=⟨fun k=>h.rd _,fun k=>by
 unfold sq
 have:=h.red (i+k)
 rwa [show i+k - 1=i+(k - 1) by omega]at this⟩
theorem dZ (w:List Nat) (i:Int):jC (sq w i)=bq w i:=by
 funext k
 unfold jC sq bq
 rw[show i+ -k=i - k by omega]
theorem fu {y w:List Nat} (hy:Yd y) (h:SW y w) (i:Int):gG y (bq w i):=by rw[<-dZ];exact (aY h i).rv hy
theorem ka (w:List Nat) (i:Int):sq w (i+w.length)=sq w i:=by
 funext k
 unfold sq
 rw[show i+(w.length:Int)+k=i+k+w.length by omega,ft]
theorem i4 (w:List Nat) (i:Int):bq w (i+w.length)=bq w i:=by rw[<-dZ, <-dZ,ka]
theorem Jp (w:List Nat) (i:Int):bq w (i - w.length)=bq w i:=by rw[<-i4 w (i - w.length)];congr 1;omega
theorem CJ {y w:List Nat} {po pi:Int->Nat} (h:SW y w) (P: ∀k,po (k+w.length)=po k) (Q: ∀k,pi (k+w.length)=pi k):KL y w.length (sq w) po pi:=
 ⟨SD.mpr h.ne,aY h,fun k=>by funext x;unfold dj sq;congr 1;omega,ka w,fun k x=>cZ w k x,P,Q⟩
theorem zk {n:Nat} {h:Int->Nat} (P: ∀k,h (k+n)=h k) (k:Int):h (-(k+n))=h (-k):=by rw[<-P (-(k+n))];congr 1;omega
theorem Jq {y w:List Nat} {po pi:Int->Nat} (hy:Yd y) (h:SW y w) (P: ∀k,po (k+w.length)=po k) (Q: ∀k,pi (k+w.length)=pi k):KL y w.length (fun k=>bq w (-k)) (fun k=>pi (-k)) (fun k=>po (-k)):=
 ⟨SD.mpr h.ne,fun k=>fu hy h _,fun k=>by funext x;unfold dj bq;congr 2;omega,fun k=>by
  show bq w (-(k+w.length))=bq w (-k)
  rw[<-i4 w (-(k+w.length))];congr 1;omega,fun k x=>oP w _ x,zk Q,zk P⟩
section
variable {y w v:List Nat} {po pi qo qi:Int->Nat}
noncomputable def iG (po pi qo qi:Int->Nat) (i j:Int):Bool:=ni (pi (i - 1)) (po i) (qi (j - 1)) (qo j)
def bN (w v:List Nat) (i j:Int):Prop:= ∀k,sq w i k=sq v j k
def kc (w v:List Nat) (i j:Int):Prop:= ∀k,sq w i k=bq v (j - 1) k
def KN (w v:List Nat) (i j:Int):Prop:=rd w i=rd v j\/rd w (i - 1)=rd v (j - 1)
def zm (w v:List Nat) (i j:Int):Prop:=rd w i=aA (rd v (j - 1))\/rd w (i - 1)=aA (rd v j)
theorem FO (w v:List Nat) (i j:Int):CH (sq w) (sq v) i j↔KN w v i j:=by
 unfold CH KN sq
 rw[show i+0=i by omega,show j+0=j by omega]
 rfl
theorem FP (w v:List Nat) (i k:Int):CH (sq w) (fun k=>bq v (-k)) i k↔zm w v i (1 - k):=by
 unfold CH zm sq bq
 show rd w (i+0)=aA (rd v (-k - 0))\/rd w (i+ -1)=aA (rd v (-k - -1))↔_
 rw[show i+0=i by omega,show -k - 0=1 - k - 1 by omega,show -k - -1=1 - k by omega]
 rfl
theorem Rc (hy:Yd y) (hw:SW y w) (hv:SW y v) {i j:Int} (h:KN w v i j) (g:zm w v i j):False:=by
 have uV:=hw.red i
 have S3:=hv.red j
 have l1:=hy.lt _ (hw.rd (i - 1))
 have l2:=hy.lt _ (hv.rd (j - 1))
 have l3:=hy.lt _ (hv.rd j)
 rcases h with h | h<;>rcases g with g | g
 ·exact S3 (h.symm.trans g)
 ·rw[<-h]at g;exact uV (by rw[g,aI (hy.lt _ (hw.rd i))])
 ·rw[<-h]at g;exact uV g
 ·rw[h]at g;exact S3 (by rw[g,aI l3])
theorem vL (hy:Yd y) (hw:SW y w) (hv:SW y v) (P1: ∀k,po (k+w.length)=po k) (P2: ∀k,pi (k+w.length)=pi k) (Q1: ∀k,qo (k+v.length)=qo k) (Q2: ∀k,qi (k+v.length)=qi k)
  (hS:Hj y (sq w) po pi (sq v) qo qi) (hO:Hj y (sq w) po pi (fun k=>bq v (-k)) (fun k=>qi (-k)) (fun k=>qo (-k))):
  bZ w.length v.length (fun i j=>one (iG po pi qo qi i j=true))=
   bZ w.length v.length (fun i j=>one (ac y (aA (rd w (i - 1))) (rd w i) (aA (rd v (j - 1))) (rd v j)=true))+bZ w.length v.length (fun i j=>one (0<al y (sq w i) (sq v j) (w.length+v.length)))+bZ w.length v.length (fun i j=>one (0<al y (sq w i) (bq v j) (w.length+v.length)))
   +bZ w.length v.length (fun i j=>one (bN w v i j/\iG po pi qo qi i j=true))+bZ w.length v.length (fun i j=>one (kc w v i j/\iG po pi qo qi i j=true)):=by
 have fw:=CJ hw P1 P2
 have fv:=CJ hv Q1 Q2
 have fo:=Jq hy hv Q1 Q2
 have s1:=zj hy fw fv hS
 have s2:=zj hy fw fo hO
 have e1:bZ w.length v.length (fun s t=>one (gM y (sq w s) (sq v t)))=bZ w.length v.length (fun i j=>one (0<al y (sq w i) (sq v j) (w.length+v.length))):=br fun i j _ _=>bp (zg hy (aY hw _) (aY hv _) fun z=>jo hw.ne hv.ne (fun k=>cZ w i k) (fun k=>cZ v j k) z)
 have e2:bZ w.length v.length (fun s t=>one (gM y (sq w s) (bq v (-t))))=bZ w.length v.length (fun i j=>one (0<al y (sq w i) (bq v j) (w.length+v.length))):=by
  have:bZ w.length v.length (fun s t=>one (gM y (sq w s) (bq v (-t))))=bZ w.length v.length (fun s t=>one (gM y (sq w s) (bq v t))):=aH fun i _=>oS (h:=fun t=>one (gM y (sq w i) (bq v t))) fun k=>by rw[i4]
  rw[this]
  exact br fun i j _ _=>bp (zg hy (aY hw _) (fu hy hv _) fun z=>jo hw.ne hv.ne (fun k=>cZ w i k) (fun k=>oP v j k) z)
 have e3:bZ w.length v.length (fun s t=>one (CH (sq w) (fun k=>bq v (-k)) s t/\FN po pi (fun k=>qi (-k)) (fun k=>qo (-k)) s t=true/\ ¬par (sq w) (fun k=>bq v (-k)) s t))=bZ w.length v.length (fun i j=>one (zm w v i j/\iG po pi qo qi i j=true/\ ¬kc w v i j)):=by
  have P: ∀i:Int, ∀k:Int,(fun j=>one (zm w v i j/\iG po pi qo qi i j=true/\ ¬kc w v i j)) (k+v.length)=(fun j=>one (zm w v i j/\iG po pi qo qi i j=true/\ ¬kc w v i j)) k:=fun i k=>by
   show one (zm w v i (k+v.length)/\iG po pi qo qi i (k+v.length)=true/\ ¬kc w v i (k+v.length))=_
   unfold zm iG kc
   rw[show k+(v.length:Int) - 1=k - 1+v.length by omega,ft,ft,Q1,Q2,i4]
  refine aH fun i _=>(aH fun k _=>?_).trans (Jn (P i))
  refine bp ?_
  rw[FP]
  have ec:FN po pi (fun k=>qi (-k)) (fun k=>qo (-k)) i k=iG po pi qo qi i (1 - k):=by
   unfold FN iG
   rw[i3]
   show ni (pi ((i:Int) - 1)) (po i) (qi (-(k:Int))) (qo (-((k:Int) - 1)))=_
   rw[show -((k:Int) - 1)=1 - k by omega,show (1:Int) - k - 1= -k by omega]
  have ep:par (sq w) (fun k=>bq v (-k)) i k↔kc w v i (1 - k):=by
   unfold par kc
   rw[show (1:Int) - k - 1= -k by omega]
  rw[ec,ep]
 rw[e1]at s1
 rw[e2,e3]at s2
 rw[<-s1, <-s2, <-cu, <-cu, <-cu, <-cu]
 refine br fun i j _ _=>?_
 have hc:FN po pi qo qi i j=iG po pi qo qi i j:=rfl
 have et:=FO w v i j
 have pS:bN w v i j->KN w v i j:=fun z=> .inl (by have:=z 0;unfold sq at this;rwa [show (i:Int)+0=i by omega,show (j:Int)+0=j by omega]at this)
 have pO:kc w v i j->zm w v i j:=fun z=> .inl (by have:=z 0;unfold sq bq at this;rwa [show (i:Int)+0=i by omega,show (j:Int) - 1 - 0=j - 1 by omega]at this)
 have Vc:KN w v i j-> ¬ac y (aA (rd w (i - 1))) (rd w i) (aA (rd v (j - 1))) (rd v j)=true:=fun z=>by
  unfold ac
  rw[if_pos (z.elim (fun z=> .inr (.inr (.inr z.symm))) fun z=> .inl (by rw[z]))]
  decide
 have Vd:zm w v i j-> ¬ac y (aA (rd w (i - 1))) (rd w i) (aA (rd v (j - 1))) (rd v j)=true:=fun z=>by
  unfold ac
  rw[if_pos (z.elim (fun z=> .inr (.inl z.symm)) fun z=> .inr (.inr (.inl (by rw[z,aI (hy.lt _ (hv.rd _))]))))]
  decide
 have ep:par (sq w) (sq v) i j↔bN w v i j:=Iff.rfl
 by_cases tS:KN w v i j
 ·have nO: ¬zm w v i j:=fun z=>Rc hy hw hv tS z
  rw[a_ (Vc tS),a_ (p:=zm w v i j/\_) (fun z=>nO z.1),a_ (p:=kc w v i j/\_) (fun z=>nO (pO z.1))]
  by_cases c:iG po pi qo qi i j=true
  ·by_cases q:bN w v i j
   ·rw[fF c,a_ (fun z=>z.2.2 q),fF ⟨q,c⟩];rfl
   ·rw[fF c,fF ⟨et.mpr tS,c,q⟩,a_ (fun z=>q z.1)];rfl
  ·rw[a_ c,a_ (fun z=>c z.2.1),a_ (fun z=>c z.2)];rfl
 ·rw[a_ (p:=CH _ _ _ _/\_) (fun z=>tS (et.mp z.1)),a_ (p:=bN w v i j/\_) (fun z=>tS (pS z.1))]
  by_cases tO:zm w v i j
  ·rw[a_ (Vd tO)]
   by_cases c:iG po pi qo qi i j=true
   ·by_cases q:kc w v i j
    ·rw[fF c,a_ (fun z=>z.2.2 q),fF ⟨q,c⟩];rfl
    ·rw[fF c,fF ⟨tO,c,q⟩,a_ (fun z=>q z.1)];rfl
   ·rw[a_ c,a_ (fun z=>c z.2.1),a_ (fun z=>c z.2)];rfl
  ·rw[a_ (p:=zm w v i j/\_) (fun z=>tO z.1),a_ (p:=kc w v i j/\_) (fun z=>tO (pO z.1))]
   have l2:=hy.lt _ (hv.rd (j - 1))
   have l3:=hy.lt _ (hv.rd j)
   have l1:=hy.lt _ (hw.rd (i - 1))
   have f0: ∀(u:List Nat) (i:Int),sq u i 0=rd u i:=fun u i=>by unfold sq;rw[show i+0=i by omega]
   have f1: ∀(u:List Nat) (i:Int),sq u i (-1)=rd u (i - 1):=fun u i=>rfl
   have e:=Jm hy (aY hw i) (aY hv j) (hS.sep i j) (fun z=>tS (.inl (by rw[f0,f0]at z;exact z))) (fun z=>tS (.inr z)) (fun z=>tO (.inr (by rw[f0,f1]at z;rw[<-z,aI l1]))) (fun z=>tO (.inl (by rw[f0,f1]at z;exact z.symm)))
   rw[f0,f0,f1,f1]at e
   have e':iG po pi qo qi i j=ac y (aA (rd w (i - 1))) (rd w i) (aA (rd v (j - 1))) (rd v j):=e
   rw[e']
   omega
end
section
variable {y w v:List Nat} {po pi qo qi:Int->Nat}
theorem FQ (hy:Yd y) (hw:SW y w) (hv:SW y v) (hS:Hj y (sq w) po pi (sq v) qo qi) (D:Bool)
  (h: ∀i j,bN w v i j->po i≠qo j/\pi i≠qi j/\decide (po i<qo j)=D/\decide (qi j<pi i)=D):bZ w.length v.length (fun i j=>one (bN w v i j/\iG po pi qo qi i j=true))=0:=by
 have: ∀i j:Int, ¬(bN w v i j/\iG po pi qo qi i j=true):=fun i j ⟨p,c⟩=>by
  have p1:bN w v (i - 1) (j - 1):=fun k=>by
   have:=p (k - 1)
   unfold sq at this ⊢
   rw[show i - 1+k=i+(k - 1) by omega,show j - 1+k=j+(k - 1) by omega]
   exact this
  have h0:=h i j p
  have h1:=h _ _ p1
  have:=(tH hy (aY hw i) (aY hv j) (hS.sep i j) h1.2.1 h0.1 (p (-1)) (p 0)).mp c
  exact this (h1.2.2.2.trans h0.2.2.1.symm)
 rw[show (0:Int)=bZ w.length v.length (fun _ _=>0) by unfold bZ;rw[show (fun _:Int=>sm v.length fun _=>0)=fun _=>0 from funext fun _=>fJ _,fJ]]
 exact br fun i j _ _=>a_ (this i j)
theorem FR (hy:Yd y) (hw:SW y w) (hv:SW y v) (hO:Hj y (sq w) po pi (fun k=>bq v (-k)) (fun k=>qi (-k)) (fun k=>qo (-k))) (D:Bool)
  (h: ∀i j,(∀k,sq w i k=bq v j k)->po i≠qi j/\pi i≠qo j/\decide (po i<qi j)=D/\decide (qo j<pi i)=D):bZ w.length v.length (fun i j=>one (kc w v i j/\iG po pi qo qi i j=true))=0:=by
 have: ∀i j:Int, ¬(kc w v i j/\iG po pi qo qi i j=true):=fun i j ⟨p,c⟩=>by
  have p1: ∀k,sq w (i - 1) k=bq v j k:=fun k=>by
   have:=p (k - 1)
   unfold sq bq at this ⊢
   rw[show i - 1+k=i+(k - 1) by omega,this]
   congr 2;omega
  have h0:=h i (j - 1) p
  have h1:=h _ _ p1
  have s:=hO.sep i (1 - j)
  simp only[show -(1 - j)=j - 1 by omega,show -(1 - j - 1)=j by omega]at s
  unfold iG at c
  rw[i3]at c
  have:=(tH hy (aY hw i) (fu hy hv (j - 1)) s h1.2.1 h0.1 (p (-1)) (p 0)).mp c
  exact this (h1.2.2.2.trans h0.2.2.1.symm)
 rw[show (0:Int)=bZ w.length v.length (fun _ _=>0) by unfold bZ;rw[show (fun _:Int=>sm v.length fun _=>0)=fun _=>0 from funext fun _=>fJ _,fJ]]
 exact br fun i j _ _=>a_ (this i j)
theorem tI (hy:Yd y) (hw:SW y w) (i j:Int): ¬ ∀k,sq w i k=bq w j k:=fun h=>by
 unfold sq bq at h
 rcases (show (j - i)%2=0\/(j - i)%2=1 by omega) with z | z
 ·have:=h ((j - i) / 2)
  rw[show i+(j - i) / 2=j - (j - i) / 2 by omega]at this
  exact dX (hy.lt _ (hw.rd _)) this.symm
 ·have:=h ((j - i) / 2+1)
  rw[show j - ((j - i) / 2+1)=i+((j - i) / 2+1) - 1 by omega]at this
  exact hw.red _ this
theorem vM (h:Int->Int) (n:Nat): ∀m:Nat,sm (n+m) h=sm n h+sm m (fun i=>h (n+i))
 | 0=>by show sm n h=sm n h+0;omega
 | m+1=>by
  show sm (n+m) h+h ((n+m:Nat):Int)=sm n h+(sm m (fun i=>h (n+i))+h (n+m))
  rw[vM h n m,show ((n+m:Nat):Int)=(n:Int)+m by omega]
  omega
theorem i5 {h:Int->Int}: ∀{s:Nat},0<s->(∀i:Nat,0<i->i<s->h i=0)->sm s h=h 0
 | 0,h0,_=>absurd h0 (XY _)
 | 1,_,_=>by show (0:Int)+h 0=h 0;omega
 | s+2,_,g=>by
  show sm (s+1) h+h ((s+1:Nat):Int)=h 0
  rw[i5 (s:=s+1) (by omega) (fun i h1 h2=>g i h1 (by omega)),g (s+1) (by omega) (by omega)]
  omega
theorem zo {h:Int->Int} {s:Nat} (hs:0<s) (g: ∀i:Nat,h i=if i%s=0 then 1 else 0): ∀k:Nat,sm (k*s) h=k
 | 0=>by rw[Nat.zero_mul];rfl
 | k+1=>by
  rw[Zk,vM,zo hs g k,i5 hs]
  ·have:=g (k*s)
   rw[if_pos (Nat.mul_mod_left k s)]at this
   show (k:Int)+h (((k*s:Nat):Int)+0)=((k+1:Nat):Int)
   rw[ZO,this]
   omega
  ·intro i h1 h2
   have:=g (k*s+i)
   rw[if_neg (by rw[YE,Nat.mul_add_mod,Yy h2];omega)]at this
   rw[<-this]
   congr 1
theorem CK (hy:Yd y) (hw:SW y w) (hS:Hj y (sq w) po pi (sq w) po pi) {s k:Nat} (hs:0<s) (hn:w.length=k*s) (hk:0<k) (hr: ∀j:Nat,j<w.length->(bN w w 0 j↔j%s=0))
  (h: ∀i j:Int,bN w w i j->i%w.length≠j%w.length->po i≠po j/\pi i≠pi j/\decide (po i<po j)=decide (i%w.length<j%w.length)/\decide (pi j<pi i)=decide (i%w.length<j%w.length)):
  bZ w.length w.length (fun i j=>one (bN w w i j/\iG po pi po pi i j=true))=2*((k:Int) - 1):=by
 have pt: ∀i j:Nat,i<w.length->j<w.length->one (bN w w i j/\iG po pi po pi i j=true)=(if i=0 then one (j≠0/\bN w w 0 j) else 0)+(if j=0 then one (i≠0/\bN w w 0 i) else 0):=fun i j hi hj=>by
  have sym:bN w w 0 i↔bN w w i 0:=⟨fun q k=>(q k).symm,fun q k=>(q k).symm⟩
  by_cases e:i=j
  ·subst e
   rw[a_ (fun q=>by have:=q.2;unfold iG at this;rw[vJ]at this;cases this)]
   by_cases z:i=0
   ·rw[if_pos z,a_ (fun q=>q.1 z)];rfl
   ·rw[if_neg z];rfl
  ·have key:bN w w i j->(iG po pi po pi i j=true↔(i=0\/j=0)):=fun p=>by
    have p1:bN w w ((i:Int) - 1) ((j:Int) - 1):=fun k=>by
     have:=p (k - 1)
     unfold sq at this ⊢
     rw[show (i:Int) - 1+k=i+(k - 1) by omega,show (j:Int) - 1+k=j+(k - 1) by omega]
     exact this
    have m0: ∀i:Nat,i<w.length->(i:Int)%w.length=i:=fun i hi=>XJ (by omega) (by omega)
    have m1: ∀i:Nat,i<w.length->((i:Int) - 1)%w.length=if i=0 then (w.length:Int) - 1 else i - 1:=fun i hi=>by
     split
     ·rename_i z
      rw[<-YM,XJ (by omega) (by omega)];omega
     ·exact XJ (by omega) (by omega)
    have h0:=h i j p (by rw[m0 i hi,m0 j hj];omega)
    have h1:=h _ _ p1 (by rw[m1 i hi,m1 j hj];split<;>split<;>omega)
    have c:=tH hy (aY hw i) (aY hw j) (hS.sep i j) h1.2.1 h0.1 (p (-1)) (p 0)
    rw[h0.2.2.1,h1.2.2.2,m0 i hi,m0 j hj,m1 i hi,m1 j hj]at c
    have c':iG po pi po pi i j=true↔_:=c
    rw[c',Ne,decide_eq_decide]
    split<;>split<;>omega
   by_cases z:i=0
   ·have j0:j≠0:=fun q=>e (z.trans q.symm)
    rw[if_pos z,if_neg j0]
    rw[z]at key ⊢
    have:one (bN w w ((0:Nat):Int) j/\iG po pi po pi ((0:Nat):Int) j=true)=one (j≠0/\bN w w 0 j):=bp ⟨fun q=>⟨j0,q.1⟩,fun q=>⟨q.2,(key q.2).mpr (.inl rfl)⟩⟩
    rw[this];omega
   ·rw[if_neg z]
    by_cases j0:j=0
    ·rw[if_pos j0]
     rw[j0]at key ⊢
     have:one (bN w w i ((0:Nat):Int)/\iG po pi po pi i ((0:Nat):Int)=true)=one (i≠0/\bN w w 0 i):=bp ⟨fun q=>⟨z,sym.mpr q.1⟩,fun q=>⟨sym.mp q.2,(key (sym.mp q.2)).mpr (.inr rfl)⟩⟩
     rw[this];omega
    ·rw[if_neg j0,a_ (fun q=>by rcases (key q.1).mp q.2 with q | q<;>contradiction)];rfl
 have cnt:sm w.length (fun j=>one (j≠0/\bN w w 0 j))=(k:Int) - 1:=by
  have e1:sm w.length (fun j=>one (bN w w 0 j))=k:=by
   have:sm w.length (fun j=>one (bN w w 0 j))=sm w.length (fun j=>if j.toNat%s=0 then 1 else 0):=aH fun j hj=>by
    rw[bp (hr j hj),UG]
    by_cases z:j%s=0
    ·rw[fF z,if_pos z]
    ·rw[a_ z,if_neg z]
   rw[this,hn]
   exact zo hs (fun i=>by rw[UG]) k
  have e2:sm w.length (fun j=>one (bN w w 0 j))=sm w.length (fun j=>one (j≠0/\bN w w 0 j))+sm w.length (fun j=>if j=0 then 1 else 0):=by
   rw[<-oQ]
   refine aH fun j hj=>?_
   by_cases z:j=0
   ·subst z
    rw[fF (show bN w w 0 ((0:Nat):Int) from fun k=>rfl),a_ (fun q=>q.1 rfl)];rfl
   ·rw[if_neg (by omega),ZO]
    exact bp ⟨fun q=>⟨by omega,q⟩,fun q=>q.2⟩
  have e3:sm w.length (fun j=>if j=0 then (1:Int) else 0)=1:=by
   rw[i5 (SD.mpr hw.ne) (fun i h1 _=>by rw[if_neg (by omega)]),if_pos rfl]
  omega
 have lp:0<w.length:=SD.mpr hw.ne
 have e:bZ w.length w.length (fun i j=>one (bN w w i j/\iG po pi po pi i j=true))=bZ w.length w.length (fun i j=>(if i=0 then one (j≠0/\bN w w 0 j) else 0)+(if j=0 then one (i≠0/\bN w w 0 i) else 0)):=br fun i j hi hj=>by
  rw[pt i j hi hj]
  congr 1
  ·by_cases z:i=0
   ·rw[if_pos z,if_pos (by omega)]
    exact bp ⟨fun q=>⟨by omega,q.2⟩,fun q=>⟨by omega,q.2⟩⟩
   ·rw[if_neg z,if_neg (by omega)]
  ·by_cases z:j=0
   ·rw[if_pos z,if_pos (by omega)]
    exact bp ⟨fun q=>⟨by omega,q.2⟩,fun q=>⟨by omega,q.2⟩⟩
   ·rw[if_neg z,if_neg (by omega)]
 rw[e,cu]
 have a1:bZ w.length w.length (fun i j=>if i=0 then one (j≠0/\bN w w 0 j) else 0)=(k:Int) - 1:=by
  unfold bZ
  rw[i5 lp]
  ·rw[<-cnt]
   exact aH fun j _=>if_pos rfl
  ·intro i h1 _
   refine Eq.trans (aH (g:=fun _=>0) fun j _=>?_) (fJ _)
   have: ¬((i:Int)=0):=by omega
   exact if_neg this
 have a2:bZ w.length w.length (fun i j=>if j=0 then one (i≠0/\bN w w 0 i) else 0)=(k:Int) - 1:=by
  unfold bZ
  rw[<-cnt]
  refine aH fun i _=>?_
  have: ∀j:Nat,0<j-> ¬((j:Int)=0):=fun j h=>by omega
  rw[i5 lp (fun j h1 _=>if_neg (this j h1))]
  exact if_pos rfl
 omega
end
noncomputable def kk (y:List Nat) (f:Int->Nat):Nat->Nat->List Int
 | _,0=>[]
 | k,n+1=>eO y f (k+1)::eO y f (-(k:Int))::kk y f (k+1) n
theorem ff: ∀(l r t:List Int),bJ (l++r) (l++t)=bJ r t
 | [],_,_=>rfl
 | a::l,r,t=>by
  show (if a=a then bJ (l++r) (l++t) else _)=_
  rw[if_pos rfl,ff l r t]
theorem mi {y:List Nat} {f g:Int->Nat} {a b:Nat} (hy:Yd y) (hf:gG y f) (hg:gG y g) (h:Run f g a b) (r t:List Int): ∀(n k:Nat),k<=a->k<=b->a<k+n->b<k+n->bJ (kk y f k n++r) (kk y g k n++t)=if a<=b then gk y f g a else gy y f g b
 | 0,k,h1,_,h3,_=>by omega
 | n+1,k,h1,h2,h3,h4=>by
  show (if eO y f (k+1)=eO y g (k+1) then (if eO y f (-(k:Int))=eO y g (-(k:Int)) then bJ (kk y f (k+1) n++r) (kk y g (k+1) n++t) else decide (eO y f (-(k:Int))<eO y g (-(k:Int)))) else decide (eO y f (k+1)<eO y g (k+1)))=_
  have e0:=h.mh k (by omega) (by omega)
  have e1:=h.mh (-(k:Int)) (by omega) (by omega)
  by_cases z:k=a
  ·subst z
   rw[if_neg (fun q=>h.hi (by
    unfold eO at q
    rw[show (k:Int)+1 - 1=k by omega, <-e0]at q
    exact kY (hy.cl _ (hf.bE _)) (hf.bE _) (hg.bE _) q)),if_pos h2]
   rfl
  ·have e2:=h.mh (k+1) (by omega) (by omega)
   rw[if_pos (by unfold eO;rw[show (k:Int)+1 - 1=k by omega,e0,e2])]
   by_cases z2:k=b
   ·subst z2
    rw[if_neg (fun q=>h.lo (by
     unfold eO at q
     rw[<-e1]at q
     have r1:=hf.red (-(k:Int))
     have r2:=hg.red (-(k:Int))
     have c1:=(eQ (hy.cl _ (hf.bE (-(k:Int) - 1))) (hf.bE (-(k:Int))) (Ne.symm r1)).2.2
     have c2:=(eQ (hy.cl _ (hg.bE (-(k:Int) - 1))) (hf.bE (-(k:Int))) (by rw[e1];exact Ne.symm r2)).2.2
     have:=kY (hf.bE (-(k:Int))) (hy.cl _ (hf.bE (-(k:Int) - 1))) (hy.cl _ (hg.bE (-(k:Int) - 1))) (by rw[c1,c2,q])
     exact dY (hy.lt _ (hf.bE _)) (hy.lt _ (hg.bE _)) this)),if_neg (by omega)]
    rfl
   ·have e3:=h.mh (-(k:Int) - 1) (by omega) (by omega)
    rw[if_pos (by unfold eO;rw[e1,e3])]
    exact mi hy hf hg h r t n (k+1) (by omega) (by omega) (by omega) (by omega)
noncomputable def lK (w:List Nat) (i:Int):Int->Nat:=if aB (rd w i)=true then sq w i else bq w i
noncomputable def Es (n r:Nat) (l low:Bool) (c i:Nat):List Int:=if low=l then [(c:Int),(((if low=true then i else n - 1 - i) / r:Nat):Int)] else [-(c:Int), -(((if low=true then n - 1 - i else i) / r:Nat):Int)]
noncomputable def cD (y:List Nat) (ws:List (List Nat)) (L:Nat->Bool) (r:Nat->Nat) (M c i:Nat):List Int:=kk y (lK (ws.getD c []) i) 0 M++Es (ws.getD c []).length (r c) (L c) (aB (rd (ws.getD c []) i)) c i
def Dl (w:List Nat) (i:Int) (f:Int->Nat):Prop:=f=sq w i\/f=bq w i
theorem tJ {y w:List Nat} {i:Int} {f:Int->Nat} (hy:Yd y) (hw:SW y w) (h:Dl w i f):lK w i=if aB (f 0)=true then f else jC f:=by
 have s0:sq w i 0=rd w i:=by unfold sq;rw[show i+0=i by omega]
 have b0:bq w i 0=aA (rd w i):=by unfold bq;rw[show i - 0=i by omega]
 have lc:=fI _ (hy.lt _ (hw.rd i)).mem
 unfold lK
 rcases h with rfl | rfl
 ·rw[s0,dZ]
 ·rw[b0,lc, <-dZ,mX hy (aY hw i)]
  cases aB (rd w i)<;>rfl
theorem Dl.xP {y w:List Nat} {i:Int} {f:Int->Nat} (hy:Yd y) (hw:SW y w) (h:Dl w i f):gG y f:=by
 rcases h with rfl | rfl
 ·exact aY hw i
 ·exact fu hy hw i
theorem Run.sy {f g:Int->Nat} {a b:Nat} (h:Run f g a b):Run g f a b:=⟨fun k h1 h2=>(h.mh k h1 h2).symm,Ne.symm h.hi,Ne.symm h.lo⟩
section
variable {y:List Nat} {ws:List (List Nat)} {L:Nat->Bool} {r:Nat->Nat} {M:Nat} {N:Nat->Nat->Nat->Nat}
structure Lies (y:List Nat) (ws:List (List Nat)) (L:Nat->Bool) (r:Nat->Nat) (M:Nat) (N:Nat->Nat->Nat->Nat):Prop where
 sep: ∀c i d j e e',c<ws.length->d<ws.length->i<(ws.getD c []).length->j<(ws.getD d []).length->(e=rd (ws.getD c []) i\/e=aA (rd (ws.getD c []) i))->(e'=rd (ws.getD d []) j\/e'=aA (rd (ws.getD d []) j))->y.idxOf e<y.idxOf e'->N c i e<N d j e'
 low: ∀c i d j x,c<ws.length->d<ws.length->i<(ws.getD c []).length->j<(ws.getD d []).length->(c,i)≠(d,j)->aB x=true->(rd (ws.getD c []) i=x\/rd (ws.getD c []) i=aA x)->(rd (ws.getD d []) j=x\/rd (ws.getD d []) j=aA x)->
  N c i x≠N d j x/\N c i (aA x)≠N d j (aA x)/\decide (N c i x<N d j x)=bJ (cD y ws L r M c i) (cD y ws L r M d j)/\decide (N d j (aA x)<N c i (aA x))=bJ (cD y ws L r M c i) (cD y ws L r M d j)
theorem Lies.at (hy:Yd y) (hN:Lies y ws L r M N) {c i d j:Nat} {f g:Int->Nat} (hc:c<ws.length) (hd:d<ws.length) (hi:i<(ws.getD c []).length) (hj:j<(ws.getD d []).length) (hw:SW y (ws.getD c [])) (hv:SW y (ws.getD d []))
  (hf:Dl (ws.getD c []) i f) (hg:Dl (ws.getD d []) j g) (h0:f 0=g 0) (dH:(c,i)≠(d,j)):
  N c i (f 0)≠N d j (f 0)/\N c i (aA (f 0))≠N d j (aA (f 0))/\decide (N c i (f 0)<N d j (f 0))=(if aB (f 0)=true then bJ (cD y ws L r M c i) (cD y ws L r M d j) else bJ (cD y ws L r M d j) (cD y ws L r M c i))/\decide (N d j (aA (f 0))<N c i (aA (f 0)))=(if aB (f 0)=true then bJ (cD y ws L r M c i) (cD y ws L r M d j) else bJ (cD y ws L r M d j) (cD y ws L r M c i)):=by
 have s0: ∀(w:List Nat) (i:Int),sq w i 0=rd w i:=fun w i=>by unfold sq;rw[show i+0=i by omega]
 have b0: ∀(w:List Nat) (i:Int),bq w i 0=aA (rd w i):=fun w i=>by unfold bq;rw[show i - 0=i by omega]
 have ly:Lt (f 0):=hy.lt _ ((hf.xP hy hw).bE 0)
 have Ks:=aI ly
 have ef:rd (ws.getD c []) i=f 0\/rd (ws.getD c []) i=aA (f 0):=by
  rcases hf with rfl | rfl
  ·exact .inl (s0 _ _).symm
  ·exact .inr (by rw[b0,aI (hy.lt _ (hw.rd _))])
 have eg:rd (ws.getD d []) j=f 0\/rd (ws.getD d []) j=aA (f 0):=by
  rw[h0]
  rcases hg with rfl | rfl
  ·exact .inl (s0 _ _).symm
  ·exact .inr (by rw[b0,aI (hy.lt _ (hv.rd _))])
 by_cases z:aB (f 0)=true
 ·rw[if_pos z]
  exact hN.low c i d j (f 0) hc hd hi hj dH z ef eg
 ·rw[if_neg z]
  have z':aB (aA (f 0))=true:=by rw[fI _ ly.mem];simpa using z
  have:=hN.low d j c i (aA (f 0)) hd hc hj hi (Ne.symm dH) z' (by rw[Ks];exact eg.symm) (by rw[Ks];exact ef.symm)
  rw[Ks]at this
  exact ⟨Ne.symm this.2.1,Ne.symm this.1,this.2.2.2,this.2.2.1⟩
theorem Lies.run (hy:Yd y) (hN:Lies y ws L r M N) {c i d j:Nat} {f g:Int->Nat} {a b:Nat} (hc:c<ws.length) (hd:d<ws.length) (hi:i<(ws.getD c []).length) (hj:j<(ws.getD d []).length) (hw:SW y (ws.getD c [])) (hv:SW y (ws.getD d []))
  (hf:Dl (ws.getD c []) i f) (hg:Dl (ws.getD d []) j g) (hr:Run f g a b) (ha:a<M) (hb:b<M) (dH:(c,i)≠(d,j)):
  N c i (f 0)≠N d j (g 0)/\N c i (aA (f 0))≠N d j (aA (g 0))/\decide (N c i (f 0)<N d j (g 0))=xM y f g a b/\decide (N d j (aA (g 0))<N c i (aA (f 0)))=xM y f g a b:=by
 have h0:=hr.zero
 have lf:=hf.xP hy hw
 have lg:=hg.xP hy hv
 have e:(if aB (f 0)=true then bJ (cD y ws L r M c i) (cD y ws L r M d j) else bJ (cD y ws L r M d j) (cD y ws L r M c i))=xM y f g a b:=by
  unfold cD
  rw[tJ hy hw hf,tJ hy hv hg, <-h0]
  by_cases z:aB (f 0)=true
  ·rw[if_pos z,if_pos z,if_pos z,mi hy lf lg hr _ _ M 0 (WO _) (WO _) (by omega) (by omega)]
   unfold xM uF
   by_cases q:a<=b
   ·rw[if_pos q,if_neg (by simp[z];omega)]
   ·rw[if_neg q,if_pos (by simp;omega)]
  ·rw[if_neg z,if_neg z,if_neg z,mi hy (lg.rv hy) (lf.rv hy) (hr.rv hy lf lg).sy _ _ M 0 (WO _) (WO _) (by omega) (by omega), <-Ji hy lf lg h0]
   unfold xM uF
   have z':aB (jC g 0)=true:=by
    show aB (aA (g 0))=true
    rw[<-h0,fI _ (hy.lt _ (lf.bE 0)).mem];simpa using z
   by_cases q:b<=a
   ·rw[if_pos q,if_neg (by simp[z'];omega)]
   ·rw[if_neg q,if_pos (by simp;omega)]
 have:=hN.at hy hc hd hi hj hw hv hf hg h0 dH
 rw[e]at this
 rw[<-h0]
 exact this
end
noncomputable def i6 (n:Nat) (k:Int):Nat:=(k%(n:Int)).toNat
theorem bK {n:Nat} (h:0<n) (k:Int):i6 n k<n:=by
 unfold i6
 have h1:=Yh k (b:=(n:Int)) (by omega)
 have h2:=Yb k (b:=(n:Int)) (by omega)
 omega
theorem d_ {n:Nat} (h:0<n) (k:Int):((i6 n k:Nat):Int)=k%n:=by
 unfold i6
 have h1:=Yh k (b:=(n:Int)) (by omega)
 omega
theorem zp {n:Nat} (k:Int):i6 n (k+n)=i6 n k:=by unfold i6;rw[YM]
theorem bW {w:List Nat} (h:w≠[]) (k:Int):rd w (i6 w.length k:Nat)=rd w k:=by rw[d_ (SD.mpr h),g5]
theorem cE {w:List Nat} (h:w≠[]) (k:Int):sq w (i6 w.length k:Nat)=sq w k:=by
 funext x
 unfold sq
 rw[d_ (SD.mpr h), <-g5 w (k%w.length+x),Qag,g5]
theorem tK {w:List Nat} (h:w≠[]) (k:Int):bq w (i6 w.length k:Nat)=bq w k:=by rw[<-dZ, <-dZ,cE h]
noncomputable def pO (ws:List (List Nat)) (N:Nat->Nat->Nat->Nat) (c:Nat) (k:Int):Nat:=N c (i6 (ws.getD c []).length k) (rd (ws.getD c []) k)
noncomputable def pI (ws:List (List Nat)) (N:Nat->Nat->Nat->Nat) (c:Nat) (k:Int):Nat:=N c (i6 (ws.getD c []).length k) (aA (rd (ws.getD c []) k))
theorem Jr {x x' p p':Int} (h:x≠x'):bJ [x,p] [x',p']=decide (x<x'):=by
 show (if x=x' then _ else decide (x<x'))=_
 rw[if_neg h]
theorem tM {x p p':Int} (h:p≠p'):bJ [x,p] [x,p']=decide (p<p'):=by
 show (if x=x then (if p=p' then bJ [] [] else decide (p<p')) else _)=_
 rw[if_pos rfl,if_neg h]
section
variable {y:List Nat} {ws:List (List Nat)} {L:Nat->Bool} {r:Nat->Nat} {M:Nat} {N:Nat->Nat->Nat->Nat}
structure eF (y:List Nat) (ws:List (List Nat)) (L:Nat->Bool) (r:Nat->Nat) (M:Nat):Prop where
 yd:Yd y
 sw: ∀c,c<ws.length->SW y (ws.getD c [])
 big: ∀c d,c<ws.length->d<ws.length->(ws.getD c []).length+(ws.getD d []).length<=M
 l1: ∀c d i j,c<ws.length->d<ws.length->bN (ws.getD c []) (ws.getD d []) i j->L c=L d
 l2: ∀c d i j,c<ws.length->d<ws.length->(∀k,sq (ws.getD c []) i k=bq (ws.getD d []) j k)->L d=!L c
 rp: ∀c,c<ws.length->0<r c
 rr: ∀c,c<ws.length-> ∀i j:Int,(bN (ws.getD c []) (ws.getD c []) i j↔(i - j)%(r c:Int)=0)
theorem Lies.two (h:eF y ws L r M) (hN:Lies y ws L r M N) {c d:Nat} (hc:c<ws.length) (hd:d<ws.length):Hj y (sq (ws.getD c [])) (pO ws N c) (pI ws N c) (sq (ws.getD d [])) (pO ws N d) (pI ws N d):=by
 have hw:=h.sw c hc
 have hv:=h.sw d hd
 have lw:=SD.mpr hw.ne
 have lv:=SD.mpr hv.ne
 have s0: ∀(w:List Nat) (i:Int),sq w i 0=rd w i:=fun w i=>by unfold sq;rw[show i+0=i by omega]
 refine ⟨fun s t=>?_,fun s t a b rn=>?_⟩
 ·have key: ∀p∈[(aA (sq (ws.getD c []) s (-1)),pI ws N c (s - 1)),(sq (ws.getD c []) s 0,pO ws N c s),(aA (sq (ws.getD d []) t (-1)),pI ws N d (t - 1)),(sq (ws.getD d []) t 0,pO ws N d t)], ∃e i:Nat,e<ws.length/\i<(ws.getD e []).length/\(p.1=rd (ws.getD e []) i\/p.1=aA (rd (ws.getD e []) i))/\p.2=N e i p.1:=by
   intro p hp
   simp only[UE,Xu,or_false]at hp
   rcases hp with rfl | rfl | rfl | rfl
   ·exact ⟨c,_,hc,bK lw (s - 1), .inr (by rw[bW hw.ne];rfl),rfl⟩
   ·exact ⟨c,_,hc,bK lw s, .inl (by rw[bW hw.ne,s0]),by rw[s0];rfl⟩
   ·exact ⟨d,_,hd,bK lv (t - 1), .inr (by rw[bW hv.ne];rfl),rfl⟩
   ·exact ⟨d,_,hd,bK lv t, .inl (by rw[bW hv.ne,s0]),by rw[s0];rfl⟩
  intro p hp q hq dk
  obtain ⟨e,i,he,hi,h1,h2⟩:=key p hp
  obtain ⟨e',j,yV,hj,h3,h4⟩:=key q hq
  rw[h2,h4]
  exact hN.sep e i e' j _ _ he yV hi hj h1 h3 dk
 ·obtain ⟨a',b',Rf,ha,hb⟩:=dq lw lv (fun k=>cZ _ s k) (fun k=>cZ _ t k) rn.zero ⟨_,rn.hi⟩
  obtain ⟨rfl,rfl⟩:=rn.one Rf
  have:=h.big c d hc hd
  have key:=hN.run h.yd hc hd (bK lw s) (bK lv t) hw hv (.inl (cE hw.ne s).symm) (.inl (cE hv.ne t).symm) rn (by omega) (by omega) (fun z=>rn.hi (by
   obtain ⟨z1,z2⟩:=Prod.mk.inj z
   subst z1
   rw[<-cE hw.ne s, <-cE hw.ne t,z2]))
  rw[s0,s0]at key
  exact key
theorem Lies.S4 (h:eF y ws L r M) (hN:Lies y ws L r M N) {c d:Nat} (hc:c<ws.length) (hd:d<ws.length):Hj y (sq (ws.getD c [])) (pO ws N c) (pI ws N c) (fun k=>bq (ws.getD d []) (-k)) (fun k=>pI ws N d (-k)) (fun k=>pO ws N d (-k)):=by
 have hw:=h.sw c hc
 have hv:=h.sw d hd
 have lw:=SD.mpr hw.ne
 have lv:=SD.mpr hv.ne
 have s0: ∀(w:List Nat) (i:Int),sq w i 0=rd w i:=fun w i=>by unfold sq;rw[show i+0=i by omega]
 have b0: ∀(w:List Nat) (i:Int),bq w i 0=aA (rd w i):=fun w i=>by unfold bq;rw[show i - 0=i by omega]
 have bb: ∀t:Int,aA (bq (ws.getD d []) (-t) (-1))=rd (ws.getD d []) (-(t - 1)):=fun t=>by
  unfold bq
  rw[aI (h.yd.lt _ (hv.rd _))]
  congr 1;omega
 refine ⟨fun s t=>?_,fun s t a b rn=>?_⟩
 ·have key: ∀p∈[(aA (sq (ws.getD c []) s (-1)),pI ws N c (s - 1)),(sq (ws.getD c []) s 0,pO ws N c s),(aA (bq (ws.getD d []) (-t) (-1)),pO ws N d (-(t - 1))),(bq (ws.getD d []) (-t) 0,pI ws N d (-t))], ∃e i:Nat,e<ws.length/\i<(ws.getD e []).length/\(p.1=rd (ws.getD e []) i\/p.1=aA (rd (ws.getD e []) i))/\p.2=N e i p.1:=by
   intro p hp
   simp only[UE,Xu,or_false]at hp
   rcases hp with rfl | rfl | rfl | rfl
   ·exact ⟨c,_,hc,bK lw (s - 1), .inr (by rw[bW hw.ne];rfl),rfl⟩
   ·exact ⟨c,_,hc,bK lw s, .inl (by rw[bW hw.ne,s0]),by rw[s0];rfl⟩
   ·exact ⟨d,_,hd,bK lv (-(t - 1)), .inl (by rw[bW hv.ne];exact bb t),by rw[bb t];rfl⟩
   ·exact ⟨d,_,hd,bK lv (-t), .inr (by rw[bW hv.ne,b0]),by rw[b0];rfl⟩
  intro p hp q hq dk
  obtain ⟨e,i,he,hi,h1,h2⟩:=key p hp
  obtain ⟨e',j,yV,hj,h3,h4⟩:=key q hq
  rw[h2,h4]
  exact hN.sep e i e' j _ _ he yV hi hj h1 h3 dk
 ·obtain ⟨a',b',Rf,ha,hb⟩:=dq lw lv (fun k=>cZ _ s k) (fun k=>oP _ (-t) k) rn.zero ⟨_,rn.hi⟩
  obtain ⟨rfl,rfl⟩:=rn.one Rf
  have:=h.big c d hc hd
  have key:=hN.run h.yd hc hd (bK lw s) (bK lv (-t)) hw hv (.inl (cE hw.ne s).symm) (.inr (tK hv.ne (-t)).symm) rn (by omega) (by omega) (fun z=>by
   obtain ⟨z1,z2⟩:=Prod.mk.inj z
   subst z1
   have z0:=rn.zero
   rw[s0,b0, <-bW hw.ne s, <-bW hw.ne (-t),z2]at z0
   exact dX (h.yd.lt _ (hw.rd _)) z0.symm)
  rw[s0,b0,aI (h.yd.lt _ (hv.rd _))]at key
  exact key
theorem tN {n n' r r' c d i j:Nat} {l low Js:Bool} (h:c≠d):bJ (Es n r l low c i) (Es n' r' (if Js=low then l else !l) Js d j)=if low=l then decide (c<d) else decide (d<c):=by
 unfold Es
 cases low<;>cases Js<;>cases l<;>simp only[Z8,Bool.not_false,if_true,if_false,Bool.true_eq_false,YN]<;>rw[Jr (by omega)]<;>exact decide_eq_decide.mpr (by omega)
theorem Lies.CL (h:eF y ws L r M) (hN:Lies y ws L r M N) {c d:Nat} (hc:c<ws.length) (hd:d<ws.length) (m4:c≠d) {i j:Nat} {f g:Int->Nat} (hi:i<(ws.getD c []).length) (hj:j<(ws.getD d []).length) (hf:Dl (ws.getD c []) i f) (hg:Dl (ws.getD d []) j g) (hp: ∀k,f k=g k)
  (hl:L d=if aB (rd (ws.getD d []) j)=aB (rd (ws.getD c []) i) then L c else !L c) (hs:f=sq (ws.getD c []) i):
  N c i (f 0)≠N d j (g 0)/\N c i (aA (f 0))≠N d j (aA (g 0))/\decide (N c i (f 0)<N d j (g 0))=(if L c=true then decide (c<d) else decide (d<c))/\decide (N d j (aA (g 0))<N c i (aA (f 0)))=(if L c=true then decide (c<d) else decide (d<c)):=by
 have hw:=h.sw c hc
 have hv:=h.sw d hd
 have e:(if aB (f 0)=true then bJ (cD y ws L r M c i) (cD y ws L r M d j) else bJ (cD y ws L r M d j) (cD y ws L r M c i))=if L c=true then decide (c<d) else decide (d<c):=by
  have es:lK (ws.getD c []) i=lK (ws.getD d []) j:=by
   rw[tJ h.yd hw hf,tJ h.yd hv hg,show f=g from funext hp]
  have f0:f 0=rd (ws.getD c []) i:=by rw[hs];unfold sq;rw[show (i:Int)+0=i by omega]
  unfold cD
  rw[es,ff,ff,f0]
  have yE:L c=if aB (rd (ws.getD c []) i)=aB (rd (ws.getD d []) j) then L d else !L d:=by
   rw[hl]
   cases aB (rd (ws.getD d []) j)<;>cases aB (rd (ws.getD c []) i)<;>cases L c<;>rfl
  have e1:= @tN (ws.getD c []).length (ws.getD d []).length (r c) (r d) c d i j (L c) (aB (rd (ws.getD c []) i)) (aB (rd (ws.getD d []) j)) m4
  have e2:= @tN (ws.getD d []).length (ws.getD c []).length (r d) (r c) d c j i (L d) (aB (rd (ws.getD d []) j)) (aB (rd (ws.getD c []) i)) (Ne.symm m4)
  rw[<-hl]at e1
  rw[<-yE]at e2
  rw[e1,e2,hl]
  cases aB (rd (ws.getD d []) j)<;>cases aB (rd (ws.getD c []) i)<;>cases L c<;>rfl
 have:=hN.at h.yd hc hd hi hj hw hv hf hg (hp 0) (fun z=>m4 (Prod.mk.inj z).1)
 rw[e]at this
 rw[<-hp 0]
 exact this
end
theorem vN {n k r i:Nat} (hr:0<r) (hn:n=k*r) (hi:i<n):(n - 1 - i) / r=k - 1 - i / r:=by
 have h1:=Zf i r
 have h2:=Y1 i hr
 have h3:i / r<k:=by
  rw[ZV hr];omega
 rw[Nat.div_eq_iff hr]
 obtain ⟨t,rfl⟩: ∃t,k=i / r+1+t:=⟨k - 1 - i / r,by omega⟩
 generalize hq:i / r=q at*
 rw[Nat.add_mul,Nat.add_mul,Nat.one_mul,YE q r]at hn
 have e:q+1+t - 1 - q=t:=by omega
 rw[e]
 generalize r*q=A at*
 generalize t*r=B at*
 omega
theorem AW {r i j:Nat} (hr:0<r) (h:i%r=j%r) (dH:i≠j):(i / r<j / r↔i<j)/\i / r≠j / r:=by
 have h1:=Zf i r
 have h2:=Zf j r
 have tP:i / r≠j / r:=fun z=>dH (by rw[<-h1, <-h2,z,h])
 refine ⟨⟨fun q=>?_,fun q=>?_⟩,tP⟩
 ·have:r*(i / r+1)<=r*(j / r):=Nat.mul_le_mul_left r q
  rw[Nat.mul_add,Nat.mul_one]at this
  omega
 ·refine Classical.byContradiction fun z=>?_
  have h3:j / r+1<=i / r:=by omega
  have:r*(j / r+1)<=r*(i / r):=Nat.mul_le_mul_left r h3
  rw[Nat.mul_add,Nat.mul_one]at this
  omega
theorem xQ {n k r c i j:Nat} {l low:Bool} (hr:0<r) (hn:n=k*r) (hi:i<n) (hj:j<n) (h:i%r=j%r) (dH:i≠j):(if low=true then bJ (Es n r l low c i) (Es n r l low c j) else bJ (Es n r l low c j) (Es n r l low c i))=decide (i<j):=by
 obtain ⟨d1,d2⟩:=AW hr h dH
 have e1:=vN hr hn hi
 have e2:=vN hr hn hj
 have b1:i / r<k:=by rw[ZV hr];omega
 have b2:j / r<k:=by rw[ZV hr];omega
 unfold Es
 cases low<;>cases l<;>simp only[if_true,if_false,Bool.true_eq_false,YN]
 ·rw[e1,e2,tM (by omega)];exact decide_eq_decide.mpr (by omega)
 ·rw[tM (by omega)];exact decide_eq_decide.mpr (by omega)
 ·rw[e1,e2,tM (by omega)];exact decide_eq_decide.mpr (by omega)
 ·rw[tM (by omega)];exact decide_eq_decide.mpr (by omega)
noncomputable def fc (y w v:List Nat) (i j:Int):Int:=one (ac y (aA (rd w (i - 1))) (rd w i) (aA (rd v (j - 1))) (rd v j)=true)+one (0<al y (sq w i) (sq v j) (w.length+v.length))+one (0<al y (sq w i) (bq v j) (w.length+v.length))
section
variable {y:List Nat} {ws:List (List Nat)} {L:Nat->Bool} {r:Nat->Nat} {M:Nat} {N:Nat->Nat->Nat->Nat}
theorem tQ (ws:List (List Nat)) (N:Nat->Nat->Nat->Nat) (c:Nat) (k:Int):pO ws N c (k+(ws.getD c []).length)=pO ws N c k:=by unfold pO;rw[zp,ft]
theorem tR (ws:List (List Nat)) (N:Nat->Nat->Nat->Nat) (c:Nat) (k:Int):pI ws N c (k+(ws.getD c []).length)=pI ws N c k:=by unfold pI;rw[zp,ft]
theorem eF.root (h:eF y ws L r M) {c:Nat} (hc:c<ws.length):(ws.getD c []).length=(ws.getD c []).length / r c*r c/\0<(ws.getD c []).length / r c:=by
 have hp:=h.rp c hc
 have hl:=SD.mpr (h.sw c hc).ne
 have h1:=(h.rr c hc (ws.getD c []).length 0).mp (fun k=>by
  have:=congrFun (ka (ws.getD c []) 0) k
  rwa [YL]at this)
 rw[Zm]at h1
 have h2:(ws.getD c []).length%r c=0:=by
  have:((((ws.getD c []).length%r c:Nat)):Int)=0:=by rw[<-h1];rfl
  omega
 have h3:=Zf (ws.getD c []).length (r c)
 rw[h2,Qaa,YE]at h3
 refine ⟨h3.symm,Nat.pos_of_ne_zero fun z=>?_⟩
 rw[z,Nat.zero_mul]at h3
 omega
theorem rj (h:eF y ws L r M) (hN:Lies y ws L r M N) {c d:Nat} (hc:c<ws.length) (hd:d<ws.length) (m4:c≠d):
  bZ (ws.getD c []).length (ws.getD d []).length (fun i j=>one (iG (pO ws N c) (pI ws N c) (pO ws N d) (pI ws N d) i j=true))=bZ (ws.getD c []).length (ws.getD d []).length (fc y (ws.getD c []) (ws.getD d [])):=by
 have hw:=h.sw c hc
 have hv:=h.sw d hd
 have lw:=SD.mpr hw.ne
 have lv:=SD.mpr hv.ne
 have s0: ∀(w:List Nat) (i:Int),sq w i 0=rd w i:=fun w i=>by unfold sq;rw[show i+0=i by omega]
 have b0: ∀(w:List Nat) (i:Int),bq w i 0=aA (rd w i):=fun w i=>by unfold bq;rw[show i - 0=i by omega]
 have hS:=hN.two h hc hd
 have hO:=hN.S4 h hc hd
 rw[vL h.yd hw hv (tQ ws N c) (tR ws N c) (tQ ws N d) (tR ws N d) hS hO,FQ h.yd hw hv hS (if L c=true then decide (c<d) else decide (d<c)),FR h.yd hw hv hO (if L c=true then decide (c<d) else decide (d<c)), <-cu, <-cu]
 ·unfold fc
  omega
 ·intro i j p
  have p0:=p 0
  rw[s0,b0]at p0
  have lo:=fI _ (h.yd.lt _ (hv.rd j)).mem
  have:=hN.CL h hc hd m4 (bK lw i) (bK lv j) (f:=sq (ws.getD c []) i) (g:=bq (ws.getD d []) j) (.inl (cE hw.ne i).symm) (.inr (tK hv.ne j).symm) p (by
   rw[bW hw.ne,bW hv.ne,p0,lo,h.l2 c d i j hc hd p]
   cases aB (rd (ws.getD d []) j)<;>rfl) (cE hw.ne i).symm
  rw[s0,b0,aI (h.yd.lt _ (hv.rd _))]at this
  exact this
 ·intro i j p
  have p0:=p 0
  rw[s0,s0]at p0
  have:=hN.CL h hc hd m4 (bK lw i) (bK lv j) (f:=sq (ws.getD c []) i) (g:=sq (ws.getD d []) j) (.inl (cE hw.ne i).symm) (.inl (cE hv.ne j).symm) p (by
   rw[bW hw.ne,bW hv.ne,p0,if_pos rfl]
   exact (h.l1 c d i j hc hd p).symm) (cE hw.ne i).symm
  rw[s0,s0]at this
  exact this
theorem xR (h:eF y ws L r M) (hN:Lies y ws L r M N) {c:Nat} (hc:c<ws.length):
  bZ (ws.getD c []).length (ws.getD c []).length (fun i j=>one (iG (pO ws N c) (pI ws N c) (pO ws N c) (pI ws N c) i j=true))=bZ (ws.getD c []).length (ws.getD c []).length (fc y (ws.getD c []) (ws.getD c []))+2*(((ws.getD c []).length / r c:Nat) - 1):=by
 have hw:=h.sw c hc
 have lw:=SD.mpr hw.ne
 have s0: ∀(w:List Nat) (i:Int),sq w i 0=rd w i:=fun w i=>by unfold sq;rw[show i+0=i by omega]
 have hS:=hN.two h hc hc
 have hO:=hN.S4 h hc hc
 obtain ⟨Hd,ND⟩:=h.root hc
 have S5:=h.rp c hc
 have e0:bZ (ws.getD c []).length (ws.getD c []).length (fun i j=>one (kc (ws.getD c []) (ws.getD c []) i j/\iG (pO ws N c) (pI ws N c) (pO ws N c) (pI ws N c) i j=true))=0:=by
  rw[show (0:Int)=bZ (ws.getD c []).length (ws.getD c []).length (fun _ _=>0) by unfold bZ;rw[show (fun _:Int=>sm (ws.getD c []).length fun _=>0)=fun _=>0 from funext fun _=>fJ _,fJ]]
  exact br fun i j _ _=>a_ fun z=>tI h.yd hw _ _ z.1
 rw[vL h.yd hw hw (tQ ws N c) (tR ws N c) (tQ ws N c) (tR ws N c) hS hO,e0,CK h.yd hw hS S5 Hd ND, <-cu, <-cu]
 ·unfold fc
  omega
 ·intro j hj
  rw[h.rr c hc]
  constructor
  ·intro q
   have:(j:Int)%(r c:Int)=0:=by
    rw[Int.zero_sub]at q
    exact Int.emod_eq_zero_of_dvd (Int.dvd_neg.mp (Int.dvd_of_emod_eq_zero q))
   have h2:((j%r c:Nat):Int)=0:=by rw[<-this];rfl
   omega
  ·intro q
   have:(j:Int)%(r c:Int)=0:=by
    have h2:((j%r c:Nat):Int)=(j:Int)%(r c:Int):=rfl
    rw[<-h2,q];rfl
   rw[Int.zero_sub]
   exact Int.emod_eq_zero_of_dvd (Int.dvd_neg.mpr (Int.dvd_of_emod_eq_zero this))
 ·intro i j p dH
  have p0:=p 0
  rw[s0,s0]at p0
  have tP:i6 (ws.getD c []).length i≠i6 (ws.getD c []).length j:=fun z=>dH (by rw[<-d_ lw, <-d_ lw,z])
  have:=hN.at h.yd hc hc (bK lw i) (bK lw j) hw hw (f:=sq (ws.getD c []) i) (g:=sq (ws.getD c []) j) (.inl (cE hw.ne i).symm) (.inl (cE hw.ne j).symm) (p 0) (fun z=>tP (Prod.mk.inj z).2)
  have FT:i6 (ws.getD c []).length i%r c=i6 (ws.getD c []).length j%r c:=by
   have p':bN (ws.getD c []) (ws.getD c []) (i6 (ws.getD c []).length i:Nat) (i6 (ws.getD c []).length j:Nat):=fun k=>by rw[cE hw.ne,cE hw.ne];exact p k
   have q:=(h.rr c hc _ _).mp p'
   have q2:=Int.emod_eq_emod_iff_emod_sub_eq_zero.mpr q
   have q3:((i6 (ws.getD c []).length i%r c:Nat):Int)=((i6 (ws.getD c []).length j%r c:Nat):Int):=q2
   omega
  have es:lK (ws.getD c []) (i6 (ws.getD c []).length i:Nat)=lK (ws.getD c []) (i6 (ws.getD c []).length j:Nat):=by
   unfold lK
   rw[bW hw.ne,bW hw.ne,p0,cE hw.ne,cE hw.ne,tK hw.ne,tK hw.ne,show sq (ws.getD c []) i=sq (ws.getD c []) j from funext p, <-dZ, <-dZ,show sq (ws.getD c []) i=sq (ws.getD c []) j from funext p]
  have e:= @xQ (ws.getD c []).length _ (r c) c _ _ (L c) (aB (rd (ws.getD c []) j)) S5 Hd (bK lw i) (bK lw j) FT tP
  unfold cD at this
  rw[es,ff,ff,s0,bW hw.ne,bW hw.ne,p0,e,decide_eq_decide.mpr (show i6 (ws.getD c []).length i<i6 (ws.getD c []).length j↔i%((ws.getD c []).length:Int)<j%((ws.getD c []).length:Int) by rw[<-d_ lw, <-d_ lw];omega)]at this
  unfold pO pI
  rw[p0]
  exact this
end
noncomputable def uG:Nat->(Int->Int->Int)->Int
 | 0,_=>0
 | n+1,h=>uG n h+sm n (fun j=>h j n)
theorem tT (n m:Nat) (h:Int->Int->Int):bZ (n+1) m h=bZ n m h+sm m (fun j=>h n j):=rfl
theorem tU (m:Nat) (h:Int->Int->Int): ∀n:Nat,bZ n (m+1) h=bZ n m h+sm n (fun i=>h i m)
 | 0=>rfl
 | n+1=>by
  rw[tT,tT,tU m h n]
  show bZ n m h+sm n (fun i=>h i m)+(sm m (fun j=>h n j)+h n m)=bZ n m h+sm m (fun j=>h n j)+(sm n (fun i=>h i m)+h n m)
  omega
theorem zq {h:Int->Int->Int}: ∀{n:Nat},(∀i j:Nat,i<n->j<n->h i j=h j i)->(∀i:Nat,i<n->h i i=0)->bZ n n h=2*uG n h
 | 0,_,_=>rfl
 | n+1,sy,dg=>by
  rw[tU,tT,zq (n:=n) (fun i j hi hj=>sy i j (by omega) (by omega)) (fun i hi=>dg i (by omega))]
  show 2*uG n h+sm n (fun j=>h n j)+(sm n (fun i=>h i n)+h n n)=2*(uG n h+sm n (fun j=>h j n))
  rw[dg n (by omega),aH (h:=fun j=>h n j) (g:=fun j=>h j n) (fun j hj=>sy n j (by omega) (by omega))]
  omega
theorem mj {h g:Int->Int->Int}: ∀{n:Nat},(∀i j:Nat,i<j->j<n->h i j=g i j)->uG n h=uG n g
 | 0,_=>rfl
 | n+1,e=>by
  show uG n h+_=uG n g+_
  rw[mj (n:=n) fun i j h1 h2=>e i j h1 (by omega),aH (g:=fun j=>g j n) fun j hj=>e j n hj (by omega)]
section
variable {y:List Nat} {ws:List (List Nat)} {L:Nat->Bool} {r:Nat->Nat} {M:Nat} {N:Nat->Nat->Nat->Nat}
theorem Lies.inj (h:eF y ws L r M) (hN:Lies y ws L r M N) {c i d j e e':Nat} (hc:c<ws.length) (hd:d<ws.length) (hi:i<(ws.getD c []).length) (hj:j<(ws.getD d []).length) (he:e=rd (ws.getD c []) i\/e=aA (rd (ws.getD c []) i)) (yV:e'=rd (ws.getD d []) j\/e'=aA (rd (ws.getD d []) j))
  (dH:(c,i,e)≠(d,j,e')):N c i e≠N d j e':=by
 have ly: ∀{c i e:Nat},c<ws.length->(e=rd (ws.getD c []) i\/e=aA (rd (ws.getD c []) i))->e∈y:=fun hc he=>he.elim (fun z=>z▸(h.sw _ hc).rd _) fun z=>z▸h.yd.cl _ ((h.sw _ hc).rd _)
 have ye:=ly hc he
 have Ve:=ly hd yV
 by_cases z:e=e'
 ·subst z
  have tP:(c,i)≠(d,j):=fun q=>dH (by rw[(Prod.mk.inj q).1,(Prod.mk.inj q).2])
  have le:=h.yd.lt _ ye
  have lc:=h.yd.lt _ ((h.sw c hc).rd i)
  have ld:=h.yd.lt _ ((h.sw d hd).rd j)
  by_cases l:aB e=true
  ·exact (hN.low c i d j e hc hd hi hj tP l (he.elim (fun z=> .inl z.symm) fun z=> .inr (by rw[z,aI lc])) (yV.elim (fun z=> .inl z.symm) fun z=> .inr (by rw[z,aI ld]))).1
  ·have:=(hN.low c i d j (aA e) hc hd hi hj tP (by rw[fI _ le.mem];simpa using l) (by rw[aI le];exact he.elim (fun z=> .inr z.symm) fun z=> .inl (by rw[z,aI lc])) (by rw[aI le];exact yV.elim (fun z=> .inr z.symm) fun z=> .inl (by rw[z,aI ld]))).2.1
   rwa [aI le]at this
 ·have n:=bR ye Ve z
  rcases YK n with q | q
  ·exact Xy (hN.sep c i d j e e' hc hd hi hj he yV q)
  ·exact ZK (hN.sep d j c i e' e hd hc hj hi yV he q)
theorem zr {n i j:Nat} {k:Int} (hi:i<n) (hj:j<n) (q:i6 n ((i:Int) - k)=i6 n ((j:Int) - k)):i=j:=by
 have lw:0<n:=XN (WO _) hi
 have q2:((i:Int) - k)%n=((j:Int) - k)%n:=by rw[<-d_ lw, <-d_ lw,q]
 have q3:=(Int.emod_sub_cancel_right k).mp q2
 rw[XJ (kb _) (Int.ofNat_lt.mpr hi),XJ (kb _) (Int.ofNat_lt.mpr hj)]at q3
 exact Int.ofNat.inj q3
theorem eh (h:eF y ws L r M) (hN:Lies y ws L r M N) {c d i j:Nat} (hc:c<ws.length) (hd:d<ws.length) (hi:i<(ws.getD c []).length) (hj:j<(ws.getD d []).length):
  pI ws N c ((i:Int) - 1)≠pO ws N d j/\((c,i)≠(d,j)->pI ws N c ((i:Int) - 1)≠pI ws N d ((j:Int) - 1)/\pO ws N c i≠pO ws N d j):=by
 have hw:=h.sw c hc
 have hv:=h.sw d hd
 have lw:=SD.mpr hw.ne
 have lv:=SD.mpr hv.ne
 have vo: ∀{c:Nat} (hw:SW y (ws.getD c [])) (k:Int),rd (ws.getD c []) k=rd (ws.getD c []) (i6 (ws.getD c []).length k:Nat)\/rd (ws.getD c []) k=aA (rd (ws.getD c []) (i6 (ws.getD c []).length k:Nat)):=fun hw k=> .inl (bW hw.ne k).symm
 have vi: ∀{c:Nat} (hw:SW y (ws.getD c [])) (k:Int),aA (rd (ws.getD c []) k)=rd (ws.getD c []) (i6 (ws.getD c []).length k:Nat)\/aA (rd (ws.getD c []) k)=aA (rd (ws.getD c []) (i6 (ws.getD c []).length k:Nat)):=fun hw k=> .inr (by rw[bW hw.ne k])
 refine ⟨hN.inj h hc hd (bK lw _) (bK lv _) (vi hw _) (vo hv _) fun q=>?_,fun dH=>⟨hN.inj h hc hd (bK lw _) (bK lv _) (vi hw _) (vi hv _) fun q=>?_,hN.inj h hc hd (bK lw _) (bK lv _) (vo hw _) (vo hv _) fun q=>?_⟩⟩
 ·obtain ⟨q1,q⟩:=Prod.mk.inj q
  obtain ⟨q2,q3⟩:=Prod.mk.inj q
  subst q1
  rw[<-bW hw.ne ((i:Int) - 1), <-bW hw.ne (j:Int),q2]at q3
  exact dX (h.yd.lt _ (hw.rd _)) q3
 ·obtain ⟨q1,q⟩:=Prod.mk.inj q
  subst q1
  exact dH (by rw[zr hi hj (Prod.mk.inj q).1])
 ·obtain ⟨q1,q⟩:=Prod.mk.inj q
  subst q1
  exact dH (by rw[zr (k:=0) hi hj (by rw[Zm,Zm];exact (Prod.mk.inj q).1)])
theorem FU (h:eF y ws L r M) (hN:Lies y ws L r M N) {c d:Nat} (hc:c<ws.length) (hd:d<ws.length) {i j:Nat} (hi:i<(ws.getD c []).length) (hj:j<(ws.getD d []).length):iG (pO ws N c) (pI ws N c) (pO ws N d) (pI ws N d) i j=iG (pO ws N d) (pI ws N d) (pO ws N c) (pI ws N c) j i:=by
 by_cases z:(c,i)=(d,j)
 ·obtain ⟨rfl,rfl⟩:=Prod.mk.inj z
  rfl
 have n:=eh h hN hc hd hi hj
 exact kZ (eh h hN hc hc hi hi).1 (eh h hN hd hd hj hj).1 (n.2 z).1 n.1 (Ne.symm (eh h hN hd hc hj hi).1) (n.2 z).2
theorem CM (h:eF y ws L r M) (hN:Lies y ws L r M N) {c:Nat} (hc:c<ws.length):
  2*uG (ws.getD c []).length (fun i j=>one (iG (pO ws N c) (pI ws N c) (pO ws N c) (pI ws N c) i j=true))=bZ (ws.getD c []).length (ws.getD c []).length (fc y (ws.getD c []) (ws.getD c []))+2*(((ws.getD c []).length / r c:Nat) - 1):=by
 rw[<-xR h hN hc]
 exact (zq (fun i j hi hj=>by rw[FU h hN hc hc hi hj]) (fun i hi=>a_ (by unfold iG;rw[vJ];decide))).symm
end
theorem CN {y:List Nat} {f g:Int->Nat} {a:Nat} (hy:Yd y) (hf:gG y f) (hg:gG y g) (h:f a=g a) (hn:f (a+1)≠g (a+1)):gk y g f a=!gk y f g a:=by
 have:eO y f (a+1)≠eO y g (a+1):=fun q=>hn (by
  unfold eO at q
  rw[show (a:Int)+1 - 1=a by omega, <-h]at q
  exact kY (hy.cl _ (hf.bE _)) (hf.bE _) (hg.bE _) q)
 unfold gk
 rw[<-decide_not]
 exact decide_eq_decide.mpr (by omega)
theorem xS {y:List Nat} {f g:Int->Nat} {b:Nat} (hy:Yd y) (hf:gG y f) (hg:gG y g) (h:f (-(b:Int))=g (-(b:Int))) (hn:f (-(b:Int) - 1)≠g (-(b:Int) - 1)):gy y g f b=!gy y f g b:=by
 have:eO y f (-(b:Int))≠eO y g (-(b:Int)):=fun q=>hn (by
  unfold eO at q
  rw[<-h]at q
  have r1:=hf.red (-(b:Int))
  have r2:=hg.red (-(b:Int))
  have c1:=(eQ (hy.cl _ (hf.bE (-(b:Int) - 1))) (hf.bE (-(b:Int))) (Ne.symm r1)).2.2
  have c2:=(eQ (hy.cl _ (hg.bE (-(b:Int) - 1))) (hf.bE (-(b:Int))) (by rw[h];exact Ne.symm r2)).2.2
  have:=kY (hf.bE (-(b:Int))) (hy.cl _ (hf.bE (-(b:Int) - 1))) (hy.cl _ (hg.bE (-(b:Int) - 1))) (by rw[c1,c2,q])
  exact dY (hy.lt _ (hf.bE _)) (hy.lt _ (hg.bE _)) this)
 unfold gy
 rw[<-decide_not]
 exact decide_eq_decide.mpr (by omega)
theorem Hk {y:List Nat} {f g:Int->Nat} (hy:Yd y) (hf:gG y f) (hg:gG y g):gM y f g->gM y g f:=fun ⟨a,r,x⟩=>⟨a,r.sy,by
 rw[CN hy hf hg (r.mh a (by omega) (by omega)) r.hi,xS hy hf hg (r.mh _ (by omega) (by omega)) r.lo]
 exact fun q=>x (by simpa using q)⟩
theorem xT {y:List Nat} {a b p q:Nat} (hy:Yd y) (ha:a∈y) (hb:b∈y) (hp:p∈y) (hq:q∈y) (oO:a≠b) (NO:p≠q):ac y a b p q=ac y p q a b:=by
 unfold ac
 by_cases z:p=a\/p=b\/q=a\/q=b
 ·rw[if_pos z,if_pos (z.elim (fun z=> .inl z.symm) fun z=>z.elim (fun z=> .inr (.inr (.inl z.symm))) fun z=>z.elim (fun z=> .inr (.inl z.symm)) fun z=> .inr (.inr (.inr z.symm)))]
 ·have n1:a≠p:=fun q=>z (.inl q.symm)
  have n2:b≠p:=fun q=>z (.inr (.inl q.symm))
  have n3:a≠q:=fun q=>z (.inr (.inr (.inl q.symm)))
  have n4:b≠q:=fun q=>z (.inr (.inr (.inr q.symm)))
  rw[if_neg z,if_neg (fun z=>z.elim n1 fun z=>z.elim n3 fun z=>z.elim n2 n4)]
  rw[di hy.nd ha hp hb n1 oO (Ne.symm n2),di hy.nd ha hq hb n3 oO (Ne.symm n4),di hy.nd hp ha hq (Ne.symm n1) NO n3,di hy.nd hp hb hq (Ne.symm n2) NO n4]
  exact kZ (bR ha hb oO) (bR hp hq NO) (bR ha hp n1) (bR ha hq n3) (bR hb hp n2) (bR hb hq n4)
theorem CO {Q:Int->Prop} {P:Nat->Bool}: ∀{m:Nat},(∀j:Nat,j<m->(Q j↔P j=true))->sm m (fun j=>one (Q j))=((List.range m).filter P).length
 | 0,_=>rfl
 | m+1,h=>by
  show sm m _+one (Q m)=_
  rw[CO (m:=m) fun j hj=>h j (by omega),Yv,Yo,UD,bp (h m (by omega))]
  cases e:P m
  ·rw[XE (by rw[e];decide),a_ (by decide)];simp
  ·rw[XQ e,fF rfl];simp
section
variable {y w:List Nat}
end
section
variable {y w:List Nat}
end
section
variable {y:List Nat} {ws:List (List Nat)}
end
theorem zt (n:Nat) (h:Int->Int->Int): ∀m:Nat,sm n (fun i=>sm m fun j=>h i j)=sm m fun j=>sm n fun i=>h i j
 | 0=>fJ n
 | m+1=>by
  show bZ n (m+1) h=sm m (fun j=>sm n fun i=>h i j)+sm n (fun i=>h i m)
  rw[tU, <-zt n h m]
  rfl
theorem jr (h:Nat->Int): ∀n:Nat,((List.range n).map h).sum=sm n (fun i=>h i.toNat)
 | 0=>rfl
 | n+1=>by
  rw[Yv,UH,List.sum_append,jr h n]
  show _=sm n _+h (((n:Nat):Int).toNat)
  rw[UG]
  simp
theorem zu (ws:List (List Nat)) (h:Nat×Nat->Int): ∀n:Nat,((vG ws n).map h).sum=sm n fun c=>sm (ws.getD c.toNat []).length fun i=>h (c.toNat,i.toNat)
 | 0=>rfl
 | n+1=>by
  unfold vG
  rw[UH,List.sum_append,zu ws h n,X4]
  show _+((List.range _).map fun i=>h (n,i)).sum=_
  rw[jr]
  rfl
noncomputable def cl {α:Type} (p:α->α->Bool):List α->Nat
 | []=>0
 | x::r=>(r.filter (p x)).length+cl p r
theorem tV {α:Type} (p:α->α->Bool) (m:List α): ∀l:List α,(cl p (l++m):Int)=cl p l+cl p m+(l.map fun x=>((m.filter (p x)).length:Int)).sum
 | []=>by show (cl p m:Int)=((0:Nat):Int)+cl p m+0;omega
 | a::l=>by
  show ((((l++m).filter (p a)).length+cl p (l++m):Nat):Int)=(((l.filter (p a)).length+cl p l:Nat):Int)+cl p m+(((a::l).map fun x=>((m.filter (p x)).length:Int)).sum)
  rw[Yo,UD,Xw,YG,X6,X6,tV p m l,X6]
  omega
theorem CP (p:Nat×Nat->Nat×Nat->Bool) (c:Nat): ∀n:Nat,(cl p ((List.range n).map fun i=>(c,i)):Int)=uG n (fun i j=>one (p (c,i.toNat) (c,j.toNat)=true))
 | 0=>rfl
 | n+1=>by
  rw[Yv,UH,tV,CP p c n,X4]
  show _+((0:Nat):Int)+((List.range n).map fun i=>((([(c,n)]:List (Nat×Nat)).filter (p (c,i))).length:Int)).sum=uG n _+sm n _
  rw[jr,Zx]
  congr 1
  rw[show ((0:Nat):Int)=0 from rfl,YL]
  refine aH fun i _=>?_
  show (((([(c,n)]:List (Nat×Nat)).filter (p (c,i))).length:Int))=one (p (c,((i:Nat):Int).toNat) (c,((n:Nat):Int).toNat)=true)
  rw[UG,UG]
  cases e:p (c,i) (c,n)
  ·rw[XE (by rw[e];decide),a_ (by decide)];rfl
  ·rw[XQ e,fF rfl];rfl
theorem zw (P:Nat×Nat->Bool) (c n:Nat):((((List.range n).map fun i=>(c,i)).filter P).length:Int)=sm n (fun j=>one (P (c,j.toNat)=true)):=by
 rw[List.filter_map,Kw,CO (P:=fun j=>P (c,j)) fun j _=>by rw[UG]]
 rfl
theorem CQ (ws:List (List Nat)) (p:Nat×Nat->Nat×Nat->Bool): ∀n:Nat,(cl p (vG ws n):Int)=sm n (fun c=>uG (ws.getD c.toNat []).length (fun i j=>one (p (c.toNat,i.toNat) (c.toNat,j.toNat)=true)))+uG n (fun c d=>bZ (ws.getD c.toNat []).length (ws.getD d.toNat []).length fun i j=>one (p (c.toNat,i.toNat) (d.toNat,j.toNat)=true))
 | 0=>rfl
 | n+1=>by
  unfold vG
  rw[tV,CQ ws p n,CP,zu]
  have u:((n:Nat):Int).toNat=n:=UG n
  show _+_+sm n _=(sm n _+uG (ws.getD ((n:Nat):Int).toNat []).length (fun i j=>one (p (((n:Nat):Int).toNat,i.toNat) (((n:Nat):Int).toNat,j.toNat)=true)))+(uG n _+sm n (fun c=>bZ (ws.getD c.toNat []).length (ws.getD ((n:Nat):Int).toNat []).length fun i j=>one (p (c.toNat,i.toNat) (((n:Nat):Int).toNat,j.toNat)=true)))
  rw[u]
  have:sm n (fun c=>sm (ws.getD c.toNat []).length fun i=>(((((List.range (ws.getD n []).length).map fun i=>(n,i)).filter (p (c.toNat,i.toNat))).length:Nat):Int))=sm n (fun c=>bZ (ws.getD c.toNat []).length (ws.getD n []).length fun i j=>one (p (c.toNat,i.toNat) (n,j.toNat)=true)):=aH fun c _=>aH fun i _=>zw _ _ _
  rw[this]
  omega
section
variable {y:List Nat} {ws:List (List Nat)} {L:Nat->Bool} {r:Nat->Nat} {M:Nat} {N:Nat->Nat->Nat->Nat}
noncomputable def Hl (ws:List (List Nat)) (N:Nat->Nat->Nat->Nat) (o p:Nat×Nat):Bool:=iG (pO ws N o.1) (pI ws N o.1) (pO ws N p.1) (pI ws N p.1) o.2 p.2
end
def Lx (f g:Int->Nat):Prop:= ∃m:Nat,f m<g m/\ ∀l:Nat,l<m->f l=g l
theorem tW {w:List Nat} (hw:w≠[]) {i k:Nat} (hi:i<=w.length) (hk:k<w.length):(dJ w i)[k]? =some (rd w ((i:Int)+k)):=by
 rw[nN hi hk]
 unfold Fw
 have:=eN hw ((i:Int)+k)
 rw[<-this]
 congr 1
 have e:(((k+i)%w.length:Nat):Int)=((i:Int)+k)%w.length:=by rw[ZA,X6,Int.add_comm]
 omega
theorem CT {w u:List Nat} (hw:w≠[]) (hl:u.length=w.length) {i j:Nat} (hi:i<=w.length) (hj:j<=w.length):dJ w i<dJ u j↔Lx (sq w i) (sq u j):=by
 have hu:u≠[]:=fun z=>hw (by rw[z]at hl;exact X7.mp hl.symm)
 have g1: ∀{k:Nat} (hk:k<(dJ w i).length),(dJ w i)[k]=sq w i k:=fun {k} hk=>by
  have:=tW hw hi (k:=k) (by rw[cC]at hk;exact hk)
  rw[Iw hk]at this
  exact Xr this
 have g2: ∀{k:Nat} (hk:k<(dJ u j).length),(dJ u j)[k]=sq u j k:=fun {k} hk=>by
  have:=tW hu (i:=j) (k:=k) (by omega) (by rw[cC]at hk;exact hk)
  rw[Iw hk]at this
  exact Xr this
 rw[List.lt_iff_exists]
 constructor
 ·rintro (⟨_,h⟩ | ⟨m,h1,h2,h3,h4⟩)
  ·rw[cC,cC,hl]at h;omega
  ·refine ⟨m,by rw[<-g1 h1, <-g2 h2];exact h4,fun l yE=>?_⟩
   rw[<-g1 (by omega), <-g2 (by omega)]
   exact h3 l yE
 ·rintro ⟨m,h1,h2⟩
  have hp:=SD.mpr hw
  have hm:m<w.length:=by
   refine Classical.byContradiction fun z=>?_
   have d:=ZR m w.length
   have c1:=g6 (f:=sq w i) (p:=w.length) (fun k=>cZ w i k) (m%w.length:Nat) (m / w.length)
   have c2:=g6 (f:=sq u j) (p:=w.length) (fun k=>by rw[<-hl];exact cZ u j k) (m%w.length:Nat) (m / w.length)
   have e:((m%w.length:Nat):Int)+((m / w.length:Nat):Int)*(w.length:Nat)=m:=by
    rw[Int.mul_comm];exact_mod_cast d
   rw[e]at c1 c2
   rw[c1,c2,h2 (m%w.length) (by have:=Y1 m hp;omega)]at h1
   omega
  refine .inr ⟨m,by rw[cC];exact hm,by rw[cC,hl];exact hm,fun l yE=>?_,?_⟩
  ·rw[g1,g2];exact h2 l yE
  ·rw[g1,g2];exact h1
theorem k_ {w:List Nat} (hw:w≠[]): ∃i:Nat,i<w.length/\fE w=dJ w i:=by
 have hp:=SD.mpr hw
 rcases j7 (kR w (w.length - 1)) w with h | h
 ·exact ⟨0,hp,by unfold fE;rw[h,vD]⟩
 ·unfold kR at h
  obtain ⟨k,hk,e⟩:=XA.mp h
  have:=Yt.mp hk
  exact ⟨k+1,by omega,by unfold fE;exact e.symm⟩
theorem mY {w:List Nat} {i:Nat} (hi:i<w.length): ¬dJ w i<fE w:=by
 unfold fE
 refine j8 _ _ _ ?_
 cases i with
 | zero=>rw[vD];exact Xp
 | succ i=>exact WN _ (XA.mpr ⟨i,Yt.mpr (by omega),rfl⟩)
noncomputable def leads (w:List Nat):Bool:=decide (fE w<fE (dA w))
theorem gm {v:List Nat} (h:v≠[]) (k:Int):sq (dA v) k=bq v (-1 - k):=by
 funext x
 unfold sq bq
 rw[g7 h]
 congr 2;omega
theorem ml {v:List Nat} (h:v≠[]):dA v≠[]:=fun z=>h (X7.mp (by rw[<-bV v,z];rfl))
theorem rk {w:List Nat} (hw:w≠[]):leads w=true↔ ∃i:Int, ∀j:Int,Lx (sq w i) (bq w j):=by
 have hp:=SD.mpr hw
 have hl:=bV w
 have ht:=ml hw
 unfold leads
 rw[decide_eq_true_iff]
 constructor
 ·intro h
  obtain ⟨i,hi,ei⟩:=k_ hw
  refine ⟨i,fun j=>?_⟩
  have hj:=bK (n:=(dA w).length) (by rw[hl];exact hp) (-1 - j)
  have h2:fE w<dJ (dA w) (i6 (dA w).length (-1 - j)):=List.not_le.mp fun z=>by
   have:=List.lt_of_le_of_lt z h
   exact mY hj this
  rw[ei]at h2
  have h3:=(CT hw hl (by omega) (by omega)).mp h2
  rw[cE ht,gm hw,show -1 - (-1 - j)=j by omega]at h3
  exact h3
 ·rintro ⟨i,h⟩
  obtain ⟨j,hj,ej⟩:=k_ ht
  have h2:=h (-1 - j)
  rw[show (-1:Int) - (j:Int)= -1 - j by omega, <-gm hw, <-cE hw]at h2
  have hi:=bK hp i
  have h3:=(CT hw hl (by omega) (by omega)).mpr h2
  rw[<-ej]at h3
  exact List.lt_of_le_of_lt (List.not_lt.mp (mY hi)) h3
theorem rm {w v:List Nat} (hw:w≠[]) (hv:v≠[]) {i j:Int} (h:bN w v i j):leads w=leads v:=by
 have e1: ∀k,sq w k=sq v (k - i+j):=fun k=>by
  funext x
  have:=h (k - i+x)
  unfold sq at this ⊢
  rw[show k+x=i+(k - i+x) by omega,this]
  congr 1;omega
 have e2: ∀k,bq w k=bq v (k - i+j):=fun k=>by rw[<-dZ, <-dZ,e1]
 rw[Zi,rk hw,rk hv]
 constructor
 ·rintro ⟨a,h⟩
  refine ⟨a - i+j,fun b=>?_⟩
  have:=h (b - j+i)
  rwa [e1,e2,show b - j+i - i+j=b by omega]at this
 ·rintro ⟨a,h⟩
  refine ⟨a - j+i,fun b=>?_⟩
  rw[e1,e2,show a - j+i - i+j=a by omega]
  exact h _
theorem rq {y w:List Nat} (hy:Yd y) (hw:SW y w):leads (dA w)=!leads w:=by
 have hl:AllLt w:=fun c hc=>hy.lt c (hw.bE c hc)
 have ne:fE w≠fE (dA w):=fun z=>by
  obtain ⟨i,hi,ei⟩:=k_ hw.ne
  obtain ⟨j,hj,ej⟩:=k_ (ml hw.ne)
  rw[bV]at hj
  have: ∀k:Nat,k<w.length->sq w i k=sq (dA w) j k:=fun k hk=>by
   have h1:=tW hw.ne (i:=i) (k:=k) (by omega) hk
   have h2:=tW (ml hw.ne) (i:=j) (k:=k) (by rw[bV];omega) (by rw[bV];exact hk)
   rw[<-ei,z,ej,h2]at h1
   exact (Xr h1).symm
  refine tI hy hw i (-1 - j) ?_
  rw[<-gm hw.ne]
  have hp:=SD.mpr hw.ne
  refine fw (p:=w.length) (q:=w.length) hp hp (fun k=>cZ w i k) (fun k=>by rw[<-bV w];exact cZ (dA w) j k) fun n hn=>?_
  by_cases q:n<w.length
  ·exact this n q
  ·have c1:=cZ w i ((n - w.length:Nat):Int)
   have c2:=cZ (dA w) j ((n - w.length:Nat):Int)
   rw[show ((n - w.length:Nat):Int)+w.length=n by omega]at c1
   rw[bV,show ((n - w.length:Nat):Int)+w.length=n by omega]at c2
   rw[c1,c2]
   exact this _ (by omega)
 unfold leads
 rw[FD hl, <-decide_not]
 refine decide_eq_decide.mpr ⟨fun h z=>?_,fun h=>?_⟩
 ·exact Y7 _ (List.lt_trans h z)
 ·exact List.not_le.mp fun z=>ne (List.le_antisymm z (List.not_lt.mp h))
theorem AX {y w v:List Nat} (hy:Yd y) (hw:SW y w) (hv:SW y v) {i j:Int} (h: ∀k,sq w i k=bq v j k):leads v=!leads w:=by
 have:bN w (dA v) i (-1 - j):=fun k=>by rw[gm hv.ne,show -1 - (-1 - j)=j by omega];exact h k
 rw[rm hw.ne (ml hv.ne) this,rq hy hv,Bool.not_not]
theorem CU {w:List Nat} (hw:w≠[]) {d:Nat}:wF w d↔ ∀k:Int,rd w (k+d)=rd w k:=by
 have hp:=SD.mpr hw
 have fr: ∀i:Nat,Fw w i=some (rd w i):=fun i=>by
  unfold Fw
  rw[<-eN hw (i:Int)]
  congr 1
 constructor
 ·intro h k
  have:=h (i6 w.length k)
  rw[fr,fr]at this
  have:=Xr this
  rw[bW hw]at this
  rw[<-this, <-g5 w (k+d), <-g5 w (((i6 w.length k+d:Nat)):Int),X6,d_ hp,Qag]
 ·intro h i
  rw[fr,fr,X6,h]
theorem fV {w:List Nat} (hw:w≠[]) {s:Nat} (h:bL w s):0<s/\ ∀i j:Int,bN w w i j↔(i - j)%(s:Int)=0:=by
 rcases h with ⟨z,_⟩ | h'
 ·exact absurd z hw
 have h:bL w s:= .inr h'
 obtain ⟨h1,h2,h3,_⟩:=h'
 have ps: ∀k:Int,rd w (k+s)=rd w k:=(CU hw).mp ((gj hw h2).mp (sZ h1 h2 h3))
 have pm: ∀(k t:Int),rd w (k+t*s)=rd w k:=fun k t=>by
  rcases Int.le_total 0 t with q | q
  ·obtain ⟨n,rfl⟩: ∃n:Nat,t=n:=⟨t.toNat,by omega⟩
   exact g6 ps k n
  ·obtain ⟨n,rfl⟩: ∃n:Nat,t= -(n:Int):=⟨(-t).toNat,by omega⟩
   have:=g6 ps (k+ -(n:Int)*s) n
   rw[<-this]
   congr 1
   rw[Int.neg_mul];omega
 refine ⟨h1,fun i j=>⟨fun p=>?_,fun p k=>?_⟩⟩
 ·have pd: ∀k:Int,rd w (k+(i - j))=rd w k:=fun k=>by
   have:=p (k - j)
   unfold sq at this
   rw[show i+(k - j)=k+(i - j) by omega,show j+(k - j)=k by omega]at this
   exact this
  have e:=ZY (i - j) s
  have hn:=Yh (i - j) (b:=(s:Int)) (by omega)
  have dk:=Yb (i - j) (b:=(s:Int)) (by omega)
  refine Classical.byContradiction fun z=>?_
  obtain ⟨d,hd⟩: ∃d:Nat,(i - j)%(s:Int)=d:=⟨((i - j)%(s:Int)).toNat,by omega⟩
  refine bL.least h (j:=d) (by omega) (by omega) ((CU hw).mpr fun k=>?_)
  have q:=pd k
  rw[<-e,hd,Int.mul_comm, <-Zx,pm]at q
  exact q
 ·unfold sq
  have e:=ZY (i - j) s
  rw[p,YL,Int.mul_comm]at e
  rw[show i+k=j+k+(i - j) by omega, <-e,pm]
theorem CV {y:List Nat} {ws:List (List Nat)} {r:Nat->Nat} {M:Nat} (hy:Yd y) (hw: ∀c,c<ws.length->SW y (ws.getD c [])) (hr: ∀c,c<ws.length->bL (ws.getD c []) (r c)) (hM: ∀c d,c<ws.length->d<ws.length->(ws.getD c []).length+(ws.getD d []).length<=M):eF y ws (fun c=>leads (ws.getD c [])) r M:=
 ⟨hy,hw,hM,fun c d i j hc hd h=>rm (hw c hc).ne (hw d hd).ne h,fun c d i j hc hd h=>AX hy (hw c hc) (hw d hd) h,fun c hc=>(fV (hw c hc).ne (hr c hc)).1,fun c hc=>(fV (hw c hc).ne (hr c hc)).2⟩
noncomputable def bs (y w v:List Nat) (i j:Int):Int:=one (ac y (aA (rd w (i - 1))) (rd w i) (aA (rd v (j - 1))) (rd v j)=true)+one (gM y (sq w i) (sq v j))+one (gM y (sq w i) (bq v j))
noncomputable def SS (y w v:List Nat):Int:=bZ w.length v.length (bs y w v)
theorem CY {y w v:List Nat} (hy:Yd y) (hw:SW y w) (hv:SW y v):bZ w.length v.length (fc y w v)=SS y w v:=br fun i j _ _=>by
 unfold fc bs
 rw[bp (zg (n:=w.length+v.length) hy (aY hw i) (aY hv j) fun z=>jo hw.ne hv.ne (fun k=>cZ w i k) (fun k=>cZ v j k) z),bp (zg (n:=w.length+v.length) hy (aY hw i) (fu hy hv j) fun z=>jo hw.ne hv.ne (fun k=>cZ w i k) (fun k=>oP v j k) z)]
theorem Hm (w:List Nat) (i:Int):rd w (i+w.length - 1)=rd w (i - 1):=by rw[show i+(w.length:Int) - 1=i - 1+w.length by omega,ft]
theorem NS (y w v:List Nat) (i j:Int):bs y w v (i+w.length) j=bs y w v i j:=by unfold bs;rw[ka,ft,Hm]
def KO (y:List Nat) (f g:Int->Nat):Prop:= ∃b,Run f g 0 b/\gk y f g 0≠gy y f g b
theorem CZ {y:List Nat} {n m:Nat} {F G:Int->Int->Nat} (bF: ∀k,dj (F k)=F (k - 1)) (bG: ∀k,dj (G k)=G (k - 1)) (pF: ∀k,F (k+n)=F k) (pG: ∀k,G (k+m)=G k):bZ n m (fun s t=>one (gM y (F s) (G t)))=bZ n m fun s t=>one (KO y (F s) (G t)):=by
 have key: ∀s t:Int,one (gM y (F s) (G t))+one (∃a b,Run (F (s - 1)) (G (t - 1)) (a+1) b/\gk y (F (s - 1)) (G (t - 1)) (a+1)≠gy y (F (s - 1)) (G (t - 1)) b)=one (KO y (F s) (G t))+one (∃a b,Run (F s) (G t) (a+1) b/\gk y (F s) (G t) (a+1)≠gy y (F s) (G t) b):=fun s t=>by
  rw[<-bF, <-bG]
  generalize F s=f
  generalize G t=g
  by_cases X: ∃a b,Run f g a b/\gk y f g a≠gy y f g b
  ·obtain ⟨a,b,r,x⟩:=X
   have u: ∀{a' b'},Run f g a' b'->a'=a/\b'=b:=fun r'=>r'.one r
   have e1:one (gM y f g)+one (∃a b,Run (dj f) (dj g) (a+1) b/\gk y (dj f) (dj g) (a+1)≠gy y (dj f) (dj g) b)=1:=by
    cases b with
    | zero=>
     rw[fF ⟨a,r,x⟩,a_ (fun ⟨a',b',r',_⟩=>absurd (u r'.fd).2 (Za _))]
     rfl
    | succ b=>
     rw[a_ (fun ⟨a',r',_⟩=>absurd (u r').2.symm (Za _)),fF ⟨a,b,r.bk,by rw[kW,kX];exact x⟩]
     rfl
   have e2:one (KO y f g)+one (∃a b,Run f g (a+1) b/\gk y f g (a+1)≠gy y f g b)=1:=by
    cases a with
    | zero=>
     rw[fF ⟨b,r,x⟩,a_ (fun ⟨a',b',r',_⟩=>absurd (u r').1 (Za _))]
     rfl
    | succ a=>
     rw[a_ (fun ⟨b',r',_⟩=>absurd (u r').1.symm (Za _)),fF ⟨a,b,r,x⟩]
     rfl
   rw[e1,e2]
  ·rw[a_ (fun ⟨a,r,x⟩=>X ⟨a,0,r,x⟩),a_ (fun ⟨a,b,r,x⟩=>X ⟨a,b+1,r.fd,by rw[kW,kX]at x;exact x⟩),a_ (fun ⟨b,r,x⟩=>X ⟨0,b,r,x⟩),a_ (fun ⟨a,b,r,x⟩=>X ⟨a+1,b,r,x⟩)]
 have sh:=rh (n:=n) (m:=m) (h:=fun s t=>one (∃a b,Run (F s) (G t) (a+1) b/\gk y (F s) (G t) (a+1)≠gy y (F s) (G t) b)) (fun i j=>by rw[pF]) (fun i j=>by rw[pG])
 refine (Int.add_left_inj (bZ n m (fun s t=>one (∃a b,Run (F s) (G t) (a+1) b/\gk y (F s) (G t) (a+1)≠gy y (F s) (G t) b)))).mp ?_
 rw[<-cu n m (fun s t=>one (KO y (F s) (G t))), <-sh, <-cu]
 exact br fun i j _ _=>key i j
theorem Hn {y:List Nat} {f g:Int->Nat} (hy:Yd y) (hf:gG y f) (hg:gG y g):KO y f g↔gM y (jC g) (jC f):=by
 have a1: ∀b:Nat,gk y (jC g) (jC f) b=gy y f g b:=fun b=>by
  unfold gk gy
  rw[i0 hy hf,i0 hy hg]
  exact decide_eq_decide.mpr ⟨fun q=>by omega,fun q=>by omega⟩
 have a2:gy y (jC g) (jC f) 0=gk y f g 0:=by
  unfold gk gy
  have e1:=i0 hy hf (-1)
  have e2:=i0 hy hg (-1)
  rw[show (-1:Int)+1= -((0:Nat):Int) from rfl]at e1 e2
  rw[e1,e2]
  exact decide_eq_decide.mpr ⟨fun q=>by have:(y.length:Int) - eO y g 1<y.length - eO y f 1:=q;show eO y f 1<eO y g 1;omega,fun q=>by have:eO y f 1<eO y g 1:=q;show (y.length:Int) - eO y g 1<y.length - eO y f 1;omega⟩
 constructor
 ·rintro ⟨b,r,x⟩
  exact ⟨b,(r.rv hy hf hg).sy,by rw[a1,a2];exact Ne.symm x⟩
 ·rintro ⟨b,r,x⟩
  have r2:=r.rv hy (hg.rv hy) (hf.rv hy)
  rw[mX hy hf,mX hy hg]at r2
  rw[a1,a2]at x
  exact ⟨b,r2.sy,Ne.symm x⟩
theorem tX {y:List Nat} {f g:Int->Nat} (hy:Yd y) (hf:gG y f) (hg:gG y g):gM y f g↔gM y g f:=⟨Hk hy hf hg,Hk hy hg hf⟩
theorem C0 (w:List Nat) (k:Int):dj (sq w k)=sq w (k - 1):=by
 funext x
 unfold dj sq
 congr 1
 omega
theorem NT {y w:List Nat} (hy:Yd y) (h:SW y w) (i:Int):jC (bq w i)=sq w i:=by rw[<-dZ,mX hy (aY h i)]
theorem FV {y w v:List Nat} (hy:Yd y) (hw:SW y w) (hv:SW y v):bZ w.length v.length (fun i j=>one (gM y (bq w i) (bq v j)))=bZ w.length v.length fun i j=>one (gM y (sq w i) (sq v j)):=by
 rw[CZ (F:=sq w) (G:=sq v) (C0 w) (C0 v) (ka w) (ka v)]
 exact br fun i j _ _=>bp (by rw[Hn hy (aY hw i) (aY hv j),dZ,dZ];exact tX hy (fu hy hw i) (fu hy hv j))
theorem C1 {y w v:List Nat} (hy:Yd y) (hw:SW y w) (hv:SW y v):bZ w.length v.length (fun i j=>one (gM y (bq w i) (sq v j)))=bZ w.length v.length fun i j=>one (gM y (sq w i) (bq v j)):=by
 have fb: ∀k,dj (bq v (-k))=bq v (-(k - 1)):=fun k=>by
  funext x
  unfold dj bq
  congr 2
  omega
 have fp: ∀k:Int,bq v (-(k+v.length))=bq v (-k):=fun k=>by rw[show -(k+(v.length:Int))= -k - v.length by omega,Jp]
 have e:=CZ (y:=y) (n:=w.length) (m:=v.length) (F:=sq w) (G:=fun k=>bq v (-k)) (C0 w) fb (ka w) fp
 have n1: ∀H:Int->Int->Int,(∀i j,H i (j+v.length)=H i j)->bZ w.length v.length (fun i j=>H i (-j))=bZ w.length v.length H:=fun H P=>aH fun i _=>oS (h:=H i) fun k=>P i k
 rw[n1 (fun i j=>one (gM y (sq w i) (bq v j))) (fun i j=>by rw[i4]),n1 (fun i j=>one (KO y (sq w i) (bq v j))) (fun i j=>by rw[i4])]at e
 rw[e]
 exact br fun i j _ _=>bp (by rw[Hn hy (aY hw i) (fu hy hv j),dZ,NT hy hv];exact tX hy (fu hy hw i) (aY hv j))
theorem AY {y w:List Nat} (hy:Yd y) (h:SW y w) (i:Int):aA (rd w (i - 1))∈y/\rd w i∈y/\aA (rd w (i - 1))≠rd w i:=⟨hy.cl _ (h.rd _),h.rd _,Ne.symm (h.red i)⟩
theorem tY {y w v:List Nat} (hy:Yd y) (hw:SW y w) (hv:SW y v):SS y w v=SS y v w:=by
 have sw: ∀H:Int->Int->Int,bZ v.length w.length (fun j i=>H i j)=bZ w.length v.length H:=fun H=>zt _ _ _
 have e: ∀u z:List Nat,SS y u z=bZ u.length z.length (fun i j=>one (ac y (aA (rd u (i - 1))) (rd u i) (aA (rd z (j - 1))) (rd z j)=true))+bZ u.length z.length (fun i j=>one (gM y (sq u i) (sq z j)))+bZ u.length z.length (fun i j=>one (gM y (sq u i) (bq z j))):=fun u z=>by
  unfold SS bs
  rw[cu,cu]
 rw[e w v,e v w, <-C1 hy hw hv, <-sw, <-sw, <-sw]
 congr 1
 ·congr 1
  ·exact br fun j i _ _=>by
    obtain ⟨a1,a2,a3⟩:=AY hy hw i
    obtain ⟨b1,b2,b3⟩:=AY hy hv j
    rw[xT hy a1 a2 b1 b2 a3 b3]
  ·exact br fun j i _ _=>bp (tX hy (aY hw i) (aY hv j))
 ·exact br fun j i _ _=>bp (tX hy (fu hy hw i) (aY hv j))
theorem Ho {h:Int->Int} {n:Nat} (P: ∀k,h (k+n)=h k): ∀k:Nat,sm n (fun i=>h (i+k))=sm n h
 | 0=>aH fun i _=>by rw[show (i:Int)+((0:Nat):Int)=i by omega]
 | k+1=>by
  rw[<-Ho P k, <-nS (h:=fun i=>h (i+k)) (n:=n) (fun j=>by rw[show j+(n:Int)+k=j+k+n by omega,P])]
  exact aH fun i _=>by rw[show (i:Int)+((k+1:Nat):Int)=i+1+k by omega]
theorem Jt {y w v:List Nat} (hw:w≠[]) {k:Nat} (hk:k<=w.length):SS y (dJ w k) v=SS y w v:=by
 have r: ∀i,rd (dJ w k) i=rd w (i+k):=tf hw hk
 have ls:(dJ w k).length=w.length:=by unfold dJ;rw[UD,Xx,Xm];omega
 have q: ∀i,sq (dJ w k) i=sq w (i+k):=fun i=>by
  funext x
  unfold sq
  rw[r,show i+x+(k:Int)=i+k+x by omega]
 unfold SS
 rw[ls]
 show sm _ (fun i=>sm _ fun j=>bs y (dJ w k) v i j)=sm _ fun i=>sm _ fun j=>bs y w v i j
 rw[<-Ho (h:=fun i=>sm v.length fun j=>bs y w v i j) (n:=w.length) (fun i=>aH fun j _=>NS y w v i j) k]
 exact aH fun i _=>aH fun j _=>by
  unfold bs
  rw[q,r,r,show (i:Int) - 1+k=i+k - 1 by omega]
theorem FW (y:List Nat) (a b p q:Nat):ac y a b q p=ac y a b p q:=by
 unfold ac
 have e:(q=a\/q=b\/p=a\/p=b)↔(p=a\/p=b\/q=a\/q=b):=⟨fun h=>by rcases h with h | h | h | h<;>simp[h],fun h=>by rcases h with h | h | h | h<;>simp[h]⟩
 by_cases z:p=a\/p=b\/q=a\/q=b
 ·rw[if_pos z,if_pos (e.mpr z)]
 ·rw[if_neg z,if_neg fun g=>z (e.mp g)]
  cases gr y a p b<;>cases gr y a q b<;>rfl
theorem Ju {y w v:List Nat} (hy:Yd y) (hw:SW y w) (hv:SW y v):SS y (dA w) v=SS y w v:=by
 have e: ∀u z:List Nat,SS y u z=bZ u.length z.length (fun i j=>one (ac y (aA (rd u (i - 1))) (rd u i) (aA (rd z (j - 1))) (rd z j)=true))+bZ u.length z.length (fun i j=>one (gM y (sq u i) (sq z j)))+bZ u.length z.length (fun i j=>one (gM y (sq u i) (bq z j))):=fun u z=>by
  unfold SS bs
  rw[cu,cu]
 have n1: ∀H:Int->Int->Int,(∀i j,H (i+w.length) j=H i j)->bZ w.length v.length (fun i j=>H (-1 - i) j)=bZ w.length v.length H:=fun H P=>by
  show sm _ (fun i=>sm _ fun j=>H (-1 - i) j)=sm _ fun i=>sm _ fun j=>H i j
  rw[<-oS (h:=fun i=>sm v.length fun j=>H i j) (n:=w.length) (fun i=>aH fun j _=>P i j), <-nS (h:=fun i=>sm v.length fun j=>H (-i) j) (n:=w.length) (fun i=>aH fun j _=>by rw[<-P (-(i+w.length)),show -(i+(w.length:Int))+w.length= -i by omega])]
  exact aH fun i _=>aH fun j _=>by rw[show -1 - (i:Int)= -((i:Int)+1) by omega]
 rw[e (dA w) v,e w v,bV, <-FV hy hw hv, <-C1 hy hw hv, <-n1 (fun i j=>one (gM y (bq w i) (bq v j))) (fun i j=>by rw[i4]), <-n1 (fun i j=>one (gM y (bq w i) (sq v j))) (fun i j=>by rw[i4])]
 rw[show bZ w.length v.length (fun i j=>one (gM y (sq (dA w) i) (sq v j)))=bZ w.length v.length (fun i j=>one (gM y (bq w (-1 - i)) (sq v j))) from br fun i j _ _=>by rw[gm hw.ne],show bZ w.length v.length (fun i j=>one (gM y (sq (dA w) i) (bq v j)))=bZ w.length v.length (fun i j=>one (gM y (bq w (-1 - i)) (bq v j))) from br fun i j _ _=>by rw[gm hw.ne]]
 have ea:bZ w.length v.length (fun i j=>one (ac y (aA (rd (dA w) (i - 1))) (rd (dA w) i) (aA (rd v (j - 1))) (rd v j)=true))=bZ w.length v.length (fun i j=>one (ac y (aA (rd w (i - 1))) (rd w i) (aA (rd v (j - 1))) (rd v j)=true)):=by
  show sm _ (fun i=>sm _ fun j=>one (ac y (aA (rd (dA w) (i - 1))) (rd (dA w) i) (aA (rd v (j - 1))) (rd v j)=true))=sm _ fun i=>sm _ fun j=>one (ac y (aA (rd w (i - 1))) (rd w i) (aA (rd v (j - 1))) (rd v j)=true)
  rw[<-oS (h:=fun i=>sm v.length fun j=>one (ac y (aA (rd w (i - 1))) (rd w i) (aA (rd v (j - 1))) (rd v j)=true)) (n:=w.length) (fun i=>aH fun j _=>by rw[Hm,ft])]
  refine aH fun i _=>aH fun j _=>?_
  rw[g7 hw.ne,g7 hw.ne,aI (hy.lt _ (hw.rd _)),show -1 - ((i:Int) - 1)= -(i:Int) by omega,show -1 - (i:Int)= -(i:Int) - 1 by omega]
  obtain ⟨a1,a2,a3⟩:=AY hy hw (-(i:Int))
  obtain ⟨b1,b2,b3⟩:=AY hy hv j
  rw[xT hy a2 a1 b1 b2 (Ne.symm a3) b3,FW, <-xT hy a1 a2 b1 b2 a3 b3]
 rw[ea,Zx,Zx]
 congr 1
 exact Int.add_comm _ _
theorem ke {w:List Nat} (σ:Nat->Nat) (h:w≠[]) (k:Int):rd (w.map σ) k=σ (rd w k):=by
 have hl:=SD.mpr h
 have h1:=Yh k (b:=(w.length:Int)) (by omega)
 have h2:=Yb k (b:=(w.length:Int)) (by omega)
 have hi:(k%(w.length:Int)).toNat<w.length:=by omega
 unfold rd
 rw[Kw,UI,UI,Xo,Iw hi]
 rfl
structure p9 (y z:List Nat) (σ:Nat->Nat) (neg:Bool):Prop where
 yd:Yd y
 zd:Yd z
 Vf: ∀a∈y,σ a∈z
 inj: ∀a∈y, ∀b∈y,σ a=σ b->a=b
 Hq: ∀a∈y,σ (aA a)=aA (σ a)
 gr: ∀a∈y, ∀b∈y, ∀c∈y,a≠b->a≠c->b≠c->gr z (σ a) (σ b) (σ c)=(neg ^^ gr y a b c)
section
variable {y z w v:List Nat} {σ:Nat->Nat} {neg:Bool}
theorem p9.sw (T:p9 y z σ neg) (h:SW y w):SW z (w.map σ):=⟨fun q=>h.ne (List.map_eq_nil_iff.mp q),fun c hc=>by
 obtain ⟨a,ha,rfl⟩:=XA.mp hc
 exact T.Vf a (h.bE a ha),fun k=>by
 rw[ke σ h.ne,ke σ h.ne, <-T.Hq _ (h.rd _)]
 exact fun q=>h.red k (T.inj _ (h.rd _) _ (T.yd.cl _ (h.rd _)) q)⟩
theorem p9.bg (T:p9 y z σ neg) {f g:Int->Nat} (hf:gG y f) (hg:gG y g) (Vg:gG z fun k=>σ (f k)) (Fb:gG z fun k=>σ (g k)):gM z (fun k=>σ (f k)) (fun k=>σ (g k))↔gM y f g:=by
 have ne: ∀k,f k≠g k->σ (f k)≠σ (g k):=fun k h q=>h (T.inj _ (hf.bE k) _ (hg.bE k) q)
 have run: ∀{a b},Run (fun k=>σ (f k)) (fun k=>σ (g k)) a b↔Run f g a b:=fun {a b}=>⟨fun r=>⟨fun k h1 h2=>T.inj _ (hf.bE k) _ (hg.bE k) (r.mh k h1 h2),fun q=>r.hi (by show σ _=σ _;rw[q]),fun q=>r.lo (by show σ _=σ _;rw[q])⟩,fun r=>⟨fun k h1 h2=>by show σ _=σ _;rw[r.mh k h1 h2],ne _ r.hi,ne _ r.lo⟩⟩
 have key: ∀a,Run f g a 0->gk z (fun k=>σ (f k)) (fun k=>σ (g k)) a=(neg ^^ gk y f g a)/\gy z (fun k=>σ (f k)) (fun k=>σ (g k)) 0=(neg ^^ gy y f g 0):=fun a r=>by
  have h0:=r.zero
  have ha:=r.mh a (by omega) (by omega)
  have r1:=hf.red (a+1)
  have r2:=hg.red (a+1)
  rw[show (a:Int)+1 - 1=a by omega]at r1 r2
  have lo:f (-1)≠g (-1):=r.lo
  have r3:=hf.red 0
  have r4:=hg.red 0
  rw[Int.zero_sub]at r3 r4
  constructor
  ·rw[tG (by show σ _=σ _;rw[ha]),tG ha]
   show My.gr z (aA (σ (f a))) _ _=_
   rw[<-T.Hq _ (hf.bE a)]
   exact T.gr _ (T.yd.cl _ (hf.bE a)) _ (hf.bE _) _ (hg.bE _) (Ne.symm r1) (by rw[ha];exact Ne.symm r2) r.hi
  ·rw[tF T.zd Vg Fb (by show σ _=σ _;rw[h0]) (ne _ lo),tF T.yd hf hg h0 lo]
   show (!My.gr z (aA (σ (f (-1)))) (aA (σ (g (-1)))) (σ (f 0)))=_
   rw[<-T.Hq _ (hf.bE _), <-T.Hq _ (hg.bE _),T.gr _ (T.yd.cl _ (hf.bE _)) _ (T.yd.cl _ (hg.bE _)) _ (hf.bE 0) (fun q=>lo (dY (T.yd.lt _ (hf.bE _)) (T.yd.lt _ (hg.bE _)) q)) (Ne.symm r3) (by rw[h0];exact Ne.symm r4)]
   cases neg<;>cases My.gr y (aA (f (-1))) (aA (g (-1))) (f 0)<;>rfl
 constructor
 ·rintro ⟨a,r,x⟩
  have r':=run.mp r
  obtain ⟨k1,k2⟩:=key a r'
  rw[k1,k2]at x
  exact ⟨a,r',fun q=>x (by rw[q])⟩
 ·rintro ⟨a,r,x⟩
  obtain ⟨k1,k2⟩:=key a r
  refine ⟨a,run.mpr r,?_⟩
  rw[k1,k2]
  exact fun q=>x (by cases neg<;>cases h1:gk y f g a<;>cases h2:gy y f g 0<;>simp[h1,h2]at q ⊢)
theorem p9.ac (T:p9 y z σ neg) {a b p q:Nat} (ha:a∈y) (hb:b∈y) (hp:p∈y) (hq:q∈y) (ab:a≠b):ac z (σ a) (σ b) (σ p) (σ q)=ac y a b p q:=by
 have e: ∀{a b},a∈y->b∈y->(σ a=σ b↔a=b):=fun {a b} ha hb=>⟨T.inj a ha b hb,fun q=>by rw[q]⟩
 unfold My.ac
 have e4:(σ p=σ a\/σ p=σ b\/σ q=σ a\/σ q=σ b)↔(p=a\/p=b\/q=a\/q=b):=by rw[e hp ha,e hp hb,e hq ha,e hq hb]
 by_cases c:p=a\/p=b\/q=a\/q=b
 ·rw[if_pos c,if_pos (e4.mpr c)]
 ·rw[if_neg c,if_neg fun z=>c (e4.mp z)]
  have n1:a≠p:=fun q=>c (.inl q.symm)
  have n2:p≠b:=fun q=>c (.inr (.inl q))
  have n3:a≠q:=fun q=>c (.inr (.inr (.inl q.symm)))
  have n4:q≠b:=fun q=>c (.inr (.inr (.inr q)))
  rw[T.gr a ha p hp b hb n1 ab n2,T.gr a ha q hq b hb n3 ab n4]
  cases neg<;>cases My.gr y a p b<;>cases My.gr y a q b<;>rfl
theorem p9.same (T:p9 y z σ neg) (hw:SW y w) (hv:SW y v):SS z (w.map σ) (v.map σ)=SS y w v:=by
 have KP:=T.sw hw
 have ON:=T.sw hv
 have cm: ∀{u:List Nat} (hu:SW y u) (k:Int),aA (rd (u.map σ) k)=σ (aA (rd u k)):=fun {u} hu k=>by rw[ke σ hu.ne,T.Hq _ (hu.rd k)]
 have es: ∀{u:List Nat} (hu:SW y u) (i:Int),sq (u.map σ) i=fun k=>σ (sq u i k):=fun {u} hu i=>by
  funext k
  unfold sq
  exact ke σ hu.ne _
 have eb: ∀{u:List Nat} (hu:SW y u) (i:Int),bq (u.map σ) i=fun k=>σ (bq u i k):=fun {u} hu i=>by
  funext k
  unfold bq
  exact cm hu _
 unfold SS
 rw[Kw,Kw]
 refine br fun i j _ _=>?_
 have b1:=T.bg (aY hw i) (aY hv j) (by rw[<-es hw];exact aY KP i) (by rw[<-es hv];exact aY ON j)
 have b2:=T.bg (aY hw i) (fu T.yd hv j) (by rw[<-es hw];exact aY KP i) (by rw[<-eb hv];exact fu T.zd ON j)
 obtain ⟨a1,a2,a3⟩:=AY T.yd hw i
 obtain ⟨c1,c2,c3⟩:=AY T.yd hv j
 unfold bs
 rw[cm hw,cm hv,ke σ hw.ne,ke σ hv.ne,T.ac a1 a2 c1 c2 a3,es hw,es hv,eb hv,bp b1,bp b2]
end
theorem AZ {w v:List Nat} {s t:Nat} (hw:w≠[]) (hv:v≠[]) (h:bL w s) (g:bL v t) (e: ∀d:Int,bN w w d 0↔bN v v d 0):s=t:=by
 obtain ⟨p1,a⟩:=fV hw h
 obtain ⟨p2,b⟩:=fV hv g
 have key: ∀d:Nat,d%s=0↔d%t=0:=fun d=>by
  have k:=e d
  rw[a,b,Zm]at k
  have c1:((d%s:Nat):Int)=(d:Int)%(s:Int):=rfl
  have c2:((d%t:Nat):Int)=(d:Int)%(t:Int):=rfl
  rw[<-c1, <-c2]at k
  exact ⟨fun q=>Int.ofNat.inj (k.mp (by rw[q];rfl)),fun q=>Int.ofNat.inj (k.mpr (by rw[q];rfl))⟩
 exact ZS (Z4 p2 (Y5 ((key t).mpr (Nat.mod_self t)))) (Z4 p1 (Y5 ((key s).mp (Nat.mod_self s))))
theorem gN (w:List Nat) (d:Int):bN w w d 0↔ ∀k,rd w (d+k)=rd w k:=by
 unfold bN sq
 exact ⟨fun h k=>by have:=h k;rwa [YL]at this,fun h k=>by rw[YL];exact h k⟩
theorem FX {w:List Nat} (hw:w≠[]) {n:Nat} (hn:n<=w.length) (d:Int):bN (dJ w n) (dJ w n) d 0↔bN w w d 0:=by
 rw[gN,gN]
 have r: ∀i,rd (dJ w n) i=rd w (i+n):=tf hw hn
 constructor
 ·intro h k
  have:=h (k - n)
  rw[r,r,show d+(k - (n:Int))+n=d+k by omega,show k - (n:Int)+n=k by omega]at this
  exact this
 ·intro h k
  rw[r,r,show d+k+(n:Int)=d+(k+n) by omega]
  exact h _
theorem FY {y z w:List Nat} {σ:Nat->Nat} {neg:Bool} (T:p9 y z σ neg) (hw:SW y w) (d:Int):bN (w.map σ) (w.map σ) d 0↔bN w w d 0:=by
 rw[gN,gN]
 simp only[ke σ hw.ne]
 exact ⟨fun h k=>T.inj _ (hw.rd _) _ (hw.rd _) (h k),fun h k=>by rw[h k]⟩
theorem FZ {y w:List Nat} (hy:Yd y) (hw:SW y w) (d:Int):bN (dA w) (dA w) d 0↔bN w w d 0:=by
 rw[gN,gN]
 simp only[g7 hw.ne]
 constructor
 ·intro h k
  have:=h (-1 - d - k)
  rw[show -1 - (d+(-1 - d - k))=k by omega,show -1 - (-1 - d - k)=d+k by omega]at this
  exact (dY (hy.lt _ (hw.rd _)) (hy.lt _ (hw.rd _)) this).symm
 ·intro h k
  have:=h (-1 - (d+k))
  rw[<-this,show d+(-1 - (d+k))= -1 - k by omega]
theorem Jv {y:List Nat} {p:Nat->Bool} (hy:Yd y) (hz:Yd (y.filter p)):p9 (y.filter p) y id false:=
 ⟨hz,hy,fun a ha=>(XI.mp ha).1,fun a _ b _ e=>e,fun a _=>rfl,fun a ha b hb c hc ab ac bc=>by
  rw[AN hy.nd ha hb hc ab ac bc]
  show My.gr y a b c=_
  cases My.gr y a b c<;>rfl⟩
theorem tZ {y:List Nat} {e:Nat} (hn:y.Nodup) (he:e∈y):y.reverse.idxOf e=y.length - 1 - y.idxOf e:=by
 have hi:=SA he
 have hr:=YA.mpr he
 have hj:=SA hr
 have uR:y.reverse.Nodup:=(Zq y).nodup_iff.mpr hn
 refine NM uR hj (by rw[XB];omega) ?_
 rw[Ya,List.getElem_reverse]
 have:y.length - 1 - (y.length - 1 - y.idxOf e)=y.idxOf e:=by omega
 simp only[this]
 exact (Ya _).symm
theorem Jw {a b:List Nat} {x y z:Nat} (hn:(a++b).Nodup) (hx:x∈a++b) (hy:y∈a++b) (hz:z∈a++b) (xy:x≠y) (xz:x≠z) (yz:y≠z):gr (b++a) x y z=gr (a++b) x y z:=by
 have pm: ∀{e:Nat},e∈a++b->e∈b++a:=fun {e} he=>ZW.mem_iff.mp he
 rw[di hn hx hy hz xy xz yz,di (ZW.nodup_iff.mp hn) (pm hx) (pm hy) (pm hz) xy xz yz]
 refine decide_eq_decide.mpr ?_
 rw[tw hn hx,tw hn hy,tw hn hz]
 have ix:=SA hx
 have iy:=SA hy
 have iz:=SA hz
 rw[UD]at ix iy iz
 unfold iF
 split<;>split<;>split<;>omega
theorem F_ {y:List Nat} {a b c:Nat} (hn:y.Nodup) (ha:a∈y) (hb:b∈y) (hc:c∈y) (oO:a≠b) (xH:a≠c) (xI:b≠c):gr y.reverse a c b=gr y a b c:=by
 have pm: ∀{e:Nat},e∈y->e∈y.reverse:=fun {e} he=>YA.mpr he
 rw[di hn ha hb hc oO xH xI,di ((Zq y).nodup_iff.mpr hn) (pm ha) (pm hc) (pm hb) xH oO (Ne.symm xI)]
 refine decide_eq_decide.mpr ?_
 rw[tZ hn ha,tZ hn hb,tZ hn hc]
 have ia:=SA ha
 have ib:=SA hb
 have ic:=SA hc
 have n1:=bR ha hb oO
 have n2:=bR ha hc xH
 have n3:=bR hb hc xI
 unfold iF
 omega
noncomputable def fK (y:List Nat):List Nat:=(y.filter aB).mergeSort fun a b=>decide (a<=b)
theorem js (y:List Nat):(fK y).Perm (y.filter aB):=List.mergeSort_perm _ _
theorem vO (y:List Nat):(fK y).Pairwise (· <= ·):=
 (List.pairwise_mergeSort (le:=fun a b=>decide (a<=b)) (fun a b c h1 h2=>decide_eq_true (XM (of_decide_eq_true h1) (of_decide_eq_true h2))) (fun a b=>by
  rcases Nat.le_total a b with z | z
  ·rw[decide_eq_true z];rfl
  ·rw[decide_eq_true z,Bool.or_true]) (y.filter aB)).imp fun z=>of_decide_eq_true z
theorem zx {y l:List Nat} (h:l.Perm (y.filter aB)) (p:l.Pairwise (· <= ·)):l=fK y:=AO (h.trans (js y).symm) p (vO y)
theorem C2 {y:List Nat} (h:Yd y) {e:Nat} (he:e∈y):PyProof.Rows.lo1 e∈fK y:=by
 refine (js y).mem_iff.mpr (XI.mpr ?_)
 rcases h.lt e he with z | z
 ·rw[(bo e z).2.1];exact ⟨he,(bo e z).1⟩
 ·rw[(bQ e z).2.1];exact ⟨h.cl e he,(bo _ (bQ e z).2.2.2).1⟩
theorem gO {y:List Nat} (h:Yd y):2*(fK y).length=y.length:=by rw[(js y).length_eq];exact Cy h
structure Pr where
 t:Addr
 c:Nat
 i:Nat
noncomputable def rz (ps:List Pr):List V:=ps.map fun p=>V.ref p.t
theorem t5 (ps:List Pr):(rz ps).length=ps.length:=by unfold rz;rw[Kw]
theorem C3 (a:List Pr) (p:Pr):rz a++[V.ref p.t]=rz (a++[p]):=by unfold rz;rw[UH];rfl
theorem Ga (a:List Pr):(rz a).reverse=rz a.reverse:=by unfold rz;rw[YI]
theorem C5 {ps:List Pr} {i:Nat} {x:V} (h:(rz ps)[i]? =some x): ∃p,ps[i]? =some p/\x=V.ref p.t:=by
 unfold rz at h
 rw[Xo]at h
 cases e:ps[i]? with
 | none=>rw[e]at h;cases h
 | some p=>rw[e]at h;cases h;exact ⟨p,rfl,rfl⟩
structure nj (H:Hp) (p:Pr):Prop where
 tp:H p.t=some (.tup [.int p.c, .int p.i])
 cz:p.c<1000
 iz:p.i<1000
theorem nj.same {H H':Hp} {p:Pr} (h:nj H p) (s:aq H H'):nj H' p:=⟨s _ _ h.tp,h.cz,h.iz⟩
structure Od where
 o:Addr
 ps:List Pr
structure A0 (H:Hp) (o:Od):Prop where
 tp:H o.o=some (.tup (rz o.ps))
 pr: ∀p∈o.ps,nj H p
 fw:o.ps.length<=100
theorem A0.same {H H':Hp} {o:Od} (h:A0 H o) (s:aq H H'):A0 H' o:=⟨s _ _ h.tp,fun p hp=>(h.pr p hp).same s,h.fw⟩
noncomputable def Gb (os:List Od):List V:=os.map fun o=>V.ref o.o
theorem C6 (a:List Od) (p:Od):Gb a++[V.ref p.o]=Gb (a++[p]):=by unfold Gb;rw[UH];rfl
theorem Jx {os:List Od} {i:Nat} {o:Od} (h:os[i]? =some o):(Gb os)[i]? =some (V.ref o.o):=by unfold Gb;rw[Xo,h];rfl
structure xU (H:Hp) (dr:Addr) (ws:List (List Nat)) (os:List Od):Prop where
 ex: ∃wt ot,H dr=some (.tup [.ref wt, .ref ot])/\H wt=some (.tup (gX ws))/\H ot=some (.tup (Gb os))
 od: ∀o∈os,A0 H o
theorem xU.same {H H':Hp} {dr:Addr} {ws:List (List Nat)} {os:List Od} (h:xU H dr ws os) (s:aq H H'):xU H' dr ws os:=by
 obtain ⟨⟨wt,ot,h1,h2,h3⟩,g⟩:=h
 exact ⟨⟨wt,ot,s _ _ h1,s _ _ h2,s _ _ h3⟩,fun o ho=>(g o ho).same s⟩
noncomputable def xV (y:List Nat) (os:List Od) (e:Nat):List Pr:=((os[(fK y).idxOf (PyProof.Rows.lo1 e)]?).map Od.ps).getD []
noncomputable def nU (y:List Nat) (os:List Od) (e:Nat):List Pr:=if isUp e=true then (xV y os e).reverse else xV y os e
theorem i7 {y:List Nat} {os:List Od} {e:Nat} (h:Yd y) (he:e∈y) (ho:2*os.length=y.length): ∃o∈os,os[(fK y).idxOf (PyProof.Rows.lo1 e)]? =some o/\xV y os e=o.ps:=by
 have hi:=SA (C2 h he)
 have hl:=gO h
 have NU:(fK y).idxOf (PyProof.Rows.lo1 e)<os.length:=by omega
 exact ⟨os[(fK y).idxOf (PyProof.Rows.lo1 e)],XF NU,Iw NU,by unfold xV;rw[Iw NU];rfl⟩
structure Pt where
 t:Addr
 c:Nat
 i:Nat
 e:Nat
noncomputable def Et (ps:List Pt):List V:=ps.map fun p=>V.ref p.t
theorem zy (ps:List Pt):(Et ps).length=ps.length:=by unfold Et;rw[Kw]
theorem C7 (a:List Pt) (p:Pt):Et a++[V.ref p.t]=Et (a++[p]):=by unfold Et;rw[UH];rfl
noncomputable def Pt.is (p:Pt):Nat×Nat×Nat:=(p.c,p.i,p.e)
structure qm (H:Hp) (p:Pt):Prop where
 tp:H p.t=some (.tup [.int p.c, .int p.i, .str (S [p.e])])
 cz:p.c<1000
 iz:p.i<1000
 ez:p.e<128
theorem qm.same {H H':Hp} {p:Pt} (h:qm H p) (s:aq H H'):qm H' p:=⟨s _ _ h.tp,h.cz,h.iz,h.ez⟩
theorem qm.upd {H:Hp} {p:Pt} {q:Addr} {o:HO} (h:qm H p) (n:p.t≠q):qm (L2.upd H q o) p:=⟨by rw[au n];exact h.tp,h.cz,h.iz,h.ez⟩
noncomputable def fG (y:List Nat) (os:List Od) (e:Nat):List (Nat×Nat×Nat):=(nU y os e).map fun p=>(p.c,p.i,e)
noncomputable def ko (y:List Nat) (os:List Od):List (Nat×Nat×Nat):=y.flatMap (fG y os)
noncomputable def Pr.pair (p:Pr):Nat×Nat:=(p.c,p.i)
noncomputable def xW (band l:Nat):Bool:=decide (l=band)||decide (l=aA band)
noncomputable def ie (band c:Nat) (w:List Nat) (n:Nat):List (Nat×Nat):=((List.range n).filter fun i=>xW band (w.getD i 0)).map fun i=>(c,i)
noncomputable def c_ (band:Nat) (ws:List (List Nat)) (n:Nat):List (Nat×Nat):=(List.range n).flatMap fun c=>ie band c (ws.getD c []) (ws.getD c []).length
theorem xX {band c i l:Nat} {w:List Nat} (h:w[i]? =some l):ie band c w (i+1)=ie band c w i++if xW band l=true then [(c,i)] else []:=by
 have e:w.getD i 0=l:=by rw[UI,h];rfl
 unfold ie
 rw[Yv,Yo,UH]
 congr 1
 by_cases z:xW band l=true
 ·rw[if_pos z,XQ (by rw[e];exact z)];rfl
 ·rw[if_neg z,XE (by rw[e];exact z)];rfl
theorem vP {band i:Nat} {ws:List (List Nat)} {w:List Nat} (h:ws[i]? =some w):c_ band ws (i+1)=c_ band ws i++ie band i w w.length:=by
 have e:ws.getD i []=w:=by rw[UI,h];rfl
 unfold c_
 rw[Yv,X5]
 congr 1
 rw[XS,Qaj,XZ,e]
structure NV (y:List Nat) (ws:List (List Nat)):Prop where
 wD:ws.length<=4
 all: ∀w∈ws,(∀c∈w,c∈y)/\w.length<=12
def vQ (y:List Nat) (ws:List (List Nat)) (os:List Od):Prop:=os.length=(fK y).length/\ ∀(j:Nat) (o:Od) (b:Nat),os[j]? =some o->(fK y)[j]? =some b->(o.ps.map Pr.pair).Perm (c_ b ws ws.length)
def jM (_:PySem.W.Frag):Sp:=fun vs H Q _=> ∃(y:List Nat) (dr:Addr) (ws:List (List Nat)) (os:List Od) (e:Nat),vs=[.str (S y), .ref dr, .str (S [e])]/\Yd y/\y.length<=8/\e∈y/\2*os.length=y.length/\xU H dr ws os/\ ∀(q:Addr) (H':Hp),H q=none->H' q=some (.lst (rz (nU y os e)))->aq H H'->Q (.ref q) H'
theorem oT {K:PySem.W.Frag} {vs:List V} {H:Hp} {Q:VK} {E:XK} (h:jM K vs H Q E):vs.length=3:=by obtain ⟨c,_,_,_,_,rfl,_⟩:=h;rfl
def rA (_:PySem.W.Frag):Sp:=fun vs H Q _=> ∃(y:List Nat) (dr:Addr) (ws:List (List Nat)) (os:List Od),vs=[.str (S y), .ref dr]/\Yd y/\y.length<=8/\2*os.length=y.length/\xU H dr ws os/\ ∀(q:Addr) (ps:List Pt) (H':Hp),H q=none->H' q=some (.lst (Et ps))->(∀p∈ps,qm H' p/\p.t≠q)->ps.map Pt.is=ko y os->ps.length<=800->aq H H'->Q (.ref q) H'
theorem xY {K:PySem.W.Frag} {vs:List V} {H:Hp} {Q:VK} {E:XK} (h:rA K vs H Q E):vs.length=2:=by obtain ⟨c,_,_,_,rfl,_⟩:=h;rfl
theorem Gd {y:List Nat} {os:List Od} {e:Nat} {p:Pr} (h:Yd y) (he:e∈y) (ho:2*os.length=y.length) (hp:p∈nU y os e): ∃o∈os,p∈o.ps:=by
 obtain ⟨o,h1,h2,h3⟩:=i7 h he ho
 refine ⟨o,h1,?_⟩
 unfold nU at hp
 rw[h3]at hp
 split at hp
 ·exact YA.mp hp
 ·exact hp
theorem Ge {H:Hp} {y:List Nat} {os:List Od} {e:Nat} (h:Yd y) (he:e∈y) (ho:2*os.length=y.length) (hd: ∀o∈os,A0 H o):(nU y os e).length<=100:=by
 obtain ⟨o,h1,h2,h3⟩:=i7 h he ho
 have:=(hd o h1).fw
 unfold nU
 rw[h3]
 split
 ·rw[XB];exact this
 ·exact this
theorem nj.ts {H H':Hp} {p:Pr} (h:nj H p) (s:dW H H'):nj H' p:=⟨s _ _ h.tp,h.cz,h.iz⟩
theorem C8 {band l:Nat} (hb:band∈aE) (hl:Lt l):decide (PyProof.Rows.lo1 l=band)=xW band l:=by
 unfold xW
 rcases hl with h | h
 ·have e:=(bo l h).2.1
  have n:l≠aA band:=fun z=>q8 _ (bo band hb).2.2 (z▸h)
  rw[e,decide_eq_false n,Z7]
 ·have e:=(bQ l h).2.1
  have n:l≠band:=fun z=>q8 l h (z▸hb)
  rw[e,decide_eq_false n,Z9]
  refine decide_eq_decide.mpr ⟨fun z=>by rw[<-z,aI (.inr h)],fun z=>by rw[z,aI (.inl hb)]⟩
theorem Vh {α:Type} {l:List α} (h:l.Nodup) {i j:Nat} (hi:i<l.length) (hj:j<l.length) (e:l[i]=l[j]):i=j:=by
 have hp:=YC.mp h
 rcases Nat.lt_trichotomy i j with z | z | z
 ·exact absurd e (hp i j hi hj z)
 ·exact z
 ·exact absurd e.symm (hp j i hj hi z)
theorem rB {l:List (Nat×Nat×Nat)} (h:l.Nodup) {n:Nat} {p:Nat×Nat×Nat} (e:l[n]? =some p):l.idxOf p=n:=by
 obtain ⟨hn,e2⟩:=Iy.mp e
 have hm:p∈l:=WQ e
 have hi:=SA hm
 exact Vh h hi hn ((Ya hi).trans e2.symm)
theorem oU {α:Type} {f:Nat->List α} (g:α->Nat): ∀{l:List Nat},l.Nodup->(∀e∈l,(f e).Nodup)->(∀e∈l, ∀p∈f e,g p=e)->(l.flatMap f).Nodup
 | [],_,_,_=>Y6
 | a::l,hn,h1,h2=>by
  obtain ⟨n1,n2⟩:=XH.mp hn
  rw[XS,Ye]
  refine ⟨h1 a Xp,oU g n2 (fun e he=>h1 e (WN _ he)) (fun e he=>h2 e (WN _ he)),fun x hx y hy z=>?_⟩
  subst z
  obtain ⟨e,he,Vi⟩:=XW.mp hy
  have g1:=h2 a Xp x hx
  have g2:=h2 e (WN _ he) x Vi
  exact n1 (by rw[<-g1,g2];exact he)
theorem C9 (band c:Nat) (w:List Nat) (n:Nat):(ie band c w n).Nodup:=by
 unfold ie
 show (List.map _ _).Pairwise (· ≠ ·)
 rw[Yc]
 exact (List.nodup_range.filter _).imp fun {i j} h z=>h (by cases z;rfl)
theorem rC (band:Nat) (ws:List (List Nat)) (n:Nat):(c_ band ws n).Nodup:=
 oU Prod.fst List.nodup_range (fun c _=>C9 _ _ _ _) fun c _ p hp=>by
  unfold ie at hp
  obtain ⟨i,_,rfl⟩:=XA.mp hp
  rfl
theorem xZ {band c i n:Nat} {ws:List (List Nat)} (hc:c<n) (hi:i<(ws.getD c []).length) (hb:xW band ((ws.getD c []).getD i 0)=true):(c,i)∈c_ band ws n:=
 XW.mpr ⟨c,Yt.mpr hc,XA.mpr ⟨i,XI.mpr ⟨Yt.mpr hi,hb⟩,rfl⟩⟩
theorem vQ.at {y:List Nat} {ws:List (List Nat)} {os:List Od} {e:Nat} (h:Yd y) (ho:vQ y ws os) (he:e∈y):(((nU y os e).map Pr.pair)).Perm (c_ (PyProof.Rows.lo1 e) ws ws.length):=by
 have hl:=gO h
 have Jy:=ho.1
 obtain ⟨o,o1,o2,o3⟩:=i7 (os:=os) h he (by omega)
 have hm:=C2 h he
 have hb:(fK y)[(fK y).idxOf (PyProof.Rows.lo1 e)]? =some (PyProof.Rows.lo1 e):=by
  have hi:=SA hm
  rw[Iw hi,Ya hi]
 have p:=ho.2 _ o _ o2 hb
 unfold nU
 rw[o3]
 split
 ·rw[YI]
  exact (Zq _).trans p
 ·exact p
theorem C_ {y:List Nat} {ws:List (List Nat)} {os:List Od} (h:Yd y) (ho:vQ y ws os):(ko y os).Nodup:=by
 refine oU (fun p=>p.2.2) h.nd (fun e he=>?_) fun e _ p hp=>?_
 ·have hn:=(ho.at h he).nodup_iff.mpr (rC _ _ _)
  have e1:fG y os e=((nU y os e).map Pr.pair).map fun x=>(x.1,x.2,e):=by unfold fG;rw[X4];rfl
  rw[e1]
  show (List.map _ _).Pairwise (· ≠ ·)
  rw[Yc]
  exact hn.imp fun {a b} g z=>g (by cases a;cases b;cases z;rfl)
 ·unfold fG at hp
  obtain ⟨x,_,rfl⟩:=XA.mp hp
  rfl
theorem Dc {y:List Nat} {ws:List (List Nat)} {os:List Od} {c i l e:Nat} {w:List Nat} (h:Yd y) (ho:vQ y ws os) (hw:ws[c]? =some w) (hl:w[i]? =some l) (Gf:l∈y) (he:e=l\/e=aA l):(c,i,e)∈ko y os:=by
 have dk:=h.lt l Gf
 have t6:e∈y:=by rcases he with rfl | rfl;exact Gf;exact h.cl l Gf
 have e1:PyProof.Rows.lo1 e=PyProof.Rows.lo1 l:=by
  rcases he with rfl | rfl
  ·rfl
  ·rcases dk with g | g
   ·rw[(bQ _ (bo l g).2.2).2.1,(bo l g).2.1,aI (.inl g)]
   ·rw[(bo _ (bQ l g).2.2.2).2.1,(bQ l g).2.1]
 have hb:PyProof.Rows.lo1 l∈aE:=by
  rcases dk with g | g
  ·rw[(bo l g).2.1];exact g
  ·rw[(bQ l g).2.1];exact (bQ l g).2.2.2
 have Vj:xW (PyProof.Rows.lo1 l) l=true:=by rw[<-C8 hb dk];exact decide_eq_true rfl
 have d1:ws.getD c []=w:=by rw[UI,hw];rfl
 have d2:w.getD i 0=l:=by rw[UI,hl];rfl
 have hm:(c,i)∈(nU y os e).map Pr.pair:=by
  rw[(ho.at h t6).mem_iff,e1]
  exact xZ (Iy.mp hw).1 (by rw[d1];exact (Iy.mp hl).1) (by rw[d1,d2];exact Vj)
 obtain ⟨p,hp,ep⟩:=XA.mp hm
 refine XW.mpr ⟨e,t6,XA.mpr ⟨p,hp,?_⟩⟩
 have e2:p.c=c:=congrArg Prod.fst ep
 have e3:p.i=i:=congrArg Prod.snd ep
 rw[e2,e3]
noncomputable def t9 (p:Nat×Nat×Nat):List Key:=[Sum.inl (p.1:Int),Sum.inl (p.2.1:Int),Sum.inr (S [p.2.2])]
theorem Dd {p q:Nat×Nat×Nat} (h:t9 p=t9 q):p=q:=by
 unfold t9 at h
 injection h with h1 h2
 injection h2 with h2 h3
 injection h3 with h3 _
 have a1:(p.1:Int)=q.1:=Sum.inl.inj h1
 have a2:(p.2.1:Int)=q.2.1:=Sum.inl.inj h2
 have a3:[p.2.2]=[q.2.2]:=by
  have:=Sum.inr.inj h3
  rw[<-dR [p.2.2],this,dR]
 have a4:p.2.2=q.2.2:=by simpa using a3
 exact Prod.ext (by omega) (Prod.ext (by omega) a4)
def Nums (ps:List (Nat×Nat×Nat)) (aP:List (List Key×V)) (n:Nat):Prop:= ∀p∈ps.take n,cW aP (t9 p)=some (.int (ps.idxOf p:Nat))
theorem Nums.put {ps:List (Nat×Nat×Nat)} {aP:List (List Key×V)} {n:Nat} {p:Nat×Nat×Nat} (h:Nums ps aP n) (hn:ps.Nodup) (e:ps[n]? =some p):Nums ps (putK aP (t9 p) (.int (n:Nat))) (n+1):=fun r hr=>by
 rw[Cb]
 by_cases z:r=p
 ·rw[if_pos (by rw[z]),z,rB hn e]
 ·rw[if_neg fun g=>z (Dd g)]
  rw[<-take_snoc e]at hr
  exact h r ((Xn.mp hr).resolve_right fun g=>z (Sz.mp g))
noncomputable def wG (n i:Nat):Nat:=if i=0 then n - 1 else i - 1
theorem x3 {n i:Nat} (h:i<n):wG n i<n:=by unfold wG;split<;>omega
theorem zA {n i:Nat} (h:i<n):((i:Int) - 1)%(n:Int)=((wG n i:Nat):Int):=by
 unfold wG
 split
 ·rename_i z
  subst z
  have:((0:Nat):Int) - 1+(n:Int)=((n - 1:Nat):Int):=by omega
  rw[<-YM,this]
  exact XJ (by omega) (by omega)
 ·have:(i:Int) - 1=((i - 1:Nat):Int):=by omega
  rw[this]
  exact XJ (by omega) (by omega)
noncomputable abbrev C4:=Nat×Nat×Nat×Nat
noncomputable def gP (ps:List (Nat×Nat×Nat)) (c:Nat) (w:List Nat) (i:Nat):C4:=(c,i,ps.idxOf (c,wG w.length i,aA (w.getD (wG w.length i) 0)),ps.idxOf (c,i,w.getD i 0))
noncomputable def mm (ps:List (Nat×Nat×Nat)) (c:Nat) (w:List Nat) (n:Nat):List C4:=(List.range n).map (gP ps c w)
noncomputable def gn (ps:List (Nat×Nat×Nat)) (ws:List (List Nat)) (n:Nat):List C4:=(List.range n).flatMap fun c=>mm ps c (ws.getD c []) (ws.getD c []).length
theorem vR (ps:List (Nat×Nat×Nat)) (c:Nat) (w:List Nat) (n:Nat):mm ps c w (n+1)=mm ps c w n++[gP ps c w n]:=by unfold mm;rw[Yv,UH];rfl
theorem t_ {ps:List (Nat×Nat×Nat)} {ws:List (List Nat)} {i:Nat} {w:List Nat} (h:ws[i]? =some w):gn ps ws (i+1)=gn ps ws i++mm ps i w w.length:=by
 have e:ws.getD i []=w:=by rw[UI,h];rfl
 unfold gn
 rw[Yv,X5]
 congr 1
 rw[XS,Qaj,XZ,e]
structure Q4 where
 t:Addr
 v:C4
noncomputable def nk (qs:List Q4):List V:=qs.map fun q=>V.ref q.t
theorem zB (qs:List Q4):(nk qs).length=qs.length:=by unfold nk;rw[Kw]
theorem De (a:List Q4) (q:Q4):nk a++[V.ref q.t]=nk (a++[q]):=by unfold nk;rw[UH];rfl
theorem Jz {qs:List Q4} {i:Nat} {x:V} (h:(nk qs)[i]? =some x): ∃q,qs[i]? =some q/\x=V.ref q.t:=by
 unfold nk at h
 rw[Xo]at h
 cases e:qs[i]? with
 | none=>rw[e]at h;cases h
 | some p=>rw[e]at h;cases h;exact ⟨p,rfl,rfl⟩
def qp (H:Hp) (q:Q4):Prop:=H q.t=some (.tup [.int q.v.1, .int q.v.2.1, .int q.v.2.2.1, .int q.v.2.2.2])
theorem qp.ts {H H':Hp} {q:Q4} (h:qp H q) (s:dW H H'):qp H' q:=s _ _ h
noncomputable def fW (y:List Nat) (ws:List (List Nat)) (os:List Od):List C4:=gn (ko y os) ws ws.length
theorem NW {y:List Nat} {os:List Od} {p:Pt} {ps:List Pt} (h:ps.map Pt.is=ko y os) {i:Nat} (hi:ps[i]? =some p):(ko y os)[i]? =some p.is:=by rw[<-h,Xo,hi];rfl
def gQ (_:PySem.W.Frag):Sp:=fun vs H Q _=> ∃(w:List Nat) (c i:Nat),vs=[.str (S w), .int c, .int i]/\(∀l∈w,l<128)/\i<w.length/\w.length<=1000/\ ∀(t t1 t2:Addr) (H':Hp),H' t=some (.tup [.ref t1, .ref t2])->H' t1=some (.tup ((t9 (c,wG w.length i,aA (w.getD (wG w.length i) 0))).map kV))->H' t2=some (.tup ((t9 (c,i,w.getD i 0)).map kV))->aq H H'->Q (.ref t) H'
theorem lh {K:PySem.W.Frag} {vs:List V} {H:Hp} {Q:VK} {E:XK} (h:gQ K vs H Q E):vs.length=3:=by obtain ⟨c,_,_,rfl,_⟩:=h;rfl
def oV (_:PySem.W.Frag):Sp:=fun vs H Q _=> ∃(y:List Nat) (dr:Addr) (ws:List (List Nat)) (os:List Od),vs=[.str (S y), .ref dr]/\Yd y/\y.length<=8/\NV y ws/\vQ y ws os/\xU H dr ws os/\ ∀(q:Addr) (qs:List Q4) (H':Hp),H q=none->H' q=some (.lst (nk qs))->(∀x∈qs,qp H' x)->qs.map Q4.v=fW y ws os->aq H H'->Q (.ref q) H'
theorem vS {K:PySem.W.Frag} {vs:List V} {H:Hp} {Q:VK} {E:XK} (h:oV K vs H Q E):vs.length=2:=by obtain ⟨c,_,_,_,rfl,_⟩:=h;rfl
theorem Gg {y:List Nat} {os:List Od} {i m e:Nat} {p:Pr} (he:y[i]? =some e) (hp:(nU y os e)[m]? =some p):(ko y os)[((y.take i).flatMap (fG y os)).length+m]? =some (p.c,p.i,e):=by
 obtain ⟨hi,e1⟩:=Iy.mp he
 have hy:y=y.take i++e::y.drop (i+1):=by
  rw[<-e1, <-X_ hi,X3]
 have h1:ko y os=(y.take i).flatMap (fG y os)++(fG y os e++(y.drop (i+1)).flatMap (fG y os)):=by
  unfold ko
  conv=>lhs;arg 2;rw[hy]
  rw[X5,XS]
 have h2:(fG y os e)[m]? =some (p.c,p.i,e):=by unfold fG;rw[Xo,hp];rfl
 rw[h1,Yf (Nat.le_add_right _ _),Nat.add_sub_cancel_left,XT (Iy.mp h2).1]
 exact h2
structure Df (y:List Nat) (ws:List (List Nat)) (L:Nat->Bool) (r:Nat->Nat) (M:Nat) (os:List Od):Prop where
 ok:vQ y ws os
 asc: ∀o∈os,(o.ps.map Pr.pair).Pairwise fun s t=>bJ (cD y ws L r M s.1 s.2) (cD y ws L r M t.1 t.2)=true
theorem x4: ∀c∈aE++iD,PyProof.Rows.lo1 (aA c)=PyProof.Rows.lo1 c/\isUp c=!aB c:=by decide+kernel
theorem A1 {α:Type} {y:List Nat} (F:Nat->List α) {k k' e:Nat} (he:y[k]? =some e) (h:k<k'):((y.take k).flatMap F).length+(F e).length<=((y.take k').flatMap F).length:=by
 have e1:(y.take k').take (k+1)=y.take (k+1):=by rw[List.take_take,Yg (by omega)]
 have e2:y.take k'=y.take (k+1)++(y.take k').drop (k+1):=by rw[<-e1,X3]
 rw[e2,X5,UD, <-take_snoc he,X5,UD]
 simp
theorem mq {y:List Nat} {ws:List (List Nat)} {os:List Od} (hy:Yd y) (ho:vQ y ws os) (hs: ∀c,c<ws.length->SW y (ws.getD c [])) {c i e:Nat} (hc:c<ws.length) (hi:i<(ws.getD c []).length) (he:e=rd (ws.getD c []) i\/e=aA (rd (ws.getD c []) i)):
  e∈y/\ ∃(m:Nat) (p:Pr),(nU y os e)[m]? =some p/\p.pair=(c,i)/\(ko y os).idxOf (c,i,e)=((y.take (y.idxOf e)).flatMap (fG y os)).length+m:=by
 have hw:=hs c hc
 have ey:e∈y:=he.elim (fun z=>z▸hw.rd _) fun z=>z▸hy.cl _ (hw.rd _)
 have uH:=Dc hy ho (c:=c) (i:=i) (l:=rd (ws.getD c []) i) (e:=e) (w:=ws.getD c []) (by rw[UI,Iw hc];rfl) (me hi) (hw.rd _) he
 unfold ko at uH
 obtain ⟨e',yV,hp⟩:=XW.mp uH
 unfold fG at hp
 obtain ⟨p,ua,oF⟩:=XA.mp hp
 obtain ⟨q1,S6⟩:=Prod.mk.inj oF
 obtain ⟨q2,q3⟩:=Prod.mk.inj S6
 clear S6
 subst q3
 obtain ⟨m,hm,em⟩:=Zj ua
 have KQ:(nU y os e')[m]? =some p:=by rw[Iw hm,em]
 refine ⟨ey,m,p,KQ,by unfold Pr.pair;rw[q1,q2],?_⟩
 have hk:y[y.idxOf e']? =some e':=by rw[Iw (SA ey),Ya]
 have:=Gg (os:=os) hk KQ
 rw[q1,q2]at this
 exact rB (C_ hy ho) this
theorem Dg (y:List Nat) (os:List Od) (e:Nat):(fG y os e).length=(nU y os e).length:=by unfold fG;rw[Kw]
theorem Dh {l:List Pr} {y:List Nat} {ws:List (List Nat)} {L:Nat->Bool} {r:Nat->Nat} {M:Nat} (h:(l.map Pr.pair).Pairwise fun s t=>bJ (cD y ws L r M s.1 s.2) (cD y ws L r M t.1 t.2)=true) {m n c i d j:Nat} {p q:Pr} (hp:l[m]? =some p) (hq:l[n]? =some q) (ep:p.pair=(c,i)) (eq:q.pair=(d,j)) (dH:(c,i)≠(d,j)):
  m≠n/\decide (m<n)=bJ (cD y ws L r M c i) (cD y ws L r M d j):=by
 have O3:m≠n:=fun z=>dH (by rw[z,hq]at hp;rw[<-ep, <-eq,Xr hp])
 obtain ⟨hm,em⟩:=Iy.mp hp
 obtain ⟨hn,en⟩:=Iy.mp hq
 refine ⟨O3,?_⟩
 have key:=YC.mp h
 by_cases z:m<n
 ·have:=key m n (by rw[Kw];exact hm) (by rw[Kw];exact hn) z
  rw[Zz,Zz,em,en,ep,eq]at this
  rw[decide_eq_true z]
  exact this.symm
 ·have:=key n m (by rw[Kw];exact hn) (by rw[Kw];exact hm) (by omega)
  rw[Zz,Zz,em,en,ep,eq]at this
  rw[decide_eq_false z]
  exact (mf this).1.symm
theorem zC {α:Type} {l:List α} {m:Nat} {p:α} (h:l.reverse[m]? =some p):m<l.length/\l[l.length - 1 - m]? =some p:=by
 obtain ⟨hm,_⟩:=Iy.mp h
 rw[XB]at hm
 rw[YS hm]at h
 exact ⟨hm,h⟩
theorem lies_of {y:List Nat} {ws:List (List Nat)} {L:Nat->Bool} {r:Nat->Nat} {M:Nat} {os:List Od} (hy:Yd y) (hs: ∀c,c<ws.length->SW y (ws.getD c [])) (h:Df y ws L r M os):Lies y ws L r M fun c i e=>(ko y os).idxOf (c,i,e):=by
 have ol:2*os.length=y.length:=by rw[h.ok.1];exact gO hy
 refine ⟨fun c i d j e e' hc hd hi hj he yV dk=>?_,fun c i d j x hc hd hi hj dH hx M5 Vk=>?_⟩
 ·obtain ⟨ey,m,p,hm,_,e1⟩:=mq hy h.ok hs hc hi he
  obtain ⟨WS,m',p',KQ,_,e2⟩:=mq hy h.ok hs hd hj yV
  rw[e1,e2]
  have hk:y[y.idxOf e]? =some e:=by rw[Iw (SA ey),Ya]
  have:=A1 (fG y os) hk dk
  rw[Dg]at this
  have Ep:=(Iy.mp hm).1
  omega
 ·have lc:Lt (rd (ws.getD c []) i):=hy.lt _ ((hs c hc).rd _)
  have ld:Lt (rd (ws.getD d []) j):=hy.lt _ ((hs d hd).rd _)
  have vi:(x=rd (ws.getD c []) i\/x=aA (rd (ws.getD c []) i))/\(aA x=rd (ws.getD c []) i\/aA x=aA (rd (ws.getD c []) i))/\Lt x:=by
   rcases M5 with z | z
   ·exact ⟨.inl z.symm, .inr (by rw[z]),z▸lc⟩
   ·have Vl:x<128/\x∈aE:=by
     have h9:97<=x/\x<=122:=by unfold aB at hx;simpa using hx
     refine ⟨by omega,?_⟩
     have: ∀k,k<26->k+97∈aE:=by decide
     have h8:=this (x - 97) (by omega)
     rwa [show x - 97+97=x by omega]at h8
    have lx:Lt x:= .inl Vl.2
    exact ⟨.inr (by rw[z,aI lx]), .inl z.symm,lx⟩
  have lx:=vi.2.2
  have vj:(x=rd (ws.getD d []) j\/x=aA (rd (ws.getD d []) j))/\(aA x=rd (ws.getD d []) j\/aA x=aA (rd (ws.getD d []) j)):=by
   rcases Vk with z | z
   ·exact ⟨.inl z.symm, .inr (by rw[z])⟩
   ·exact ⟨.inr (by rw[z,aI lx]), .inl z.symm⟩
  obtain ⟨xy,m,p,hm,ep,e1⟩:=mq hy h.ok hs hc hi vi.1
  obtain ⟨_,n,q,hn,eq,e2⟩:=mq hy h.ok hs hd hj vj.1
  obtain ⟨_,m',p',KQ,Mi,B2⟩:=mq hy h.ok hs hc hi vi.2.1
  obtain ⟨_,n',q',OH,Vm,JA⟩:=mq hy h.ok hs hd hj vj.2
  obtain ⟨o,S7,_,eo⟩:=i7 hy xy ol
  have Vn:isUp x=false:=by rw[(x4 x lx.mem).2,hx];rfl
  have up1:isUp (aA x)=true:=by rw[(x4 _ lx.aA.mem).2,fI x lx.mem,hx];rfl
  have s0:nU y os x=o.ps:=by unfold nU;rw[Vn,if_neg (by decide),eo]
  have s1:nU y os (aA x)=o.ps.reverse:=by
   unfold nU
   rw[up1,if_pos rfl]
   have:xV y os (aA x)=xV y os x:=by unfold xV;rw[(x4 x lx.mem).1]
   rw[this,eo]
  rw[s0]at hm hn
  rw[s1]at KQ OH
  obtain ⟨b1,Ep⟩:=zC KQ
  obtain ⟨b2,uR⟩:=zC OH
  have k1:=Dh (h.asc o S7) hm hn ep eq dH
  have k2:=Dh (h.asc o S7) Ep uR Mi Vm dH
  rw[e1,e2,B2,JA]
  refine ⟨by omega,by omega,?_,?_⟩
  ·rw[<-k1.2];exact decide_eq_decide.mpr (by omega)
  ·rw[<-k2.2];exact decide_eq_decide.mpr (by omega)
noncomputable def nV (st:Nat->Nat) (T R:List Nat):List Nat:=T.filter fun x=>R.any fun e=>decide (st e=x)
noncomputable def A2 (st:Nat->Nat) (T R:List Nat) (p:Nat):Nat:=if st p=p then 0 else ((nV st T (p::R)).filter fun x=>decide (st p<x)).length
noncomputable def Eu (st:Nat->Nat):List Nat->List Nat->Nat
 | _,[]=>0
 | T,p::R=>A2 st T R p+Eu st (T++[p]) R
structure Di (ch:List (Nat×Nat)) (st:Nat->Nat) (P:List Nat):Prop where
 lt: ∀x∈ch,x.1<x.2
 nd:(ch.flatMap fun x=>[x.1,x.2]).Nodup
 pm:P.Perm (ch.flatMap fun x=>[x.1,x.2])
 up:P.Pairwise (· < ·)
 st: ∀x∈ch,st x.1=x.1/\st x.2=x.1
section
variable {ch:List (Nat×Nat)} {st:Nat->Nat} {P:List Nat}
theorem Di.pt (h:Di ch st P) {p:Nat} (hp:p∈P): ∃x∈ch,p=x.1\/p=x.2:=by
 obtain ⟨x,hx,e⟩:=XW.mp (h.pm.mem_iff.mp hp)
 exact ⟨x,hx,by simpa using e⟩
theorem Di.in1 (h:Di ch st P) {x:Nat×Nat} (hx:x∈ch):x.1∈P/\x.2∈P:=⟨h.pm.mem_iff.mpr (XW.mpr ⟨x,hx,by simp⟩),h.pm.mem_iff.mpr (XW.mpr ⟨x,hx,by simp⟩)⟩
theorem vT: ∀{ch:List (Nat×Nat)},(ch.flatMap fun x=>[x.1,x.2]).Nodup-> ∀x∈ch, ∀z∈ch,(x.1=z.1\/x.2=z.2\/x.1=z.2)->x=z
 | [],_,x,hx,_,_,_=>absurd hx Xu
 | a::r,nd,x,hx,z,hz,e=>by
  rw[XS,Ye]at nd
  obtain ⟨n1,n2,n3⟩:=nd
  have inr: ∀z∈r,z.1∈r.flatMap (fun x=>[x.1,x.2])/\z.2∈r.flatMap (fun x=>[x.1,x.2]):=fun z hz=>⟨XW.mpr ⟨z,hz,by simp⟩,XW.mpr ⟨z,hz,by simp⟩⟩
  have a12:a.1≠a.2:=by
   rw[XH]at n1
   simpa using n1.1
  rcases UE.mp hx with rfl | Ky<;>rcases UE.mp hz with rfl | Fz
  ·rfl
  ·exfalso
   rcases e with e | e | e
   ·exact n3 x.1 (by simp) z.1 (inr z Fz).1 e
   ·exact n3 x.2 (by simp) z.2 (inr z Fz).2 e
   ·exact n3 x.1 (by simp) z.2 (inr z Fz).2 e
  ·exfalso
   rcases e with e | e | e
   ·exact n3 z.1 (by simp) x.1 (inr x Ky).1 e.symm
   ·exact n3 z.2 (by simp) x.2 (inr x Ky).2 e.symm
   ·exact n3 z.2 (by simp) x.1 (inr x Ky).1 e.symm
  ·exact vT n2 x Ky z Fz e
theorem Dj (h:Di ch st P) {T R:List Nat} {p:Nat} (e:P=T++p::R) (hs:st p=p):nV st (T++[p]) R=nV st T (p::R)++[p]:=by
 obtain ⟨x,hx,hp⟩:=h.pt (p:=p) (by rw[e];simp)
 have JB:p=x.1:=hp.elim id fun z=>by rw[z,(h.st x hx).2]at hs;rw[z, <-hs]
 have up:=h.up
 rw[e,YF,YB]at up
 obtain ⟨u1,⟨u2,u3⟩,u4⟩:=up
 have hR:x.2∈R:=by
  have:=(h.in1 hx).2
  rw[e]at this
  rcases Xn.mp this with q | q
  ·have:=u4 _ q p Xp
   have:=h.lt x hx
   omega
  ·rcases UE.mp q with q | q
   ·have:=h.lt x hx
    omega
   ·exact q
 unfold nV
 rw[Yo]
 congr 1
 ·refine Qac fun z hz=>?_
  rw[Yx,decide_eq_false (fun q=>by have:=u4 z hz p Xp;omega),Z9]
 ·have:(R.any fun e=>decide (st e=p))=true:=List.any_eq_true.mpr ⟨x.2,hR,decide_eq_true (by rw[(h.st x hx).2,JB])⟩
  rw[XQ (p:=fun x=>R.any fun e=>decide (st e=x)) this]
  rfl
theorem erase_filter {s:Nat} {p q:Nat->Bool}: ∀{T:List Nat},T.Nodup->q s=true->p s=false->(∀x,x≠s->q x=p x)->(T.filter q).erase s=T.filter p
 | [],_,_,_,_=>rfl
 | a::T,nd,hq,hp,h=>by
  rw[XH]at nd
  by_cases z:a=s
  ·subst z
   rw[XQ hq,List.erase_cons_head,XE (by rw[hp];decide)]
   exact Qac fun x hx=>h x fun q=>nd.1 (q▸hx)
  ·have ih:=erase_filter nd.2 hq hp h
   cases e:p a
   ·rw[XE (by rw[h a z,e];decide),XE (by rw[e];decide)]
    exact ih
   ·rw[XQ (by rw[h a z,e]),XQ e,List.erase_cons_tail (by simpa using z),ih]
theorem JC (h:Di ch st P) {T R:List Nat} {p:Nat} (e:P=T++p::R) (hs:st p≠p):nV st (T++[p]) R=(nV st T (p::R)).erase (st p)/\st p∈nV st T (p::R):=by
 obtain ⟨x,hx,hp⟩:=h.pt (p:=p) (by rw[e];simp)
 have JB:p=x.2:=hp.elim (fun z=>absurd (by rw[z,(h.st x hx).1]) hs) id
 have mN:st p=x.1:=by rw[JB,(h.st x hx).2]
 have up:=h.up
 rw[e,YF,YB]at up
 obtain ⟨u1,⟨u2,u3⟩,u4⟩:=up
 have only: ∀z∈R,st z≠x.1:=fun z hz q=>by
  obtain ⟨v,hv,Nk⟩:=h.pt (p:=z) (by rw[e];simp[hz])
  have WT:=u2 z hz
  rcases Nk with r | r
  ·rw[r,(h.st v hv).1]at q
   have:=vT h.nd v hv x hx (.inl q)
   subst this
   have:=h.lt v hv
   omega
  ·rw[r,(h.st v hv).2]at q
   have:=vT h.nd v hv x hx (.inl q)
   subst this
   omega
 have none: ∀z∈R,st z≠p:=fun z hz q=>by
  obtain ⟨v,hv,Nk⟩:=h.pt (p:=z) (by rw[e];simp[hz])
  have:st z=v.1:=Nk.elim (fun r=>by rw[r,(h.st v hv).1]) fun r=>by rw[r,(h.st v hv).2]
  rw[this,JB]at q
  have:=vT h.nd v hv x hx (.inr (.inr q))
  subst this
  have:=h.lt v hv
  omega
 have hT:x.1∈T:=by
  have:=(h.in1 hx).1
  rw[e]at this
  have l:=h.lt x hx
  rcases Xn.mp this with q | q
  ·exact q
  ·rcases UE.mp q with q | q
   ·omega
   ·have:=u2 _ q
    omega
 have nd:T.Nodup:=Qae (fun h=>Xy h) u1
 have hq:((p::R).any fun e=>decide (st e=x.1))=true:=by rw[Yx,decide_eq_true mN];rfl
 refine ⟨?_,?_⟩
 ·rw[mN]
  unfold nV
  rw[Yo,XE (by
   rw[Bool.not_eq_true,Qad]
   exact fun z hz=>by simpa using none z hz),List.filter_nil,XZ]
  refine (erase_filter nd hq ?_ fun z hz=>?_).symm
  ·rw[Qad]
   exact fun z hz=>by simpa using only z hz
  ·rw[Yx,decide_eq_false (by rw[mN];exact Ne.symm hz),Z9]
 ·rw[mN]
  exact XI.mpr ⟨hT,hq⟩
noncomputable def jt (x z:Nat×Nat):Bool:=decide (x.1<z.1)&&(decide (z.1<x.2)&&decide (x.2<z.2))
theorem Dk (h:Di ch st P) {T R:List Nat} {x:Nat×Nat} (hx:x∈ch) (e:P=T++x.2::R):A2 st T R x.2=(ch.filter (jt x)).length:=by
 have l:=h.lt x hx
 have mN:=(h.st x hx).2
 have up:=h.up
 rw[e,YF,YB]at up
 obtain ⟨u1,⟨u2,u3⟩,u4⟩:=up
 unfold A2
 rw[if_neg (by omega),mN, <-Kw (as:=ch.filter (jt x)) (f:=Prod.fst)]
 refine List.Perm.length_eq ((List.perm_ext_iff_of_nodup ?_ ?_).mpr fun a=>?_)
 ·exact (Qae (fun h=>Xy h) ((u1.filter _).filter _))
 ·have nd:(ch.map Prod.fst).Nodup:=by
   have: ∀{ch:List (Nat×Nat)},(ch.flatMap fun x=>[x.1,x.2]).Nodup->(ch.map Prod.fst).Nodup:=fun {ch}=>by
    induction ch with
    | nil=>exact fun _=>List.Pairwise.nil
    | cons a r ih=>
     intro nd
     rw[XS,Ye]at nd
     rw[Xw,XH]
     refine ⟨fun q=>?_,ih nd.2.1⟩
     obtain ⟨z,hz,ez⟩:=XA.mp q
     exact nd.2.2 a.1 (by simp) z.1 (XW.mpr ⟨z,hz,by simp⟩) ez.symm
   exact this h.nd
  exact List.Nodup.sublist (List.Sublist.map _ List.filter_sublist) nd
 ·rw[XI,XA]
  unfold nV
  rw[XI,decide_eq_true_iff,List.any_eq_true]
  constructor
  ·rintro ⟨⟨a1,p,hp,ep⟩,a2⟩
   have ep:=of_decide_eq_true ep
   obtain ⟨z,hz,Rg⟩:=h.pt (p:=p) (by rw[e];exact XC _ hp)
   have:st p=z.1:=Rg.elim (fun r=>by rw[r,(h.st z hz).1]) fun r=>by rw[r,(h.st z hz).2]
   rw[this]at ep
   have ax:=u4 a a1 x.2 Xp
   have pz:p=z.2:=Rg.elim (fun r=>by
    have:=u4 a a1 p hp
    omega) id
   have px:x.2<p:=by
    rcases UE.mp hp with q | q
    ·rw[q]at pz
     have:=vT h.nd x hx z hz (.inr (.inl pz))
     subst this
     omega
    ·exact u2 p q
   refine ⟨z,XI.mpr ⟨hz,?_⟩,ep⟩
   unfold jt
   rw[X8,X8,decide_eq_true_iff,decide_eq_true_iff,decide_eq_true_iff]
   omega
  ·rintro ⟨z,hz,rfl⟩
   obtain ⟨hz,q⟩:=XI.mp hz
   unfold jt at q
   rw[X8,X8,decide_eq_true_iff,decide_eq_true_iff,decide_eq_true_iff]at q
   have i1:=(h.in1 hz).1
   have i2:=(h.in1 hz).2
   rw[e]at i1 i2
   refine ⟨⟨?_,z.2,?_,decide_eq_true (h.st z hz).2⟩,q.1⟩
   ·rcases Xn.mp i1 with r | r
    ·exact r
    ·rcases UE.mp r with r | r
     ·omega
     ·have:=u2 _ r;omega
   ·rcases Xn.mp i2 with r | r
    ·have:=u4 _ r x.2 Xp;omega
    ·exact r
theorem Dm (h:Di ch st P): ∀(R T:List Nat),P=T++R->Eu st T R=(R.map fun p=>if st p=p then 0 else (ch.filter (jt (st p,p))).length).sum
 | [],_,_=>rfl
 | p::R,T,e=>by
  rw[Xw,YG, <-Dm h R (T++[p]) (by rw[e];simp)]
  show A2 st T R p+_=_
  congr 1
  by_cases z:st p=p
  ·rw[if_pos z];unfold A2;rw[if_pos z]
  ·rw[if_neg z]
   obtain ⟨x,hx,hp⟩:=h.pt (p:=p) (by rw[e];simp)
   have JB:p=x.2:=hp.elim (fun q=>absurd (by rw[q,(h.st x hx).1]) z) id
   have mN:st p=x.1:=by rw[JB,(h.st x hx).2]
   rw[mN]
   subst JB
   exact Dk h hx e
theorem JD (h:Di ch st P):Eu st [] P=(ch.map fun x=>(ch.filter (jt x)).length).sum:=by
 rw[Dm h P [] rfl,(h.pm.map _).sum_nat]
 have: ∀l:List (Nat×Nat),(∀x∈l,x∈ch)->(((l.flatMap fun x=>[x.1,x.2]).map fun p=>if st p=p then 0 else (ch.filter (jt (st p,p))).length).sum)=(l.map fun x=>(ch.filter (jt x)).length).sum:=fun l hl=>by
  induction l with
  | nil=>rfl
  | cons a r ih=>
   have ha:=h.st a (hl a Xp)
   have la:=h.lt a (hl a Xp)
   rw[XS,UH,List.sum_append_nat,ih fun x hx=>hl x (WN _ hx),Xw,YG]
   congr 1
   show (if st a.1=a.1 then 0 else _)+((if st a.2=a.2 then 0 else (ch.filter (jt (st a.2,a.2))).length)+0)=_
   rw[if_pos ha.1,if_neg (by omega),ha.2,ZJ,Qaa]
 exact this ch fun x hx=>hx
theorem A3 {α:Type} (X:α->α->Bool) (hd: ∀x,X x x=false) (ha: ∀x z,X x z=true->X z x=false): ∀l:List α,(l.map fun x=>(l.filter (X x)).length).sum=cl (fun x z=>X x z||X z x) l:=fun l=>by
 have key: ∀(a:α) (l:List α),((l.filter fun z=>X a z||X z a)).length=(l.filter (X a)).length+(l.map fun z=>if X z a=true then 1 else 0).sum:=fun a l=>by
  induction l with
  | nil=>rfl
  | cons b r ih=>
   have:=ha a b
   simp only[List.filter_cons,Xw,YG]
   cases e1:X a b<;>cases e2:X b a
   ·simp[ih]
   ·simp[ih];omega
   ·simp[ih];omega
   ·rw[this e1]at e2;cases e2
 induction l with
 | nil=>rfl
 | cons a r ih=>
  show (((a::r).map fun x=>((a::r).filter (X x)).length).sum)=(r.filter fun z=>X a z||X z a).length+cl _ r
  rw[Xw,YG,XE (by rw[hd a];decide),key a r, <-ih]
  have e: ∀l:List α,(l.map fun x=>((a::r).filter (X x)).length).sum=(l.map fun z=>if X z a=true then 1 else 0).sum+(l.map fun x=>(r.filter (X x)).length).sum:=fun l=>by
   induction l with
   | nil=>rfl
   | cons b l Vo=>
    rw[Xw,YG,Vo,Xw,YG,Xw,YG]
    cases e1:X b a
    ·rw[XE (by rw[e1];decide)]
     simp;omega
    ·rw[XQ e1]
     simp;omega
  rw[e r]
  omega
theorem NX (h:Di ch st P):Eu st [] P=cl (fun x z=>jt x z||jt z x) ch:=by
 rw[JD h,A3]
 ·intro x;unfold jt;rw[decide_eq_false (XY _)];rfl
 ·intro x z q
  unfold jt at q ⊢
  rw[X8,X8,decide_eq_true_iff,decide_eq_true_iff,decide_eq_true_iff]at q
  rw[decide_eq_false (by omega)]
  rfl
end
noncomputable def Hr (p q:Nat):Int:=if (q:Int)<p then q else p
noncomputable def du (cs:List C4):List Nat:=cs.flatMap fun x=>[x.2.2.1,x.2.2.2]
noncomputable def gg (cs:List C4):List (Key×V):=cs.flatMap fun x=>[(Sum.inl (x.2.2.1:Int),V.int (Hr x.2.2.1 x.2.2.2)),(Sum.inl (x.2.2.2:Int),V.int (Hr x.2.2.1 x.2.2.2))]
noncomputable def jN (cs:List C4):List (Nat×Nat):=cs.map fun x=>(min x.2.2.1 x.2.2.2,max x.2.2.1 x.2.2.2)
theorem gR: ∀cs:List C4,(gg cs).map (·.1)=(du cs).map fun n:Nat=>(Sum.inl (n:Int):Key)
 | []=>rfl
 | x::r=>by
  unfold gg du
  rw[XS,XS,UH,UH]
  exact congrArg _ (gR r)
theorem vU {aP:List (Key×V)} {k:Key} (h:k∉aP.map (·.1)):cW aP k=none:=by
 induction aP with
 | nil=>rfl
 | cons a r ih=>
  rw[Xw,UE,not_or]at h
  rw[cg (fun e=>h.1 e.symm),ih h.2]
theorem Dp {aP:List (Key×V)} (nd:(aP.map (·.1)).Nodup) {k:Key} {v:V} (h:(k,v)∈aP):cW aP k=some v:=by
 induction aP with
 | nil=>exact absurd h Xu
 | cons a r ih=>
  rw[Xw,XH]at nd
  rcases UE.mp h with e | e
  ·subst e;exact cx rfl
  ·rw[cg (fun z=>nd.1 (XA.mpr ⟨_,e,z.symm⟩))]
   exact ih nd.2 e
theorem JE: ∀{l:List Nat},l.Nodup->(l.map fun n:Nat=>(Sum.inl (n:Int):Key)).Nodup:=fun {l} h=>Yc.mpr (h.imp fun oO z=>oO (by have:=Sum.inl.inj z;omega))
noncomputable def ins (l:List Nat):List V:=l.map fun n=>V.int (n:Nat)
theorem lj (l:List Nat):(ins l).length=l.length:=by unfold ins;rw[Kw]
theorem Dq (l:List Nat) (n:Nat):ins l++[V.int (n:Nat)]=ins (l++[n]):=by unfold ins;rw[UH];rfl
theorem Dr {l:List Nat} {i n:Nat} (h:l[i]? =some n):(ins l)[i]? =some (V.int (n:Nat)):=by unfold ins;rw[Xo,h];rfl
def ig (_:PySem.W.Frag):Sp:=fun vs H Q _=> ∃(a:Addr) (qs:List Q4),vs=[.ref a]/\H a=some (.lst (nk qs))/\(∀x∈qs,qp H x)/\qs.length<=1000/\(du (qs.map Q4.v)).Nodup/\ ∀d H',H d=none->H' d=some (.dK (gg (qs.map Q4.v)))->aq H H'->Q (.ref d) H'
theorem mr {K:PySem.W.Frag} {vs:List V} {H:Hp} {Q:VK} {E:XK} (h:ig K vs H Q E):vs.length=1:=by obtain ⟨_,_,rfl,_⟩:=h;rfl
def lq (_:PySem.W.Frag):Sp:=fun vs H Q _=> ∃(a:Addr) (l:List Nat) (p:Nat),vs=[.ref a, .int p]/\H a=some (.lst (ins l))/\l.Pairwise (· < ·)/\p∈l/\l.length<=100000/\Q (.int (l.idxOf p:Nat)) H
theorem qq {K:PySem.W.Frag} {vs:List V} {H:Hp} {Q:VK} {E:XK} (h:lq K vs H Q E):vs.length=2:=by obtain ⟨_,_,_,rfl,_⟩:=h;rfl
def gp (_:PySem.W.Frag):Sp:=fun vs H Q _=> ∃(a:Addr) (qs:List Q4),vs=[.ref a]/\H a=some (.lst (nk qs))/\(∀x∈qs,qp H x)/\qs.length<=24/\(du (qs.map Q4.v)).Nodup/\ ∀H',aq H H'->Q (.int (cl (fun x z=>jt x z||jt z x) (jN (qs.map Q4.v)):Nat)) H'
theorem kf {K:PySem.W.Frag} {vs:List V} {H:Hp} {Q:VK} {E:XK} (h:gp K vs H Q E):vs.length=1:=by obtain ⟨_,_,rfl,_⟩:=h;rfl
theorem A4 (cs:List C4) (x:C4):du (cs++[x])=du cs++[x.2.2.1,x.2.2.2]:=by unfold du;rw[X5,Y8]
theorem A5 (cs:List C4) (x:C4):gg (cs++[x])=gg cs++[(Sum.inl (x.2.2.1:Int),V.int (Hr x.2.2.1 x.2.2.2)),(Sum.inl (x.2.2.2:Int),V.int (Hr x.2.2.1 x.2.2.2))]:=by unfold gg;rw[X5,Y8]
theorem vV (cs:List C4):(gg cs).length=2*cs.length:=by
 induction cs with
 | nil=>rfl
 | cons x r ih=>
  unfold gg at ih ⊢
  rw[XS,UD,ih,XR]
  show 2+2*r.length=2*(r.length+1)
  omega
theorem Gh {cs:List C4} {x:C4} (nd:(du (cs++[x])).Nodup):putK (putK (gg cs) (Sum.inl (x.2.2.1:Int)) (V.int (Hr x.2.2.1 x.2.2.2))) (Sum.inl (x.2.2.2:Int)) (V.int (Hr x.2.2.1 x.2.2.2))=gg (cs++[x]):=by
 rw[A4,Ye]at nd
 obtain ⟨n1,n2,n3⟩:=nd
 have k: ∀n:Nat,n∉du cs->(Sum.inl (n:Int):Key)∉(gg cs).map (·.1):=fun n hn z=>by
  rw[gR]at z
  obtain ⟨m,hm,e⟩:=XA.mp z
  have:m=n:=by have:=Sum.inl.inj e;omega
  exact hn (this▸hm)
 have h1:x.2.2.1∉du cs:=fun z=>n3 _ z _ (by simp) rfl
 have h2:x.2.2.2∉du cs:=fun z=>n3 _ z _ (by simp) rfl
 have h3:x.2.2.1≠x.2.2.2:=by
  rw[XH]at n2
  simpa using n2.1
 rw[kI _ (vU (k _ h1)),kI,A5,Yj]
 ·rfl
 ·refine vU fun z=>?_
  rw[UH,Xn]at z
  rcases z with z | z
  ·exact k _ h2 z
  ·have:=Sum.inl.inj (Sz.mp z)
   omega
noncomputable def cF (cs:List C4) (p:Nat):Nat:=(((cW (gg cs) (Sum.inl (p:Int))).map fun v=>match v with | .int i=>i.toNat | _=>0).getD 0)
theorem Ds (p q:Nat):Hr p q=(min p q:Nat):=by unfold Hr;split<;>omega
theorem Hs {cs:List C4} (nd:(du cs).Nodup) {x:C4} (hx:x∈cs):(cW (gg cs) (Sum.inl (x.2.2.1:Int))=some (.int (min x.2.2.1 x.2.2.2:Nat))/\cW (gg cs) (Sum.inl (x.2.2.2:Int))=some (.int (min x.2.2.1 x.2.2.2:Nat)))/\cF cs x.2.2.1=min x.2.2.1 x.2.2.2/\cF cs x.2.2.2=min x.2.2.1 x.2.2.2:=by
 have kn:((gg cs).map (·.1)).Nodup:=by rw[gR];exact JE nd
 have e1:cW (gg cs) (Sum.inl (x.2.2.1:Int))=some (.int (min x.2.2.1 x.2.2.2:Nat)):=by
  rw[<-Ds]
  exact Dp kn (XW.mpr ⟨x,hx,by simp⟩)
 have e2:cW (gg cs) (Sum.inl (x.2.2.2:Int))=some (.int (min x.2.2.1 x.2.2.2:Nat)):=by
  rw[<-Ds]
  exact Dp kn (XW.mpr ⟨x,hx,by simp⟩)
 refine ⟨⟨e1,e2⟩,?_,?_⟩
 ·unfold cF;rw[e1];exact UG _
 ·unfold cF;rw[e2];exact UG _
theorem zD (cs:List C4):((jN cs).flatMap fun x=>[x.1,x.2]).Perm (du cs):=by
 induction cs with
 | nil=>exact .nil
 | cons x r ih=>
  unfold jN du at ih ⊢
  rw[Xw,XS,XS]
  refine List.Perm.append ?_ ih
  show [min x.2.2.1 x.2.2.2,max x.2.2.1 x.2.2.2].Perm [x.2.2.1,x.2.2.2]
  by_cases z:x.2.2.1<=x.2.2.2
  ·rw[Yg z,YW z]
  ·rw[Yi (by omega),YO (by omega)]
   exact List.Perm.swap _ _ _
theorem JF {cs:List C4} {P:List Nat} (nd:(du cs).Nodup) (hp:P.Perm (du cs)) (up:P.Pairwise (· < ·)):Di (jN cs) (cF cs) P:=by
 refine ⟨fun x hx=>?_,((zD cs).nodup_iff).mpr nd,hp.trans (zD cs).symm,up,fun x hx=>?_⟩
 ·obtain ⟨c,hc,rfl⟩:=XA.mp hx
  have dH:c.2.2.1≠c.2.2.2:=fun z=>by
   have: ∀{cs:List C4},(du cs).Nodup-> ∀c∈cs,c.2.2.1≠c.2.2.2:=fun {cs}=>by
    induction cs with
    | nil=>exact fun _ _ h=>absurd h Xu
    | cons a r ih=>
     intro nd c hc
     unfold du at nd
     rw[XS,Ye]at nd
     rcases UE.mp hc with e | e
     ·subst e
      have:=nd.1
      rw[XH]at this
      simpa using this.1
     ·exact ih nd.2.1 c e
   exact this nd c hc z
  show min c.2.2.1 c.2.2.2<max c.2.2.1 c.2.2.2
  omega
 ·obtain ⟨c,hc,rfl⟩:=XA.mp hx
  obtain ⟨_,e1,e2⟩:=Hs nd hc
  show cF cs (min c.2.2.1 c.2.2.2)=min c.2.2.1 c.2.2.2/\cF cs (max c.2.2.1 c.2.2.2)=min c.2.2.1 c.2.2.2
  by_cases z:c.2.2.1<=c.2.2.2
  ·rw[Yg z,YW z]at*
   exact ⟨e1,e2⟩
  ·rw[Yi (by omega),YO (by omega)]at*
   exact ⟨e2,e1⟩
theorem Dt {l:List Nat} {p:Nat} (h:p∈l):l.eraseIdx (l.idxOf p)=l.erase p:=(List.erase_eq_eraseIdx_of_idxOf rfl).symm
theorem behind {l:List Nat} (up:l.Pairwise (· < ·)) {p:Nat} (h:p∈l):(l.erase p).length - l.idxOf p=(l.filter fun x=>decide (p<x)).length:=by
 induction l with
 | nil=>exact absurd h Xu
 | cons a r ih=>
  rw[YB]at up
  by_cases z:a=p
  ·subst z
   rw[List.erase_cons_head,List.idxOf_cons_self,XE (by simp),List.filter_eq_self.mpr (fun x hx=>decide_eq_true (up.1 x hx))]
   rfl
  ·have hr:=(UE.mp h).resolve_left (Ne.symm z)
   rw[List.erase_cons_tail (by simpa using z),j_,if_neg z,XE (by
    have:=up.1 p hr
    simp;omega), <-ih up.2 hr,XR]
   omega
theorem JG {st:Nat->Nat} {P T R:List Nat} (h:P.Pairwise (· < ·)) (e:P=T++R) (R':List Nat):(nV st T R').Pairwise (· < ·):=by
 rw[e,YF]at h
 exact h.1.filter _
theorem Gi {st:Nat->Nat} {T R:List Nat}:(nV st T R).length<=T.length:=Y_ _ _
theorem JH {cs:List C4} (nd:(du cs).Nodup) {p:Nat} (hp:p∈du cs):cW (gg cs) (Sum.inl (p:Int))=some (.int (cF cs p:Nat)):=by
 unfold du at hp
 obtain ⟨x,hx,e⟩:=XW.mp hp
 obtain ⟨⟨e1,e2⟩,e3,e4⟩:=Hs nd hx
 have e':p=x.2.2.1\/p=x.2.2.2:=by simpa using e
 rcases e' with rfl | rfl
 ·rw[e1,e3]
 ·rw[e2,e4]
theorem x5 {ms:List Int} {l:List Nat} (nd:l.Nodup) (hp:ms.Perm (l.map fun n:Nat=>(n:Int))) (hw:ms.Pairwise fun a b=> ¬b<a): ∃P:List Nat,ms.map V.int=ins P/\P.Perm l/\P.Pairwise (· < ·):=by
 have uH: ∀m∈ms, ∃n:Nat,m=n:=fun m hm=>by
  obtain ⟨n,_,rfl⟩:=XA.mp (hp.mem_iff.mp hm)
  exact ⟨n,rfl⟩
 have e1:ms=(ms.map Int.toNat).map fun n:Nat=>(n:Int):=by
  rw[X4]
  refine (Zr ms).symm.trans (YH fun m hm=>?_)
  obtain ⟨n,rfl⟩:=uH m hm
  exact (congrArg _ (UG n)).symm
 have p1:(ms.map Int.toNat).Perm l:=by
  have:=hp.map Int.toNat
  rw[X4]at this
  have e2:l.map (Int.toNat ∘ fun n:Nat=>(n:Int))=l:=(YH fun n _=>UG n).trans (Zr l)
  rwa [e2]at this
 refine ⟨ms.map Int.toNat,?_,p1,?_⟩
 ·unfold ins
  conv=>lhs;rw[e1]
  rw[X4]
  rfl
 ·have O0:(ms.map Int.toNat).Nodup:=p1.nodup_iff.mpr nd
  have S8:(ms.map Int.toNat).Pairwise fun a b=> ¬b<a:=by
   rw[e1,Yc]at hw
   exact hw.imp fun h z=>h (by omega)
  refine Qae (fun {a b} h=>?_) (List.Pairwise.and S8 O0)
  have:=h.1
  have:=h.2
  omega
theorem Du {st:Nat->Nat} {P:List Nat} {k p:Nat} (h:P[k]? =some p):Eu st (P.take k) (P.drop k)=A2 st (P.take k) (P.drop (k+1)) p+Eu st (P.take (k+1)) (P.drop (k+1)):=by
 obtain ⟨hk,e⟩:=Iy.mp h
 rw[X_ hk,e]
 show A2 st _ _ p+Eu st (P.take k++[p]) _=_
 rw[take_snoc h]
theorem Ht {n k:Nat} (h:k<n):seqIndex? (k:Int) n=some k:=by
 unfold seqIndex?
 simp
 omega
theorem rD: ∀(l:List Nat) (k:Nat),(ins l).eraseIdx k=ins (l.eraseIdx k)
 | [],_=>rfl
 | _::_,0=>rfl
 | a::l,k+1=>congrArg (V.int (a:Nat):: ·) (rD l k)
noncomputable def cst (y w:List Nat) (i:Int):Int:=vI y (aA (rd w (i - 1))) (rd w i)
theorem Dv (y w:List Nat) (p k:Int):eO y (sq w p) k=cst y w (p+k):=by
 unfold eO cst sq
 rw[show p+(k - 1)=p+k - 1 by omega]
noncomputable def wH (n:Int):Nat:=(48+n).toNat
noncomputable def stx (y w:List Nat):List Nat:=(List.range w.length).map fun i:Nat=>wH (cst y w i)
theorem dc (y w:List Nat):(stx y w).length=w.length:=by unfold stx;rw[Kw,Zs]
theorem JI: ∀n:Nat,n<10->dg n=[48+n]:=by decide+kernel
noncomputable def i8 (lg n:Nat):Nat:=3+lg / max n 1
noncomputable def mw (y u:List Nat) (lg r:Nat):List (Str×V):=dP "backward" (.str (S (dz (i8 lg u.length) (stx y u).reverse))) (dP "onward" (.str (S (dz (i8 lg u.length) (stx y u)))) (dP "leads" (.bl (leads u)) (dP "root_size" (.int r) (dP "size" (.int u.length) []))))
noncomputable def Hu (t w:Addr) (p:Nat):List (Str×V):=dP "place" (.int p) (dP "way" (.ref w) (dP "strand" (.ref t) []))
section
variable {y u:List Nat} {lg r:Nat} {t w:Addr} {p:Nat}
theorem zE:(mw y u lg r).lookup ("size":Str)=some (.int u.length):=by
 unfold mw
 rw[aK,if_neg (by decide+kernel),aK,if_neg (by decide+kernel),aK,if_neg (by decide+kernel),aK,if_neg (by decide+kernel),aK,if_pos rfl]
theorem nW:(mw y u lg r).lookup ("root_size":Str)=some (.int r):=by
 unfold mw
 rw[aK,if_neg (by decide+kernel),aK,if_neg (by decide+kernel),aK,if_neg (by decide+kernel),aK,if_pos rfl]
theorem Dw:(mw y u lg r).lookup ("leads":Str)=some (.bl (leads u)):=by
 unfold mw
 rw[aK,if_neg (by decide+kernel),aK,if_neg (by decide+kernel),aK,if_pos rfl]
theorem NY:(mw y u lg r).lookup ("onward":Str)=some (.str (S (dz (i8 lg u.length) (stx y u)))):=by
 unfold mw
 rw[aK,if_neg (by decide+kernel),aK,if_pos rfl]
theorem Gj:(mw y u lg r).lookup ("backward":Str)=some (.str (S (dz (i8 lg u.length) (stx y u).reverse))):=by
 unfold mw
 rw[aK,if_pos rfl]
theorem lr:(Hu t w p).lookup ("place":Str)=some (.int p):=by unfold Hu;rw[aK,if_pos rfl]
theorem mz:(Hu t w p).lookup ("way":Str)=some (.ref w):=by unfold Hu;rw[aK,if_neg (by decide+kernel),aK,if_pos rfl]
theorem rE:(Hu t w p).lookup ("strand":Str)=some (.ref t):=by unfold Hu;rw[aK,if_neg (by decide+kernel),aK,if_neg (by decide+kernel),aK,if_pos rfl]
end
theorem da (f:Str) (v:V): ∀fs:List (Str×V),(dP f v fs).length<=fs.length+1
 | []=>OS _
 |(g,x)::r=>by
  unfold dP
  split
  ·exact YJ _
  ·exact Yp (da f v r)
structure Sn where
 a:Addr
 t:Addr
 wy:Addr
 c:Nat
 i:Nat
 u:List Nat
 p:Nat
 r:Nat
structure A6 (H:Hp) (C a:Addr) (y u:List Nat) (lg r:Nat):Prop where
 ob: ∃dx,H a=some (.ins C dx (mw y u lg r))
 sw:SW y u
 uz:u.length<=lg
 lz:lg<=1000
 rt:bL u r
theorem A6.same {H H':Hp} {C a:Addr} {y u:List Nat} {lg r:Nat} (h:A6 H C a y u lg r) (s:aq H H'):A6 H' C a y u lg r:=by
 obtain ⟨dx,e⟩:=h.ob
 exact ⟨⟨dx,s _ _ e⟩,h.sw,h.uz,h.lz,h.rt⟩
structure i9 (H:Hp) (CW CS:Addr) (y:List Nat) (lg:Nat) (s:Sn):Prop where
 ob: ∃dx,H s.a=some (.ins CS dx (Hu s.t s.wy s.p))
 st:H s.t=some (.tup [.int s.c, .int s.i])
 wy:A6 H CW s.wy y s.u lg s.r
 pz:s.p<s.u.length
theorem i9.same {H H':Hp} {CW CS:Addr} {y:List Nat} {lg:Nat} {s:Sn} (h:i9 H CW CS y lg s) (sm:aq H H'):i9 H' CW CS y lg s:=by
 obtain ⟨dx,e⟩:=h.ob
 exact ⟨⟨dx,sm _ _ e⟩,sm _ _ h.st,h.wy.same sm,h.pz⟩
noncomputable def Bx (y:List Nat) (lg:Nat) (s:Sn):List Nat:=(dz (i8 lg s.u.length) (stx y s.u)).drop (s.p+1)
noncomputable def By (y:List Nat) (lg:Nat) (s:Sn):List Nat:=(dz (i8 lg s.u.length) (stx y s.u).reverse).drop (s.u.length - 1 - s.p)
noncomputable def seg (l:List Nat) (x z:Nat):List Nat:=(l.drop x).take (z - x)
def ik (_:PySem.W.Frag):Sp:=fun vs H Q _=> ∃(y w:List Nat) (i:Nat),vs=[.str (S y), .str (S w), .int i]/\Yd y/\y.length<=8/\SW y w/\w.length<=1000/\i<w.length/\ ∀(n:Nat) H',cst y w i=n->n<8->aq H H'->Q (.int n) H'
theorem mB {K:PySem.W.Frag} {vs:List V} {H:Hp} {Q:VK} {E:XK} (h:ik K vs H Q E):vs.length=3:=by obtain ⟨_,_,_,rfl,_⟩:=h;rfl
def vW (_:PySem.W.Frag) (C:Addr):Sp:=fun vs H Q _=> ∃(x dx:Addr) (y w:List Nat) (lg:Nat),vs=[.ref x, .str (S y), .str (S w), .int lg]/\H x=some (.ins C dx [])/\Yd y/\y.length<=8/\SW y w/\w.length<=lg/\lg<=1000/\ ∀(r:Nat) H',bL w r->H' x=some (.ins C dx (mw y w lg r))->aT x H H'->Q .fB H'
theorem A7 {K:PySem.W.Frag} {C:Addr} {vs:List V} {H:Hp} {Q:VK} {E:XK} (h:vW K C vs H Q E):vs.length=4:=by obtain ⟨_,_,_,_,_,rfl,_⟩:=h;rfl
def rF (_:PySem.W.Frag) (C:Addr):Sp:=fun vs H Q _=> ∃(x dx t w:Addr) (p:Nat),vs=[.ref x, .ref t, .ref w, .int p]/\H x=some (.ins C dx [])/\ ∀H',H' x=some (.ins C dx (Hu t w p))->aT x H H'->Q .fB H'
theorem x6 {K:PySem.W.Frag} {C:Addr} {vs:List V} {H:Hp} {Q:VK} {E:XK} (h:rF K C vs H Q E):vs.length=4:=by obtain ⟨_,_,_,_,_,rfl,_⟩:=h;rfl
def fX (_:PySem.W.Frag) (CW CS:Addr):Sp:=fun vs H Q _=> ∃(y:List Nat) (lg:Nat) (s:Sn) (x z:Nat),vs=[.ref s.a, .int x, .int z]/\y.length<=8/\i9 H CW CS y lg s/\x<=z/\Q (.str (S (seg (Bx y lg s) x z))) H
theorem nq {K:PySem.W.Frag} {CW CS:Addr} {vs:List V} {H:Hp} {Q:VK} {E:XK} (h:fX K CW CS vs H Q E):vs.length=3:=by obtain ⟨_,_,_,_,_,rfl,_⟩:=h;rfl
def gz (_:PySem.W.Frag) (CW CS:Addr):Sp:=fun vs H Q _=> ∃(y:List Nat) (lg:Nat) (s:Sn) (x z:Nat),vs=[.ref s.a, .int x, .int z]/\y.length<=8/\i9 H CW CS y lg s/\x<=z/\Q (.str (S (seg (By y lg s) x z))) H
theorem oW {K:PySem.W.Frag} {CW CS:Addr} {vs:List V} {H:Hp} {Q:VK} {E:XK} (h:gz K CW CS vs H Q E):vs.length=3:=by obtain ⟨_,_,_,_,_,rfl,_⟩:=h;rfl
theorem Gk {l:List Nat} {a b:Nat} (h:a<=b):cut l (some (a:Int)) (some (b:Int))=(l.drop a).take (b - a):=by
 unfold cut
 rw[HT.gh,HT.gh]
 by_cases z:a<=l.length
 ·rw[Yg z]
  by_cases z2:b<=l.length
  ·rw[Yg z2]
  ·rw[Yi (by omega),Xz (by rw[Xx];omega),Xz (by rw[Xx];omega)]
 ·rw[Yi (by omega),Yi (by omega),Yu (OS _),Yu (by omega)]
  simp
theorem zF {l:List Nat} {f x z:Nat} (h:x<=z):cut l (some ((f:Int)+x)) (some ((f:Int)+z))=seg (l.drop f) x z:=by
 rw[show (f:Int)+x=((f+x:Nat):Int) by omega,show (f:Int)+z=((f+z:Nat):Int) by omega,Gk (by omega)]
 unfold seg
 rw[List.drop_drop,show f+z - (f+x)=z - x by omega]
theorem lA {lg n:Nat} (h:1<=n):n*i8 lg n<=3*n+lg/\2*n+lg<n*i8 lg n:=by
 unfold i8
 rw[YO h,Nat.mul_add]
 have h1:=Zf lg n
 have h2:=Y1 lg (show 0<n by omega)
 omega
theorem rG (m:Nat) (l:List Nat):(dz m l).length=l.length*m:=by
 unfold dz
 rw[List.length_flatten,List.map_replicate,ZM,YE]
theorem SW.dG {y w:List Nat} (hy:Yd y) (h:SW y w):My.dG w=fE w:=by unfold My.dG;rw[h.core hy]
theorem uc (l:List Nat) (x z j:Nat):(seg l x z)[j]? =if j<z - x then l[x+j]? else none:=by
 unfold seg
 rw[Y2]
 split
 ·rw[Yw]
 ·rfl
theorem x8 {l m:List Nat} {x z:Nat}:seg l x (x+z)=seg m x (x+z)↔ ∀k,x<=k->k<x+z->l[k]? =m[k]?:= by
 constructor
 ·intro h k h1 h2
  have:=congrArg (·[k - x]?) h
  simp only[uc]at this
  rwa [if_pos (by omega),if_pos (by omega),show x+(k - x)=k by omega]at this
 ·intro h
  refine Zu fun j=>?_
  rw[uc,uc]
  by_cases z':j<x+z - x
  ·rw[if_pos z',if_pos z',h (x+j) (by omega) (by omega)]
  ·rw[if_neg z',if_neg z']
noncomputable def JJ (b:Bool) (y:List Nat) (lg:Nat) (s:Sn):List Nat:=if b=true then Bx y lg s else By y lg s
def i_ (l m:List Nat) (n:Nat):Prop:= ∀k,k<n->l[k]? =m[k]?
def oX (_:PySem.W.Frag) (CW CS fa fb:Addr):Sp:=fun vs H Q _=> ∃(y:List Nat) (lg:Nat) (s t:Sn) (b:Bool) (en:Nat),vs=[.ref (if b=true then fa else fb), .ref s.a, .ref t.a, .int en]/\y.length<=8/\i9 H CW CS y lg s/\i9 H CW CS y lg t/\en<=100000/\ ∀m:Nat,i_ (JJ b y lg s) (JJ b y lg t) m->(en<=m\/(JJ b y lg s)[m]?≠ (JJ b y lg t)[m]?)->Q (.int m) H
theorem vX {K:PySem.W.Frag} {CW CS fa fb:Addr} {vs:List V} {H:Hp} {Q:VK} {E:XK} (h:oX K CW CS fa fb vs H Q E):vs.length=4:=by obtain ⟨_,_,_,_,_,_,rfl,_⟩:=h;rfl
theorem i_.more {l m:List Nat} {x z:Nat} (h:i_ l m x) (e:seg l x (x+z)=seg m x (x+z)):i_ l m (x+z):=fun k hk=>by
 by_cases q:k<x
 ·exact h k q
 ·exact x8.mp e k (by omega) hk
theorem Dx {l m:List Nat} {x z:Nat} (h:seg l x (x+z)≠seg m x (x+z)): ∃k,x<=k/\k<x+z/\l[k]?≠ m[k]?:= Classical.byContradiction fun q=>h (x8.mpr fun k h1 h2=>Classical.byContradiction fun r=>q ⟨k,h1,h2,r⟩)
noncomputable def x9 (s:Sn):Int×Int:=if leads s.u=true then ((s.c:Int),((s.p / s.r:Nat):Int)) else (-(s.c:Int), -(((s.u.length - 1 - s.p) / s.r:Nat):Int))
def oY (_:PySem.W.Frag) (CW CS:Addr):Sp:=fun vs H Q _=> ∃(y:List Nat) (lg:Nat) (s:Sn),vs=[.ref s.a]/\i9 H CW CS y lg s/\ ∀p H',H p=none->H' p=some (.tup [.int (x9 s).1, .int (x9 s).2])->aq H H'->Q (.ref p) H'
theorem vY {K:PySem.W.Frag} {CW CS:Addr} {vs:List V} {H:Hp} {Q:VK} {E:XK} (h:oY K CW CS vs H Q E):vs.length=1:=by obtain ⟨_,_,_,rfl,_⟩:=h;rfl
noncomputable def jD (y:List Nat) (M:Nat) (s:Sn):List Int:=kk y (sq s.u s.p) 0 M++[(x9 s).1,(x9 s).2]
def ja (_:PySem.W.Frag) (CW CS:Addr):Sp:=fun vs H Q _=> ∃(y:List Nat) (lg:Nat) (s t:Sn),vs=[.ref s.a, .ref t.a]/\Yd y/\y.length<=8/\i9 H CW CS y lg s/\i9 H CW CS y lg t/\rd s.u s.p=rd t.u t.p/\ ∀H',aq H H'->Q (.bl (bJ (jD y (2*lg) s) (jD y (2*lg) t))) H'
theorem ny {K:PySem.W.Frag} {CW CS:Addr} {vs:List V} {H:Hp} {Q:VK} {E:XK} (h:ja K CW CS vs H Q E):vs.length=2:=by obtain ⟨_,_,_,_,rfl,_⟩:=h;rfl
theorem jb {u:List Nat} {r:Nat} (hn:u≠[]) (h:bL u r):1<=r/\r<=u.length:=by
 rcases h with ⟨z,_⟩ | ⟨h1,h2,_⟩
 ·exact absurd z hn
 ·exact ⟨h1,h2⟩
theorem zG {y u:List Nat} {i:Nat} (h:i<u.length):(stx y u)[i]? =some (wH (cst y u i)):=by
 unfold stx
 rw[Xo,List.getElem?_range h]
 rfl
theorem ud (y u:List Nat) (i:Int):cst y u (i%u.length)=cst y u i:=by
 unfold cst
 rw[g5, <-g5 u (i%u.length - 1),Qaf,Zd _ (Int.dvd_refl _), <-Qaf,g5]
theorem Dy {y:List Nat} {lg:Nat} {s:Sn} (hn:s.u≠[]) {k:Nat} (h:s.p+1+k<s.u.length*i8 lg s.u.length):(Bx y lg s)[k]? =some (wH (eO y (sq s.u s.p) (k+1))):=by
 have hp:=SD.mpr hn
 unfold Bx
 rw[Yw,kS _ _ _ (by rw[dc,YE];exact h),dc,zG (Y1 _ hp),Dv,ZA,ud]
 congr 3
 omega
theorem Dz {y:List Nat} {lg:Nat} {s:Sn} (hn:s.u≠[]) (hp:s.p<s.u.length) {k:Nat} (h:s.u.length - 1 - s.p+k<s.u.length*i8 lg s.u.length):(By y lg s)[k]? =some (wH (eO y (sq s.u s.p) (-(k:Int)))):=by
 have hl:=SD.mpr hn
 unfold By
 rw[Yw,kS _ _ _ (by rw[XB,dc,YE];exact h),XB,dc]
 have hm:=Y1 (s.u.length - 1 - s.p+k) hl
 rw[YS (by rw[dc];exact hm),dc,zG (by omega),Dv]
 congr 2
 rw[<-ud y s.u (s.p+ -(k:Int)), <-ud y s.u ((s.u.length - 1 - (s.u.length - 1 - s.p+k)%s.u.length:Nat):Int)]
 congr 1
 have e:((s.u.length - 1 - (s.u.length - 1 - s.p+k)%s.u.length:Nat):Int)=(s.u.length:Int) - 1 - ((s.u.length:Int) - 1 - s.p+k)%s.u.length:=by
  have:(((s.u.length - 1 - s.p+k)%s.u.length:Nat):Int)=((s.u.length:Int) - 1 - s.p+k)%s.u.length:=by
   rw[ZA];congr 1;omega
  omega
 rw[e,Qaf,Zd _ (Int.dvd_refl _), <-Qaf]
 congr 1
 omega
theorem rH {lg:Nat} {s:Sn} {en:Nat} (hp:s.p<s.u.length) (he:en<=s.u.length+lg):s.p+1+en<s.u.length*i8 lg s.u.length+1/\s.u.length - 1 - s.p+en<s.u.length*i8 lg s.u.length:=by
 have:=(lA (lg:=lg) (n:=s.u.length) (by omega)).2
 omega
theorem zH {u:List Nat} {r:Nat} (hn:u≠[]) (h:bL u r) (p k:Int):sq u p (k+r)=sq u p k:=by
 have:=((fV hn h).2 (p+r) p).mpr (by rw[show p+(r:Int) - p=r by omega,Int.emod_self])
 have e:=this k
 unfold sq at e ⊢
 rw[show p+(k+r)=p+r+k by omega]
 exact e
theorem zI {a b:Int} (ha:0<=a) (hb:0<=b) (h:wH a=wH b):a=b:=by unfold wH at h;omega
theorem DA {a b:Int} (ha:0<=a) (hb:0<=b):wH a<wH b↔a<b:=by unfold wH;omega
theorem zJ {y:List Nat} {f:Int->Nat} (hy:Yd y) (h:gG y f) (k:Int):0<=eO y f k:=by
 have:=(eQ (hy.cl _ (h.bE (k - 1))) (h.bE k) (Ne.symm (h.red k))).1
 unfold eO
 omega
theorem zK {l m:List Nat} {en a n:Nat} (ha:a<en) (h1: ∀k,k<a->l[k]? =m[k]?) (h2:l[a]?≠ m[a]?) (g1:i_ l m n) (g2:en<=n\/l[n]?≠ m[n]?):n=a:=by
 by_cases z:a<n
 ·exact absurd (g1 a z) h2
 ·by_cases z2:n<a
  ·rcases g2 with g2 | g2
   ·omega
   ·exact absurd (h1 n z2) g2
  ·omega
theorem zL {l m:List Nat} {en n:Nat} (h1: ∀k,k<en->l[k]? =m[k]?) (g2:en<=n\/l[n]?≠ m[n]?):en<=n:=by
 rcases g2 with g2 | g2
 ·exact g2
 ·exact Classical.byContradiction fun z=>g2 (h1 n (by omega))
theorem nX {l:List Nat} {a x:Nat} (h:l[a]? =some x):seg l a (a+1)=[x]:=by
 obtain ⟨ha,e⟩:=Iy.mp h
 unfold seg
 rw[X_ ha,e,show a+1 - a=1 by omega]
 rfl
theorem DB (x z:Nat):decide ([x]<[z])=decide (x<z):=decide_eq_decide.mpr ⟨fun h=>(ZX.mp h).elim id fun q=>absurd q.2 (Y7 _),fun h=>ZX.mpr (.inl h)⟩
theorem Gm (a b c d:Int):Eo a b c d=bJ [a,b] [c,d]:=by
 unfold Eo
 show _=if a=c then (if b=d then bJ [] [] else decide (b<d)) else decide (a<c)
 by_cases z:a=c
 ·rw[if_pos z,if_pos z]
  by_cases q:b=d
  ·rw[if_pos q,q];simp[bJ]
  ·rw[if_neg q]
 ·rw[if_neg z,if_neg z]
noncomputable def zM (ss:List Sn):List V:=ss.map fun s=>V.ref s.a
theorem lB (ss:List Sn):(zM ss).length=ss.length:=by unfold zM;rw[Kw]
theorem JK {ss:List Sn} {i:Nat} {s:Sn} (h:ss[i]? =some s):(zM ss)[i]? =some (V.ref s.a):=by unfold zM;rw[Xo,h];rfl
theorem Gn {ss:List Sn} {i:Nat} {x:V} (h:(zM ss)[i]? =some x): ∃s,ss[i]? =some s/\x=V.ref s.a:=by
 unfold zM at h
 rw[Xo]at h
 cases e:ss[i]? with
 | none=>rw[e]at h;cases h
 | some p=>rw[e]at h;cases h;exact ⟨p,rfl,rfl⟩
def A8 (y:List Nat) (M:Nat) (ss:List Sn):Prop:=ss.Pairwise fun s t=>bJ (jD y M t) (jD y M s)=false
def il (_:PySem.W.Frag) (CW CS:Addr):Sp:=fun vs H Q _=> ∃(y:List Nat) (lg:Nat) (a:Addr) (ss:List Sn) (t:Sn),vs=[.ref a, .ref t.a]/\Yd y/\y.length<=8/\H a=some (.lst (zM ss))/\(∀s∈ss,i9 H CW CS y lg s/\rd s.u s.p=rd t.u t.p)/\i9 H CW CS y lg t/\A8 y (2*lg) ss/\ss.length<=100000/\
 ∀(n:Nat) H',n<=ss.length->(∀k s,ss[k]? =some s->k<n->bJ (jD y (2*lg) s) (jD y (2*lg) t)=true)->(∀k s,ss[k]? =some s->n<=k->bJ (jD y (2*lg) s) (jD y (2*lg) t)=false)->aq H H'->Q (.int n) H'
theorem mC {K:PySem.W.Frag} {CW CS:Addr} {vs:List V} {H:Hp} {Q:VK} {E:XK} (h:il K CW CS vs H Q E):vs.length=2:=by obtain ⟨_,_,_,_,_,rfl,_⟩:=h;rfl
structure Wp where
 t:Addr
 a:Addr
 b:Addr
 r:Nat
 q:Nat
noncomputable def Ew (l:List Wp):List V:=l.map fun p=>V.ref p.t
theorem DC {l:List Wp} {i:Nat} {p:Wp} (h:l[i]? =some p):(Ew l)[i]? =some (V.ref p.t):=by unfold Ew;rw[Xo,h];rfl
theorem DD (l:List Wp) (p:Wp):Ew l++[V.ref p.t]=Ew (l++[p]):=by unfold Ew;rw[UH];rfl
structure ue (H:Hp) (C:Addr) (y:List Nat) (lg:Nat) (w:List Nat) (p:Wp):Prop where
 tp:H p.t=some (.tup [.ref p.a, .ref p.b])
 on:A6 H C p.a y w lg p.r
 bk:A6 H C p.b y (dA w) lg p.q
theorem ue.same {H H':Hp} {C:Addr} {y:List Nat} {lg:Nat} {w:List Nat} {p:Wp} (h:ue H C y lg w p) (s:aq H H'):ue H' C y lg w p:=⟨s _ _ h.tp,h.on.same s,h.bk.same s⟩
structure x_ (w:List Nat) (c i:Nat) (s:Sn):Prop where
 ec:s.c=c
 ei:s.i=i
 eu:s.u=if aB (rd w i)=true then w else dA w
 ep:s.p=if aB (rd w i)=true then i else w.length - 1 - i
def jc (_:PySem.W.Frag) (CW CS:Addr):Sp:=fun vs H Q _=> ∃(y:List Nat) (lg:Nat) (wt vt st:Addr) (w:List Nat) (ws:List (List Nat)) (lL:List Wp) (p:Wp) (c i:Nat),vs=[.ref wt, .ref vt, .ref st]/\Yd y/\H wt=some (.tup (gX ws))/\H vt=some (.lst (Ew lL))/\H st=some (.tup [.int c, .int i])/\ws[c]? =some w/\lL[c]? =some p/\ue H CW y lg w p/\i<w.length/\
 ∀(s:Sn) H',x_ w c i s->s.t=st->i9 H' CW CS y lg s->H s.a=none->aq H H'->Q (.ref s.a) H'
theorem nz {K:PySem.W.Frag} {CW CS:Addr} {vs:List V} {H:Hp} {Q:VK} {E:XK} (h:jc K CW CS vs H Q E):vs.length=3:=by obtain ⟨_,_,_,_,_,_,_,_,_,_,_,rfl,_⟩:=h;rfl
def jO (_:PySem.W.Frag):Sp:=fun vs H Q _=> ∃(wt:Addr) (ws:List (List Nat)) (band:Nat),vs=[.ref wt, .str (S [band])]/\H wt=some (.tup (gX ws))/\ws.length<=4/\(∀w∈ws,(∀c∈w,Lt c)/\w.length<=12)/\band∈aE/\ ∀(q:Addr) (ps:List Pr) (H':Hp),H q=none->H' q=some (.lst (rz ps))->(∀p∈ps,nj H' p)->ps.map Pr.pair=c_ band ws ws.length->aq H H'->Q (.ref q) H'
theorem oZ {K:PySem.W.Frag} {vs:List V} {H:Hp} {Q:VK} {E:XK} (h:jO K vs H Q E):vs.length=2:=by obtain ⟨c,_,_,rfl,_⟩:=h;rfl
open Classical in
noncomputable def KR (w:List Nat):Nat:=if h: ∃s,bL w s then choose h else 0
theorem uf {w:List Nat} (hn:w≠[]):bL w (KR w):=by
 have h:=zf hn
 unfold KR
 rw[dif_pos h]
 exact Classical.choose_spec h
theorem DE {y w:List Nat} {r q:Nat} (hy:Yd y) (hw:SW y w) (h:bL w r) (g:bL (dA w) q):q=r:=by
 have hn:=hw.ne
 have ht:=ml hn
 have p1:=jb hn h
 have p2:=jb ht g
 have key: ∀d:Nat,(d:Int)%(r:Int)=0↔(d:Int)%(q:Int)=0:=fun d=>by
  have a:=(fV hn h).2 d 0
  have b:=(fV ht g).2 d 0
  rw[Zm]at a b
  rw[<-a, <-b]
  constructor
  ·intro p k
   rw[gm hn,gm hn]
   unfold bq
   have:=p (-1 - (d:Int) - k)
   unfold sq at this
   have e1:rd w (-1 - (0:Int) - k)=rd w ((d:Int)+(-1 - (d:Int) - k)):=by congr 1;omega
   have e2:rd w (-1 - (d:Int) - k)=rd w (0+(-1 - (d:Int) - k)):=by congr 1;omega
   rw[e1,e2,this]
  ·intro p k
   have e: ∀x:Int,rd w x=aA (rd (dA w) (-1 - x)):=fun x=>by
    rw[g7 hn,show -1 - (-1 - x)=x by omega,aI (hy.lt _ (hw.rd _))]
   unfold sq
   rw[e,e]
   have:=p (-1 - (d:Int) - k)
   unfold sq at this
   rw[show -1 - ((d:Int)+k)=0+(-1 - (d:Int) - k) by omega, <-this]
   congr 2
   omega
 have a:=(key r).mp (Int.emod_self)
 have b:=(key q).mpr (Int.emod_self)
 have a':r%q=0:=by
  have:((r%q:Nat):Int)=0:=by rw[<-a];rfl
  omega
 have b':q%r=0:=by
  have:((q%r:Nat):Int)=0:=by rw[<-b];rfl
  omega
 exact ZS (Z4 (by omega) (Y5 a')) (Z4 (by omega) (Y5 b'))
noncomputable def DF (ws:List (List Nat)) (c:Nat):Bool:=leads (ws.getD c [])
noncomputable def DG (ws:List (List Nat)) (c:Nat):Nat:=KR (ws.getD c [])
noncomputable def O4 (y:List Nat) (ws:List (List Nat)) (M:Nat) (x:Nat×Nat):List Int:=cD y ws (DF ws) (DG ws) M x.1 x.2
theorem x_.line {y w:List Nat} {c i:Nat} {s:Sn} (hy:Yd y) (hw:SW y w) (hi:i<w.length) (h:x_ w c i s):sq s.u s.p=lK w i:=by
 rw[h.eu,h.ep]
 unfold lK
 by_cases z:aB (rd w i)=true
 ·rw[if_pos z,if_pos z,if_pos z]
 ·rw[if_neg z,if_neg z,if_neg z, <-Jh hw.ne,show ((w.length - 1 - i:Nat):Int)=(w.length:Int) - 1 - i by omega]
theorem zN {y w:List Nat} {ws:List (List Nat)} {c i M:Nat} {s:Sn} (hy:Yd y) (hw:SW y w) (hi:i<w.length) (e:ws.getD c []=w) (h:x_ w c i s) (rt:bL s.u s.r):jD y M s=O4 y ws M (c,i):=by
 unfold jD O4 cD
 rw[h.line hy hw hi]
 simp only[e]
 congr 1
 unfold x9 Es DF DG
 rw[e,h.ec]
 have uV:=uf hw.ne
 by_cases z:aB (rd w i)=true
 ·have eu:s.u=w:=by rw[h.eu,if_pos z]
  have ep:s.p=i:=by rw[h.ep,if_pos z]
  rw[eu]at rt ⊢
  have er:=CA hw.ne rt uV
  rw[er,ep,z]
  by_cases l:leads w=true
  ·rw[if_pos l,l];rfl
  ·rw[if_neg l,if_neg (fun q=>l q.symm)];rfl
 ·have eu:s.u=dA w:=by rw[h.eu,if_neg z]
  have ep:s.p=w.length - 1 - i:=by rw[h.ep,if_neg z]
  rw[eu]at rt ⊢
  have er:=DE hy hw uV rt
  have z':aB (rd w i)=false:=by simpa using z
  rw[er,ep,z',rq hy hw,bV]
  have ei:w.length - 1 - (w.length - 1 - i)=i:=by omega
  rw[ei]
  cases leads w<;>rfl
theorem x_.band {y w:List Nat} {c i band:Nat} {s:Sn} (hy:Yd y) (hw:SW y w) (hi:i<w.length) (hb:band∈aE) (ho:xW band (rd w i)=true) (h:x_ w c i s):rd s.u s.p=band:=by
 have lb:Lt band:= .inl hb
 have lo:aB band=true:=by rw[jn lb];exact decide_eq_true hb
 have EI:rd w i=band\/rd w i=aA band:=by
  unfold xW at ho
  simpa using ho
 rw[h.eu,h.ep]
 rcases EI with e | e
 ·rw[if_pos (by rw[e];exact lo),if_pos (by rw[e];exact lo)]
  exact e
 ·have z: ¬aB (rd w i)=true:=by rw[e,fI _ lb.mem,lo];decide
  rw[if_neg z,if_neg z,g7 hw.ne,show -1 - ((w.length - 1 - i:Nat):Int)=i - w.length by omega,xJ,e,aI lb]
def DH (y:List Nat) (ws:List (List Nat)) (M:Nat) (l:List (Nat×Nat)):Prop:=l.Pairwise fun s t=>bJ (O4 y ws M t) (O4 y ws M s)=false
def jP (_:PySem.W.Frag) (CW CS:Addr):Sp:=fun vs H Q _=> ∃(y:List Nat) (lg:Nat) (wt vt:Addr) (ws:List (List Nat)) (lL:List Wp) (band:Nat),vs=[.ref wt, .ref vt, .str (S [band])]/\Yd y/\y.length<=8/\H wt=some (.tup (gX ws))/\ws.length<=4/\(∀w∈ws,SW y w/\w.length<=12)/\band∈aE/\H vt=some (.lst (Ew lL))/\lL.length=ws.length/\(∀(c:Nat) (w:List Nat) (p:Wp),ws[c]? =some w->lL[c]? =some p->ue H CW y lg w p)/\
 ∀(q:Addr) (ps:List Pr) (H':Hp),H q=none->H' q=some (.tup (rz ps))->(∀p∈ps,nj H' p)->(ps.map Pr.pair).Perm (c_ band ws ws.length)->DH y ws (2*lg) (ps.map Pr.pair)->aq H H'->Q (.ref q) H'
theorem o4 {K:PySem.W.Frag} {CW CS:Addr} {vs:List V} {H:Hp} {Q:VK} {E:XK} (h:jP K CW CS vs H Q E):vs.length=3:=by obtain ⟨_,_,_,_,_,_,_,rfl,_⟩:=h;rfl
theorem JL {y:List Nat} {M:Nat} {ss:List Sn} {t:Sn} {n:Nat} (up:A8 y M ss) (h1: ∀k s,ss[k]? =some s->k<n->bJ (jD y M s) (jD y M t)=true) (h2: ∀k s,ss[k]? =some s->n<=k->bJ (jD y M s) (jD y M t)=false):A8 y M (ss.take n++t::ss.drop n):=by
 have tk: ∀s∈ss.take n,bJ (jD y M s) (jD y M t)=true:=fun s hs=>by
  obtain ⟨k,hk,e⟩:=Zj hs
  rw[Xm]at hk
  rw[List.getElem_take]at e
  exact h1 k s (by rw[<-e];exact Iw (by omega)) (by omega)
 have dr: ∀s∈ss.drop n,bJ (jD y M s) (jD y M t)=false:=fun s hs=>by
  obtain ⟨k,hk,e⟩:=Zj hs
  rw[Xx]at hk
  rw[List.getElem_drop]at e
  exact h2 (n+k) s (by rw[<-e];exact Iw (by omega)) (by omega)
 have Rh:A8 y M (ss.take n++ss.drop n):=by rw[X3];exact up
 unfold A8 at Rh ⊢
 rw[YF]at Rh ⊢
 rw[YB]
 obtain ⟨u1,u2,u3⟩:=Rh
 refine ⟨u1,⟨fun s hs=>dr s hs,u2⟩,fun a ha b hb=>?_⟩
 rcases UE.mp hb with e | e
 ·rw[e];exact (mf (tk a ha)).1
 ·exact u3 a ha b e
theorem jd (band:Nat) {ws:List (List Nat)} (hw: ∀w∈ws,w.length<=12): ∀n,n<=ws.length->(c_ band ws n).length<=12*n
 | 0,_=>WO _
 | n+1,h=>by
  have ih:=jd band hw n (by omega)
  unfold c_ at ih ⊢
  rw[Yv,X5,UD,Y8]
  have h1:(ie band n (ws.getD n []) (ws.getD n []).length).length<=12:=by
   unfold ie
   rw[Kw]
   refine XM (Y_ _ _) ?_
   rw[Zs]
   exact hw _ (getD_in (by omega))
  omega
theorem yf {band:Nat} {ws:List (List Nat)} {x:Nat×Nat} (h:x∈c_ band ws ws.length): ∃w,ws[x.1]? =some w/\x.2<w.length/\xW band (rd w x.2)=true:=by
 unfold c_ at h
 obtain ⟨c,hc,h⟩:=XW.mp h
 have nG:=Yt.mp hc
 unfold ie at h
 obtain ⟨i,hi,e⟩:=XA.mp h
 obtain ⟨i1,i2⟩:=XI.mp hi
 have S9:=Yt.mp i1
 subst e
 refine ⟨ws.getD c [],by rw[UI,Iw nG];rfl,S9,?_⟩
 have:(ws.getD c []).getD i 0=rd (ws.getD c []) i:=by
  have:=me S9
  rw[UI,this];rfl
 show xW band (rd (ws.getD c []) i)=true
 rw[<-this]
 exact i2
theorem rJ {H H':Hp} {x dx C:Addr} (nx:H x=none) (JM:H dx=none) (sm:aT x (L2.upd (L2.upd H dx (.own x)) x (.ins C dx [])) H'):aq H H':=fun a o e=>by
 refine sm a o ?_ (ay e nx)
 rw[au (ay e nx),au (ay e JM)]
 exact e
noncomputable def Gp (ws:List (List Nat)):List Int:=ws.map fun w=>(w.length:Int)
theorem Gq (l:List Int): ∀a:Int,a<=l.foldl (fun x y=>if y>x then y else x) a/\(∀x∈l,x<=l.foldl (fun x y=>if y>x then y else x) a)/\(l.foldl (fun x y=>if y>x then y else x) a=a\/l.foldl (fun x y=>if y>x then y else x) a∈l):=by
 induction l with
 | nil=>exact fun a=>⟨Int.le_refl _,fun _ h=>absurd h Xu, .inl rfl⟩
 | cons b r ih=>
  intro a
  rw[Zh]
  obtain ⟨h1,h2,h3⟩:=ih (if b>a then b else a)
  have h4:a<=(if b>a then b else a)/\b<=(if b>a then b else a):=by split<;>omega
  refine ⟨by omega,fun x hx=>?_,?_⟩
  ·rcases UE.mp hx with e | e
   ·rw[e];omega
   ·exact h2 x e
  ·rcases h3 with e | e
   ·rw[e]
    split
    ·exact .inr Xp
    ·exact .inl rfl
   ·exact .inr (WN _ e)
theorem yg {ws:List (List Nat)} (h: ∀w∈ws,w.length<=12): ∃lg:Nat,Ja 0 (Gp ws)=lg/\lg<=12/\ ∀w∈ws,w.length<=lg:=by
 cases ws with
 | nil=>exact ⟨0,rfl,by decide,fun _ h=>absurd h Xu⟩
 | cons v r=>
  obtain ⟨h1,h2,h3⟩:=Gq (Gp r) (v.length:Int)
  have e:Ja 0 (Gp (v::r))=(Gp r).foldl (fun x y=>if y>x then y else x) (v.length:Int):=rfl
  rw[e]
  generalize (Gp r).foldl (fun x y=>if y>x then y else x) (v.length:Int)=m at*
  have hm: ∃w∈v::r,m=(w.length:Int):=by
   rcases h3 with q | q
   ·exact ⟨v,Xp,q⟩
   ·obtain ⟨w,hw,e'⟩:=XA.mp q
    exact ⟨w,WN _ hw,e'.symm⟩
  obtain ⟨w,hw,rfl⟩:=hm
  refine ⟨w.length,rfl,h w hw,fun u hu=>?_⟩
  rcases UE.mp hu with q | q
  ·rw[q];omega
  ·have:=h2 _ (XA.mpr ⟨u,q,rfl⟩)
   omega
def nY (y:List Nat) (ws:List (List Nat)) (os:List Od):Prop:= ∃M,(∀w∈ws, ∀v∈ws,w.length+v.length<=M)/\vQ y ws os/\ ∀o∈os,DH y ws M (o.ps.map Pr.pair)
def zO (_:PySem.W.Frag):Sp:=fun vs H Q _=> ∃(y:List Nat) (wt:Addr) (ws:List (List Nat)),vs=[.str (S y), .ref wt]/\Yd y/\y.length<=8/\H wt=some (.tup (gX ws))/\ws.length<=4/\(∀w∈ws,SW y w/\w.length<=12)/\ ∀(dr:Addr) (os:List Od) (H':Hp),xU H' dr ws os->nY y ws os->aq H H'->Q (.ref dr) H'
theorem DI {K:PySem.W.Frag} {vs:List V} {H:Hp} {Q:VK} {E:XK} (h:zO K vs H Q E):vs.length=2:=by obtain ⟨_,_,_,rfl,_⟩:=h;rfl
theorem Gr {H:Hp} {C:Addr} {y:List Nat} {lg i:Nat} {ws:List (List Nat)} {lL:List Wp} {w:List Nat} {p:Wp} (hl:lL.length=i) (h: ∀(c:Nat) (w:List Nat) (p:Wp),ws[c]? =some w->lL[c]? =some p->ue H C y lg w p) (hw:ws[i]? =some w) (hp:ue H C y lg w p): ∀(c:Nat) (w:List Nat) (q:Wp),ws[c]? =some w->(lL++[p])[c]? =some q->ue H C y lg w q:=fun c v q hv hq=>by
 by_cases z:c<lL.length
 ·rw[XT z]at hq
  exact h c v q hv hq
 ·rw[Yf (by omega)]at hq
  have:c=i:=by
   have:=(Iy.mp hq).1
   simp at this
   omega
  subst this
  rw[hl,Nat.sub_self]at hq
  rw[hw]at hv
  cases hv
  cases hq
  exact hp
theorem vZ {y:List Nat} (h:Yd y) {b:Nat} (hb:b∈fK y):b∈aE:=by
 obtain ⟨h1,h2⟩:=XI.mp ((js y).mem_iff.mp hb)
 rw[jn (h.lt b h1)]at h2
 exact of_decide_eq_true h2
theorem DJ {y:List Nat} {ws:List (List Nat)} {L:Nat->Bool} {r:Nat->Nat} {M:Nat} (h:eF y ws L r M) {c i d j x:Nat} (hc:c<ws.length) (hd:d<ws.length) (hi:i<(ws.getD c []).length) (hj:j<(ws.getD d []).length) (dH:(c,i)≠(d,j)) (hx:aB x=true) (e1:rd (ws.getD c []) i=x\/rd (ws.getD c []) i=aA x) (e2:rd (ws.getD d []) j=x\/rd (ws.getD d []) j=aA x):
  bJ (cD y ws L r M c i) (cD y ws L r M d j)=true\/bJ (cD y ws L r M d j) (cD y ws L r M c i)=true:=by
 have hw:=h.sw c hc
 have hv:=h.sw d hd
 have hy:=h.yd
 have lw:=SD.mpr hw.ne
 have lv:=SD.mpr hv.ne
 have xs: ∀{w:List Nat} {k:Nat},SW y w->(rd w k=x\/rd w k=aA x)->Lt x:=fun {w k} hw e=>by
  have h9:97<=x/\x<=122:=by unfold aB at hx;simpa using hx
  refine .inl ?_
  have: ∀k,k<26->k+97∈aE:=by decide
  have h8:=this (x - 97) (by omega)
  rwa [show x - 97+97=x by omega]at h8
 have lx:=xs hw e1
 have xP: ∀{w:List Nat} {k:Nat},SW y w->Dl w k (lK w k)/\((rd w k=x\/rd w k=aA x)->lK w k 0=x)/\(lK w k=if aB (rd w k)=true then sq w k else bq w k):=fun {w k} hw=>by
  refine ⟨?_,fun e=>?_,rfl⟩
  ·unfold lK
   by_cases z:aB (rd w k)=true
   ·rw[if_pos z];exact .inl rfl
   ·rw[if_neg z];exact .inr rfl
  ·unfold lK
   rcases e with e | e
   ·rw[if_pos (by rw[e];exact hx)]
    unfold sq
    rw[ZO];exact e
   ·have z: ¬aB (rd w k)=true:=by rw[e,fI _ lx.mem,hx];decide
    rw[if_neg z]
    unfold bq
    rw[Zm,e,aI lx]
 obtain ⟨df,f0,fe⟩:=xP (k:=i) hw
 obtain ⟨Vp,g0,ge⟩:=xP (k:=j) hv
 have lf:=df.xP hy hw
 have lg:=Vp.xP hy hv
 by_cases par: ∀k,lK (ws.getD c []) i k=lK (ws.getD d []) j k
 ·unfold cD
  rw[show lK (ws.getD c []) i=lK (ws.getD d []) j from funext par,ff,ff]
  by_cases cd:c=d
  ·subst cd
   have ij:i≠j:=fun z=>dH (by rw[z])
   obtain ⟨h1,h2⟩:=h.root hc
   have hr:=h.rp c hc
   -- one and Ej same way
   have low:aB (rd (ws.getD c []) i)=aB (rd (ws.getD c []) j):=by
    by_cases z1:aB (rd (ws.getD c []) i)=true<;>by_cases z2:aB (rd (ws.getD c []) j)=true
    ·rw[z1,z2]
    ·exfalso
     rw[fe,ge,if_pos z1,if_neg z2]at par
     exact tI hy hw _ _ par
    ·exfalso
     rw[fe,ge,if_neg z1,if_pos z2]at par
     exact tI hy hw _ _ fun k=>(par k).symm
    ·rw[show aB (rd (ws.getD c []) i)=false by simpa using z1,show aB (rd (ws.getD c []) j)=false by simpa using z2]
   have ps:bN (ws.getD c []) (ws.getD c []) i j:=by
    by_cases z1:aB (rd (ws.getD c []) i)=true
    ·have z2:aB (rd (ws.getD c []) j)=true:=by rw[<-low];exact z1
     rw[fe,ge,if_pos z1,if_pos z2]at par
     exact par
    ·have z2: ¬aB (rd (ws.getD c []) j)=true:=by rw[<-low];exact z1
     rw[fe,ge,if_neg z1,if_neg z2]at par
     have e:=congrArg jC (funext par)
     rw[<-dZ, <-dZ,mX hy (aY hw _),mX hy (aY hw _)]at e
     exact fun k=>congrFun e k
   have q:=(h.rr c hc _ _).mp ps
   have FT:i%r c=j%r c:=by
    have q2:=Int.emod_eq_emod_iff_emod_sub_eq_zero.mpr q
    have q3:((i%r c:Nat):Int)=((j%r c:Nat):Int):=q2
    omega
   have k1:= @xQ (ws.getD c []).length _ (r c) c i j (L c) (aB (rd (ws.getD c []) j)) hr h1 hi hj FT ij
   have k2:= @xQ (ws.getD c []).length _ (r c) c j i (L c) (aB (rd (ws.getD c []) j)) hr h1 hj hi FT.symm (Ne.symm ij)
   rw[low]
   by_cases z:aB (rd (ws.getD c []) j)=true
   ·rw[if_pos z]at k1 k2
    rw[k1,k2,decide_eq_true_iff,decide_eq_true_iff]
    omega
   ·rw[if_neg z]at k1 k2
    rw[k1,k2,decide_eq_true_iff,decide_eq_true_iff]
    omega
  ·have hl:L d=if aB (rd (ws.getD d []) j)=aB (rd (ws.getD c []) i) then L c else !L c:=by
    by_cases z1:aB (rd (ws.getD c []) i)=true<;>by_cases z2:aB (rd (ws.getD d []) j)=true
    ·rw[z1,z2,if_pos rfl]
     rw[fe,ge,if_pos z1,if_pos z2]at par
     exact (h.l1 c d i j hc hd par).symm
    ·rw[if_neg (fun q=>z2 (q.trans z1))]
     rw[fe,ge,if_pos z1,if_neg z2]at par
     exact h.l2 c d i j hc hd par
    ·rw[if_neg (fun q=>z1 (q.symm.trans z2))]
     rw[fe,ge,if_neg z1,if_pos z2]at par
     have:=h.l2 d c j i hd hc fun k=>(par k).symm
     rw[this,Bool.not_not]
    ·rw[show aB (rd (ws.getD c []) i)=false by simpa using z1,show aB (rd (ws.getD d []) j)=false by simpa using z2,if_pos rfl]
     rw[fe,ge,if_neg z1,if_neg z2]at par
     have e:=congrArg jC (funext par)
     rw[<-dZ, <-dZ,mX hy (aY hw _),mX hy (aY hv _)]at e
     exact (h.l1 c d i j hc hd fun k=>congrFun e k).symm
   have B2:= @tN (ws.getD c []).length (ws.getD d []).length (r c) (r d) c d i j (L c) (aB (rd (ws.getD c []) i)) (aB (rd (ws.getD d []) j)) cd
   have yE:L c=if aB (rd (ws.getD c []) i)=aB (rd (ws.getD d []) j) then L d else !L d:=by
    rw[hl]
    cases aB (rd (ws.getD d []) j)<;>cases aB (rd (ws.getD c []) i)<;>cases L c<;>rfl
   have JA:= @tN (ws.getD d []).length (ws.getD c []).length (r d) (r c) d c j i (L d) (aB (rd (ws.getD d []) j)) (aB (rd (ws.getD c []) i)) (Ne.symm cd)
   rw[<-hl]at B2
   rw[<-yE]at JA
   rw[B2,JA,hl]
   cases aB (rd (ws.getD d []) j)<;>cases aB (rd (ws.getD c []) i)<;>cases L c<;>simp<;>omega
 ·have tP: ∃k,lK (ws.getD c []) i k≠lK (ws.getD d []) j k:=Classical.byContradiction fun z=>par fun k=>Classical.byContradiction fun w=>z ⟨k,w⟩
  have NR: ∀{w:List Nat} {k:Nat} (z:Int),lK w k (z+w.length)=lK w k z:=fun {w k} z=>by
   unfold lK
   split
   ·exact cZ w k z
   ·exact oP w k z
  obtain ⟨a,b,rn,ha,hb⟩:=dq lw lv NR NR ((f0 e1).trans (g0 e2).symm) tP
  have big:=h.big c d hc hd
  unfold cD
  rw[mi hy lf lg rn _ _ M 0 (WO _) (WO _) (by omega) (by omega),mi hy lg lf rn.sy _ _ M 0 (WO _) (WO _) (by omega) (by omega),CN hy lf lg (rn.mh a (by omega) (by omega)) rn.hi,xS hy lf lg (rn.mh _ (by omega) (by omega)) rn.lo]
  by_cases z:a<=b
  ·rw[if_pos z,if_pos z]
   cases gk y (lK (ws.getD c []) i) (lK (ws.getD d []) j) a
   ·exact .inr rfl
   ·exact .inl rfl
  ·rw[if_neg z,if_neg z]
   cases gy y (lK (ws.getD c []) i) (lK (ws.getD d []) j) b
   ·exact .inr rfl
   ·exact .inl rfl
theorem DK {y:List Nat} {ws:List (List Nat)} {os:List Od} (hy:Yd y) (hw: ∀w∈ws,SW y w) (h:nY y ws os): ∃M,eF y ws (DF ws) (DG ws) M/\Df y ws (DF ws) (DG ws) M os:=by
 obtain ⟨M,hM,ok,up⟩:=h
 have hs: ∀c,c<ws.length->SW y (ws.getD c []):=fun c hc=>hw _ (getD_in hc)
 have hC:eF y ws (DF ws) (DG ws) M:=CV hy hs (fun c hc=>uf (hs c hc).ne) fun c d hc hd=>hM _ (getD_in hc) _ (getD_in hd)
 refine ⟨M,hC,ok,fun o ho=>?_⟩
 obtain ⟨j,hj,ej⟩:=Zj ho
 have OZ:j<(fK y).length:=by rw[<-ok.1];exact hj
 have pm:=ok.2 j o (fK y)[j] (by rw[Iw hj,ej]) (Iw OZ)
 have bs:=vZ hy (XF OZ)
 have lb:Lt (fK y)[j]:= .inl bs
 have lo:aB (fK y)[j]=true:=by rw[jn lb];exact decide_eq_true bs
 have nd:(o.ps.map Pr.pair).Nodup:=pm.nodup_iff.mpr (rC _ _ _)
 have u:=up o ho
 unfold DH at u
 refine Y0 (fun {s t} h1 h2 h=>?_) (List.Pairwise.and u nd)
 obtain ⟨w1,e1,i1,o1⟩:=yf (pm.mem_iff.mp h1)
 obtain ⟨w2,e2,i2,o2⟩:=yf (pm.mem_iff.mp h2)
 have c1:=(Iy.mp e1).1
 have c2:=(Iy.mp e2).1
 have g1:ws.getD s.1 []=w1:=by rw[UI,e1];rfl
 have g2:ws.getD t.1 []=w2:=by rw[UI,e2];rfl
 have on: ∀{l:Nat},xW (fK y)[j] l=true->l=(fK y)[j]\/l=aA (fK y)[j]:=fun {l} q=>by unfold xW at q;simpa using q
 have tr:=DJ hC (c:=s.1) (i:=s.2) (d:=t.1) (j:=t.2) c1 c2 (by rw[g1];exact i1) (by rw[g2];exact i2) h.2 lo (by rw[g1];exact on o1) (by rw[g2];exact on o2)
 rcases tr with q | q
 ·exact q
 ·have hf:bJ (cD y ws (DF ws) (DG ws) M t.1 t.2) (cD y ws (DF ws) (DG ws) M s.1 s.2)=false:=h.1
  rw[hf]at q
  cases q
theorem DL {α β:Type} (p:β->β->Bool) (f:α->β): ∀l:List α,cl p (l.map f)=cl (fun a b=>p (f a) (f b)) l
 | []=>rfl
 | a::l=>by
  show ((l.map f).filter (p (f a))).length+cl p (l.map f)=(l.filter fun b=>p (f a) (f b)).length+cl _ l
  rw[DL p f l,List.filter_map,Kw]
  rfl
theorem v7 {α:Type} {p q:α->α->Bool}: ∀{l:List α},l.Pairwise (fun a b=>p a b=q a b)->cl p l=cl q l
 | [],_=>rfl
 | a::l,h=>by
  rw[YB]at h
  show (l.filter (p a)).length+cl p l=(l.filter (q a)).length+cl q l
  rw[v7 h.2,Qac fun b hb=>h.1 b hb]
theorem DM {a b a' b':Nat} (h1:a<b) (h2:a'<b') (h4:a<a') (h5:b≠a') (h6:b≠b'):(jt (a,b) (a',b')||jt (a',b') (a,b))=ni a b a' b':=by
 have g4:=YX h4 h2
 rw[CG (Xy h1) (Xy h4) (Xy g4) h5 h6]
 unfold jt
 rw[decide_eq_true h4,decide_eq_true g4,decide_eq_false (Zl h4),jq (Ne.symm h6)]
 have k:decide (b'<b)=true->decide (a'<b)=true:=fun q=>decide_eq_true (YX h2 (of_decide_eq_true q))
 revert k
 generalize decide (a'<b)=p
 generalize decide (b'<b)=q
 revert p q
 decide
theorem ug {a b a' b':Nat} (h1:a<b) (h2:a'<b') (h3:a≠a') (h4:a≠b') (h5:b≠a') (h6:b≠b'):(jt (a,b) (a',b')||jt (a',b') (a,b))=ni a b a' b':=by
 rcases YK h3 with q | q
 ·exact DM h1 h2 q h5 h6
 ·rw[Bool.or_comm,DM h2 h1 q (Ne.symm h4) (Ne.symm h6),kZ (Xy h2) (Xy h1) (Ne.symm h3) (Ne.symm h5) (Ne.symm h4) (Ne.symm h6)]
theorem Gs {a b a' b':Nat} (h1:a≠b) (h2:a'≠b') (h3:a≠a') (h4:a≠b') (h5:b≠a') (h6:b≠b'):(jt (min a b,max a b) (min a' b',max a' b')||jt (min a' b',max a' b') (min a b,max a b))=ni a b a' b':=by
 rcases YK h1 with q | q<;>rcases YK h2 with r | r
 ·rw[Yg (XU q),YW (XU q),Yg (XU r),YW (XU r)]
  exact ug q r h3 h4 h5 h6
 ·rw[Yg (XU q),YW (XU q),Yi (XU r),YO (XU r),i3]
  exact ug q r h4 h3 h6 h5
 ·rw[Yi (XU q),YO (XU q),Yg (XU r),YW (XU r), <-vK h1 h2 h3 h4 h5 h6]
  exact ug q r h5 h6 h3 h4
 ·rw[Yi (XU q),YO (XU q),Yi (XU r),YO (XU r), <-vK h1 h2 h3 h4 h5 h6,i3]
  exact ug q r h6 h5 h4 h3
section
variable {y:List Nat} {ws:List (List Nat)} {L:Nat->Bool} {r:Nat->Nat} {M:Nat}
noncomputable def kg (ps:List (Nat×Nat×Nat)) (c i e:Nat):Nat:=ps.idxOf (c,i,e)
theorem Gu {n i:Nat} (h:i<n):i6 n ((i:Int) - 1)=wG n i/\i6 n (i:Int)=i:=by
 have h1:=d_ (n:=n) (by omega) ((i:Int) - 1)
 have h2:=d_ (n:=n) (by omega) (i:Int)
 rw[zA h]at h1
 rw[XJ (by omega) (by omega)]at h2
 omega
theorem lC {ps:List (Nat×Nat×Nat)} {c i:Nat} (hi:i<(ws.getD c []).length):(gP ps c (ws.getD c []) i).2.2.1=pI ws (kg ps) c ((i:Int) - 1)/\(gP ps c (ws.getD c []) i).2.2.2=pO ws (kg ps) c i:=by
 obtain ⟨e1,e2⟩:=Gu hi
 have g: ∀k,k<(ws.getD c []).length->(ws.getD c []).getD k 0=rd (ws.getD c []) k:=fun k hk=>by
  rw[UI,me hk];rfl
 have dH:ws.getD c []≠[]:=fun z=>by rw[z]at hi;exact absurd hi (ZQ _)
 unfold gP pI pO kg
 rw[e1,e2,g _ (x3 hi),g _ hi]
 refine ⟨?_,rfl⟩
 have:rd (ws.getD c []) (wG (ws.getD c []).length i:Nat)=rd (ws.getD c []) ((i:Int) - 1):=by rw[<-e1,bW dH]
 rw[this]
theorem ju (ps:List (Nat×Nat×Nat)) (ws:List (List Nat)): ∀n,gn ps ws n=(vG ws n).map fun x=>gP ps x.1 (ws.getD x.1 []) x.2
 | 0=>rfl
 | n+1=>by
  have ih:=ju ps ws n
  unfold gn at ih ⊢
  unfold vG
  rw[Yv,X5,ih,UH,Y8,X4]
  rfl
theorem yh (ws:List (List Nat)) (n:Nat):(vG ws n).Nodup:=(y9 n).imp fun {a b} h z=>by
 rw[z]at h
 unfold Eo at h
 simp at h
theorem lD (h:eF y ws L r M) {ps:List (Nat×Nat×Nat)} (hN:Lies y ws L r M (kg ps)) (l:List (Nat×Nat)) (hl:l.Nodup) (uH: ∀x∈l,x.1<ws.length/\x.2<(ws.getD x.1 []).length):(du (l.map fun x=>gP ps x.1 (ws.getD x.1 []) x.2)).Nodup:=by
 unfold du
 induction l with
 | nil=>exact List.Pairwise.nil
 | cons x t ih=>
  rw[XH]at hl
  rw[Xw,XS,Ye]
  obtain ⟨x1,x2⟩:=uH x Xp
  have ex:=lC (ps:=ps) (ws:=ws) (c:=x.1) x2
  refine ⟨?_,ih hl.2 fun z hz=>uH z (WN _ hz),fun a ha b hb e=>?_⟩
  ·rw[ex.1,ex.2,XH]
   exact ⟨by simpa using (eh h hN x1 x1 x2 x2).1,by simp⟩
  ·obtain ⟨c4,Ri,Bw⟩:=XW.mp hb
   obtain ⟨z,hz,rfl⟩:=XA.mp Ri
   obtain ⟨z1,z2⟩:=uH z (WN _ hz)
   have ez:=lC (ps:=ps) (ws:=ws) (c:=z.1) z2
   have dH:(x.1,x.2)≠(z.1,z.2):=fun q=>hl.1 (by
    have:x=z:=Prod.ext (Prod.mk.inj q).1 (Prod.mk.inj q).2
    rw[this];exact hz)
   have n1:=eh h hN x1 z1 x2 z2
   have n2:=eh h hN z1 x1 z2 x2
   rw[ex.1,ex.2]at ha
   rw[ez.1,ez.2]at Bw
   have KH:a=pI ws (kg ps) x.1 ((x.2:Int) - 1)\/a=pO ws (kg ps) x.1 x.2:=by simpa using ha
   have h_:b=pI ws (kg ps) z.1 ((z.2:Int) - 1)\/b=pO ws (kg ps) z.1 z.2:=by simpa using Bw
   rw[e]at KH
   rcases KH with p | p<;>rcases h_ with q | q<;>rw[p]at q
   ·exact (n1.2 dH).1 q
   ·exact n1.1 q
   ·exact n2.1 q.symm
   ·exact (n1.2 dH).2 q
theorem lE (h:eF y ws L r M) {ps:List (Nat×Nat×Nat)} (hN:Lies y ws L r M (kg ps)) (l:List (Nat×Nat)) (hl:l.Nodup) (uH: ∀x∈l,x.1<ws.length/\x.2<(ws.getD x.1 []).length):cl (fun x z=>jt x z||jt z x) (jN (l.map fun x=>gP ps x.1 (ws.getD x.1 []) x.2))=cl (Hl ws (kg ps)) l:=by
 unfold jN
 rw[X4,DL]
 refine v7 (Y0 (fun {a b} ha hb oO=>?_) hl)
 obtain ⟨a1,a2⟩:=uH a ha
 obtain ⟨b1,b2⟩:=uH b hb
 have ea:=lC (ps:=ps) (ws:=ws) (c:=a.1) a2
 have eb:=lC (ps:=ps) (ws:=ws) (c:=b.1) b2
 have dH:(a.1,a.2)≠(b.1,b.2):=oO
 have n1:=eh h hN a1 b1 a2 b2
 have n2:=eh h hN b1 a1 b2 a2
 have n3:=eh h hN a1 a1 a2 a2
 have n4:=eh h hN b1 b1 b2 b2
 show (jt (min _ _,max _ _) (min _ _,max _ _)||jt (min _ _,max _ _) (min _ _,max _ _))=Hl ws (kg ps) a b
 rw[ea.1,ea.2,eb.1,eb.2,Gs n3.1 n4.1 (n1.2 dH).1 n1.1 (Ne.symm n2.1) (n1.2 dH).2]
 rfl
end
noncomputable def kr (w:List Nat):Int:=((w.length / KR w:Nat):Int)
theorem o5 {w v:List Nat} (hw:w≠[]) (hv:v≠[]) (e: ∀d:Int,bN w w d 0↔bN v v d 0):KR w=KR v:=AZ hw hv (uf hw) (uf hv) e
theorem o6 {w:List Nat} {n:Nat} (hn:n<=w.length):(dJ w n).length=w.length:=by
 unfold dJ
 rw[UD,Xx,Xm,Yg hn,Nat.sub_add_cancel hn]
theorem JN {w v:List Nat} (h:w≠[]) (e:v.length=w.length):v≠[]:=fun z=>h (X7.mp (by rw[<-e,z];rfl))
theorem JO {w:List Nat} (hw:w≠[]) {n:Nat} (hn:n<=w.length):kr (dJ w n)=kr w:=by
 unfold kr
 rw[o6 hn,o5 (JN hw (o6 hn)) hw (FX hw hn)]
theorem JP {y w:List Nat} (hy:Yd y) (hw:SW y w):kr (dA w)=kr w:=by
 unfold kr
 rw[bV,o5 (ml hw.ne) hw.ne (FZ hy hw)]
theorem JQ {y z w:List Nat} {σ:Nat->Nat} {neg:Bool} (T:p9 y z σ neg) (hw:SW y w):kr (w.map σ)=kr w:=by
 unfold kr
 rw[Kw,o5 (T.sw hw).ne hw.ne (FY T hw)]
noncomputable def jE (y w:List Nat):Int:=SS y w w+2*(kr w - 1)
noncomputable def A9 (y:List Nat) (ws:List (List Nat)):Int:=sm ws.length (fun c=>jE y (ws.getD c.toNat []))+2*uG ws.length (fun c d=>SS y (ws.getD c.toNat []) (ws.getD d.toNat []))
theorem JR (h:Int->Int) (n:Nat):2*sm n h=sm n fun i=>2*h i:=by
 rw[show (fun i=>2*h i)=fun i=>h i+h i from funext fun i=>Int.two_mul _,oQ,Int.two_mul]
theorem JS {y:List Nat} {ws:List (List Nat)} {M:Nat} {N:Nat->Nat->Nat->Nat} (h:eF y ws (DF ws) (DG ws) M) (hN:Lies y ws (DF ws) (DG ws) M N):2*(cl (Hl ws N) (places ws):Int)=A9 y ws:=by
 unfold places A9
 rw[CQ,Int.mul_add,JR]
 congr 1
 ·refine aH fun c hc=>?_
  rw[UG]
  have a:=CM h hN hc
  rw[CY h.yd (h.sw c hc) (h.sw c hc)]at a
  rw[show uG (ws.getD c []).length (fun i j=>one (Hl ws N (c,i.toNat) (c,j.toNat)=true))=uG (ws.getD c []).length (fun i j=>one (iG (pO ws N c) (pI ws N c) (pO ws N c) (pI ws N c) i j=true)) from mj fun i j _ _=>by
   unfold Hl
   rw[UG,UG],a]
  rfl
 ·congr 1
  refine mj fun c d m4 hd=>?_
  rw[UG,UG, <-CY h.yd (h.sw c (YX m4 hd)) (h.sw d hd), <-rj h hN (c:=c) (d:=d) (YX m4 hd) hd (Xy m4)]
  exact br fun i j _ _=>by
   unfold Hl
   rw[UG,UG]
theorem A_ {y:List Nat} {ws:List (List Nat)} {os:List Od} (hy:Yd y) (hw: ∀w∈ws,SW y w) (h:nY y ws os):(du (fW y ws os)).Nodup/\2*(cl (fun x z=>jt x z||jt z x) (jN (fW y ws os)):Int)=A9 y ws:=by
 obtain ⟨M,hC,hT⟩:=DK hy hw h
 have hN:Lies y ws (DF ws) (DG ws) M (kg (ko y os)):=lies_of hy hC.sw hT
 have uH: ∀x∈places ws,x.1<ws.length/\x.2<(ws.getD x.1 []).length:=fun x hx=>nP.mp hx
 unfold fW
 rw[ju]
 refine ⟨lD hC hN _ (yh ws _) uH,?_⟩
 rw[lE hC hN _ (yh ws _) uH]
 exact JS hC hN
theorem DN (y w:List Nat):A9 y [w]=jE y w:=by
 show (0+jE y w)+2*(0+0)=_
 omega
theorem v8 (y w v:List Nat):A9 y [w,v]=jE y w+jE y v+2*SS y w v:=by
 show (0+jE y w+jE y v)+2*((0+0)+(0+SS y w v))=_
 omega
theorem Gv {y w v:List Nat} {os:List Od} (hy:Yd y) (hw:SW y w) (hv:SW y v) (h:nY y [w,v] os):
  (cl (fun x z=>jt x z||jt z x) (jN (fW y [w,v] os)):Int) - cl (fun x z=>jt x z||jt z x) (jN ((fW y [w,v] os).take w.length)) - cl (fun x z=>jt x z||jt z x) (jN ((fW y [w,v] os).drop w.length))=SS y w v/\(du (fW y [w,v] os)).Nodup/\(du ((fW y [w,v] os).take w.length)).Nodup/\(du ((fW y [w,v] os).drop w.length)).Nodup:=by
 have Rj: ∀u∈[w,v],SW y u:=fun u hu=>by
  rcases UE.mp hu with e | e
  ·rw[e];exact hw
  ·rw[Sz.mp e];exact hv
 obtain ⟨M,hC,hT⟩:=DK hy Rj h
 have hN:Lies y [w,v] (DF [w,v]) (DG [w,v]) M (kg (ko y os)):=lies_of hy hC.sw hT
 have uH: ∀x∈places [w,v],x.1<[w,v].length/\x.2<([w,v].getD x.1 []).length:=fun x hx=>nP.mp hx
 have Rk:(places [w,v]).Nodup:=yh [w,v] 2
 have ep:places [w,v]=(List.range w.length).map (fun i=>(0,i))++(List.range v.length).map (fun i=>(1,i)):=rfl
 have ec:fW y [w,v] os=(places [w,v]).map fun x=>gP (ko y os) x.1 ([w,v].getD x.1 []) x.2:=ju _ _ _
 have t1:(fW y [w,v] os).take w.length=((List.range w.length).map (fun i=>(0,i))).map fun x=>gP (ko y os) x.1 ([w,v].getD x.1 []) x.2:=by
  rw[ec,ep,UH,List.take_append_of_le_length (by simp),Xz (by simp)]
 have t2:(fW y [w,v] os).drop w.length=((List.range v.length).map (fun i=>(1,i))).map fun x=>gP (ko y os) x.1 ([w,v].getD x.1 []) x.2:=by
  rw[ec,ep,UH,List.drop_append_of_le_length (by simp),Yu (by simp),List.nil_append]
 have NZ:=Rk
 have JT:=uH
 rw[ep]at JT
 rw[ep,Ye]at NZ
 have i1:=fun x hx=>JT x (Yr _ hx)
 have i2:=fun x hx=>JT x (XC _ hx)
 rw[t1,t2]
 refine ⟨?_,by rw[ec];exact lD hC hN _ Rk uH,lD hC hN _ NZ.1 i1,lD hC hN _ NZ.2.1 i2⟩
 rw[ec,lE hC hN _ Rk uH,lE hC hN _ NZ.1 i1,lE hC hN _ NZ.2.1 i2,ep,tV]
 have e1:(((List.range w.length).map fun i=>((0:Nat),i)).map fun x=>((((List.range v.length).map fun i=>((1:Nat),i)).filter (Hl [w,v] (kg (ko y os)) x)).length:Int)).sum=SS y w v:=by
  rw[<-CY hy hw hv,X4]
  refine Eq.trans ?_ (rj hC hN (c:=0) (d:=1) (Nat.zero_lt_succ _) (Yz 1) (by decide))
  refine (jr (fun i=>((((List.range v.length).map fun i=>((1:Nat),i)).filter (Hl [w,v] (kg (ko y os)) (0,i))).length:Int)) w.length).trans (aH fun i _=>?_)
  rw[UG]
  refine (zw _ 1 v.length).trans (aH fun j _=>?_)
  rw[UG]
  rfl
 rw[e1]
 omega
theorem KJ.ok {y:List Nat} {ws:List (List Nat)} (h:KJ y ws):NV y ws:=⟨h.wD,fun w hw=>⟨(h.sw w hw).1.bE,(h.sw w hw).2⟩⟩
theorem rK {y:List Nat} {ws:List (List Nat)} {os:List Od} (h:KJ y ws):(fW y ws os).length<=24:=by
 unfold fW
 rw[ju,Kw]
 exact h.all
theorem Gw {y w:List Nat} (h:SW y w) (hz:w.length<=12):KJ y [w]:=⟨fun v hv=>by rw[Sz.mp hv];exact ⟨h,hz⟩,by show 1<=4;decide,by
 have:=tD (ws:=[w]) (m:=12) (fun v hv=>by rw[Sz.mp hv];exact hz) 1 (OS _)
 unfold places
 show (vG [w] 1).length<=24
 omega⟩
def v9 (_:PySem.W.Frag):Sp:=fun vs H Q _=> ∃(y:List Nat) (wt:Addr) (ws:List (List Nat)),vs=[.str (S y), .ref wt]/\Yd y/\y.length<=8/\KJ y ws/\H wt=some (.tup (gX ws))/\ ∀(n:Nat) H',aq H H'->2*(n:Int)=A9 y ws->Q (.int n) H'
theorem Ba {K:PySem.W.Frag} {vs:List V} {H:Hp} {Q:VK} {E:XK} (h:v9 K vs H Q E):vs.length=2:=by obtain ⟨_,_,_,rfl,_⟩:=h;rfl
def DO (_:PySem.W.Frag):Sp:=fun vs H Q _=> ∃(y w:List Nat),vs=[.str (S y), .str (S w)]/\Yd y/\y.length<=8/\SW y w/\w.length<=12/\ ∀(n:Nat) H',aq H H'->2*(n:Int)=jE y w->Q (.int n) H'
theorem len_own {K:PySem.W.Frag} {vs:List V} {H:Hp} {Q:VK} {E:XK} (h:DO K vs H Q E):vs.length=2:=by obtain ⟨_,_,rfl,_⟩:=h;rfl
def o7 (_:PySem.W.Frag):Sp:=fun vs H Q _=> ∃(y w v:List Nat),vs=[.str (S y), .str (S w), .str (S v)]/\Yd y/\y.length<=8/\SW y w/\w.length<=12/\SW y v/\v.length<=12/\ ∀H',aq H H'->Q (.int (SS y w v)) H'
theorem v_ {K:PySem.W.Frag} {vs:List V} {H:Hp} {Q:VK} {E:XK} (h:o7 K vs H Q E):vs.length=3:=by obtain ⟨_,_,_,rfl,_⟩:=h;rfl
structure Lk (y w u:List Nat):Prop where
 sw:SW y u
 len:u.length=w.length
 kr:kr u=My.kr w
 ss: ∀v,SW y v->SS y u v=SS y w v
theorem Lk.own {y w u:List Nat} (hy:Yd y) (hw:SW y w) (h:Lk y w u):jE y u=jE y w:=by
 unfold jE
 rw[h.kr,h.ss u h.sw,tY hy hw h.sw,h.ss w hw]
theorem Lk.two {y w u z t:List Nat} (hy:Yd y) (hw:SW y w) (hz:SW y z) (h:Lk y w u) (g:Lk y z t):SS y u t=SS y w z:=by rw[h.ss t g.sw,tY hy hw g.sw,g.ss w hw,tY hy hz hw]
theorem N0 {y w:List Nat} (hy:Yd y) (hw:SW y w) {k:Nat} (hk:k<=w.length):Lk y w (dJ w k)/\Lk y w (dA (dJ w k)):=by
 have h1:SW y (dJ w k):=hw.dJ hk
 have a:Lk y w (dJ w k):=⟨h1,o6 hk,JO hw.ne hk,fun v hv=>Jt hw.ne hk⟩
 exact ⟨a,h1.dA hy,by rw[bV,a.len],by rw[JP hy h1,a.kr],fun v hv=>by rw[Ju hy h1 hv,a.ss v hv]⟩
theorem p9.own {y z w:List Nat} {σ:Nat->Nat} {neg:Bool} (T:p9 y z σ neg) (hw:SW y w):jE z (w.map σ)=jE y w:=by
 unfold jE
 rw[T.same hw hw,JQ T hw]
theorem Gx {y:List Nat} (hy:Yd y) (k:Nat):p9 y (y.drop k++y.take k) id false:=by
 have e:y.take k++y.drop k=y:=X3 k y
 have hz:Yd (y.drop k++y.take k):=hy.perm ((List.Perm.of_eq e.symm).trans ZW)
 refine ⟨hy,hz,fun a ha=>?_,fun a _ b _ q=>q,fun a _=>rfl,fun a ha b hb c hc ab ac bc=>?_⟩
 ·rw[<-e]at ha
  exact (Xn.mp ha).elim (fun g=>XC _ g) fun g=>Yr _ g
 ·have g:=Jw (a:=y.take k) (b:=y.drop k) (x:=a) (y:=b) (z:=c) (by rw[e];exact hy.nd) (by rw[e];exact ha) (by rw[e];exact hb) (by rw[e];exact hc) ab ac bc
  rw[e]at g
  show My.gr _ a b c=_
  rw[g]
  cases My.gr y a b c<;>rfl
theorem Gy {y:List Nat} (hy:Yd y):p9 y y.reverse id true:=by
 refine ⟨hy,hy.perm (Zq y).symm,fun a ha=>YA.mpr ha,fun a _ b _ q=>q,fun a _=>rfl,fun a ha b hb c hc ab ac bc=>?_⟩
 show My.gr _ a b c=_
 rw[F_ hy.nd ha hc hb ac ab (Ne.symm bc),Cw hy.nd ha hb hc ab ac bc]
 cases My.gr y a b c<;>rfl
theorem idx_map {f:Nat->Nat}: ∀{y:List Nat} {a:Nat},(∀b∈y,f b=f a->b=a)->a∈y->(y.map f).idxOf (f a)=y.idxOf a
 | [],a,_,h=>absurd h Xu
 | b::y,a,h,ha=>by
  rw[Xw,ZT,ZT]
  by_cases z:b=a
  ·rw[z,beq_self_eq_true,beq_self_eq_true]
   rfl
  ·have z2:f b≠f a:=fun q=>z (h b Xp q)
   rw[beq_eq_false_iff_ne.mpr z,beq_eq_false_iff_ne.mpr z2]
   show _+1=_+1
   rw[idx_map (fun c hc=>h c (WN _ hc)) ((UE.mp ha).elim (fun q=>absurd q.symm z) id)]
theorem DP {y:List Nat} {f:Nat->Nat} (hy:Yd y) (inj: ∀a∈y, ∀b∈y,f a=f b->a=b) (Hq: ∀a∈y,f (aA a)=aA (f a)) (lt: ∀a∈y,Lt (f a)):p9 y (y.map f) f false:=by
 have ix: ∀a∈y,(y.map f).idxOf (f a)=y.idxOf a:=fun a ha=>idx_map (fun b hb q=>inj b hb a ha q) ha
 refine ⟨hy,⟨?_,fun c hc=>?_,fun c hc=>?_⟩,fun a ha=>XA.mpr ⟨a,ha,rfl⟩,inj,Hq,fun a ha b hb c hc _ _ _=>?_⟩
 ·exact Yc.mpr (Y0 (fun {a b} ha hb q z=>q (inj a ha b hb z)) hy.nd)
 ·obtain ⟨a,ha,rfl⟩:=XA.mp hc
  exact lt a ha
 ·obtain ⟨a,ha,rfl⟩:=XA.mp hc
  exact XA.mpr ⟨_,hy.cl a ha,Hq a ha⟩
 ·unfold My.gr
  rw[ix a ha,ix b hb,ix c hc,Kw]
  simp
theorem wa {y z:List Nat} (hy:Yd y) (hz:Yd z) (e:z.filter (fun c=>decide (c∈y))=y):p9 y z id false:=by
 have:=Jv (y:=z) (p:=fun c=>decide (c∈y)) hz (by rw[e];exact hy)
 rw[e]at this
 exact this
def o8 (_:PySem.W.Frag):Sp:=fun vs H Q _=> ∃(w:List Nat),vs=[.str (S w)]/\(∀c∈w,Lt c)/\w.length<=1000/\ ∀H',aq H H'->Q (.str (S (dA w))) H'
theorem wb {K:PySem.W.Frag} {vs:List V} {H:Hp} {Q:VK} {E:XK} (h:o8 K vs H Q E):vs.length=1:=by obtain ⟨_,rfl,_⟩:=h;rfl
def rL (_:PySem.W.Frag):Sp:=fun vs H Q _=> ∃(b:Addr) (y w:List Nat),vs=[.ref b, .str (S w)]/\bY H b/\Yd y/\SW y w/\w.length<=12/\ ∀(u:List Nat) H',Lk y w u->bY H' b->aT b H H'->Q (.str (S u)) H'
theorem yi {K:PySem.W.Frag} {vs:List V} {H:Hp} {Q:VK} {E:XK} (h:rL K vs H Q E):vs.length=2:=by obtain ⟨_,_,_,rfl,_⟩:=h;rfl
def o9 (_:PySem.W.Frag):Sp:=fun vs H Q _=> ∃(b wt:Addr) (y w v:List Nat),vs=[.ref b, .str (S y), .ref wt]/\bY H b/\Yd y/\y.length<=8/\wt≠b/\H wt=some (.tup (gX [w,v]))/\(∀c∈w,c∈y)/\(∀c∈v,c∈y)/\w.length<=100/\v.length<=100/\ ∀(q:Addr) (f:Nat->Nat) H',p9 y (y.map f) f false->H' q=some (.lst (gX [y.map f,w.map f,v.map f]))->aT b H H'->Q (.ref q) H'
theorem wc {K:PySem.W.Frag} {vs:List V} {H:Hp} {Q:VK} {E:XK} (h:o9 K vs H Q E):vs.length=3:=by obtain ⟨_,_,_,_,_,rfl,_⟩:=h;rfl
def rM (_:PySem.W.Frag):Sp:=fun vs H Q _=> ∃(b:Addr) (y:List Nat),vs=[.ref b, .str (S y)]/\bY H b/\Yd y/\y.length<=8/\ ∀(z:List Nat) H',p9 y z id false->z.length<=8->bY H' b->aT b H H'->Q (.str (S z)) H'
theorem yj {K:PySem.W.Frag} {vs:List V} {H:Hp} {Q:VK} {E:XK} (h:rM K vs H Q E):vs.length=2:=by obtain ⟨_,_,rfl,_⟩:=h;rfl
structure DQ (y w v:List Nat) (a b c d:Int):Prop where
 all:a=b+c+d
 two:SS y w v=b
 one:jE y w=2*c
 Cg:jE y v=2*d
def wd (_:PySem.W.Frag):Sp:=fun vs H Q _=> ∃(p:Addr) (y w v:List Nat) (a b c d:Int),vs=[.str (S y), .str (S w), .str (S v), .ref p]/\Yd y/\y.length<=8/\SW y w/\w.length<=12/\SW y v/\v.length<=12/\H p=some (.lst [.int a, .int b, .int c, .int d])/\DQ y w v a b c d/\ ∀H',aq H H'->Q (.bl true) H'
theorem Bb {K:PySem.W.Frag} {vs:List V} {H:Hp} {Q:VK} {E:XK} (h:wd K vs H Q E):vs.length=4:=by obtain ⟨_,_,_,_,_,_,_,_,rfl,_⟩:=h;rfl
def rN (_:PySem.W.Frag):Sp:=fun vs H Q _=> ∃(b:Addr) (y w v:List Nat),vs=[.ref b, .str (S y), .str (S w), .str (S v)]/\bY H b/\Yd y/\2<=y.length/\y.length<=8/\SW y w/\w.length<=8/\SW y v/\v.length<=8/\ ∀H',aT b H H'->Q (.bl true) H'
theorem yk {K:PySem.W.Frag} {vs:List V} {H:Hp} {Q:VK} {E:XK} (h:rN K vs H Q E):vs.length=4:=by obtain ⟨_,_,_,_,rfl,_⟩:=h;rfl
def rO (_:PySem.W.Frag):Sp:=fun vs H Q _=> ∃(b:Addr) (y:List Nat) (many top:Nat),vs=[.ref b, .str (S y), .int many, .int top]/\bY H b/\Yd y/\2<=y.length/\y.length<=8/\1<=many/\many<=4/\1<=top/\top<=12/\ ∀(t:Addr) (ws:List (List Nat)) (H':Hp),H t=none->t≠b->H' t=some (.tup (gX ws))->1<=ws.length->ws.length<=many->(∀w∈ws,SW y w/\w.length<=top)->bY H' b->aT b H H'->Q (.ref t) H'
theorem yl {K:PySem.W.Frag} {vs:List V} {H:Hp} {Q:VK} {E:XK} (h:rO K vs H Q E):vs.length=4:=by obtain ⟨_,_,_,_,rfl,_⟩:=h;rfl
theorem DQ.lk {y w v u t:List Nat} {a b c d:Int} (hy:Yd y) (hw:SW y w) (hv:SW y v) (h:DQ y w v a b c d) (g:Lk y w u) (k:Lk y v t):DQ y u t a b c d:=⟨h.all,by rw[g.two hy hw hv k];exact h.two,by rw[g.own hy hw];exact h.one,by rw[k.own hy hv];exact h.Cg⟩
theorem DQ.S_ {y z w v:List Nat} {σ:Nat->Nat} {neg:Bool} {a b c d:Int} (T:p9 y z σ neg) (hw:SW y w) (hv:SW y v) (h:DQ y w v a b c d):DQ z (w.map σ) (v.map σ) a b c d:=⟨h.all,by rw[T.same hw hv];exact h.two,by rw[T.own hw];exact h.one,by rw[T.own hv];exact h.Cg⟩
theorem DQ.tid {y z w v:List Nat} {neg:Bool} {a b c d:Int} (T:p9 y z id neg) (hw:SW y w) (hv:SW y v) (h:DQ y w v a b c d):DQ z w v a b c d/\SW z w/\SW z v:=by
 have g:=h.S_ T hw hv
 have k1:=T.sw hw
 have k2:=T.sw hv
 rw[Zr]at g k1 k2
 rw[Zr]at g
 exact ⟨g,k1,k2⟩
theorem BS {a b:List Nat} (h:S a=S b):a=b:=by rw[<-dR a,h,dR]
noncomputable def tk (e:Nat):Key:=Sum.inr (S [e])
theorem JU {a b:Nat} (h:tk a=tk b):a=b:=by
 have:=BS (Sum.inr.inj h)
 simpa using this
noncomputable def kvsOf (f:Nat->Nat) (P:List Nat):List (Key×V):=P.map fun e=>(tk e,V.str (S [f e]))
theorem lF (f:Nat->Nat): ∀(P:List Nat) (e:Nat),cW (kvsOf f P) (tk e)=if e∈P then some (.str (S [f e])) else none
 | [],e=>rfl
 | a::P,e=>by
  show cW ((tk a,V.str (S [f a]))::kvsOf f P) (tk e)=_
  by_cases z:a=e
  ·rw[cx (by rw[z]),if_pos (by rw[z];exact Xp),z]
  ·rw[cg (fun q=>z (JU q)),lF f P e]
   by_cases y:e∈P
   ·rw[if_pos y,if_pos (WN _ y)]
   ·rw[if_neg y,if_neg (fun q=>(UE.mp q).elim (fun q=>z q.symm) y)]
theorem Bc {f g:Nat->Nat} {P:List Nat} (h: ∀e∈P,f e=g e):kvsOf f P=kvsOf g P:=YH fun e he=>by rw[h e he]
theorem zP (f:Nat->Nat) (P:List Nat):(kvsOf f P).length=P.length:=Kw _
structure iq (y z:List Nat) (i:Nat) (f:Nat->Nat) (P:List Nat):Prop where
 nd:P.Nodup
 sub: ∀e∈P,e∈y
 cl: ∀e∈P,aA e∈P
 Rl: ∀e∈y.take i,e∈P
 inj: ∀a∈P, ∀b∈P,f a=f b->a=b
 aA: ∀a∈P,f (aA a)=aA (f a)
 iz: ∀a∈P,f a∈z
theorem iq.start (y z:List Nat):iq y z 0 id []:=⟨Y6,fun _ h=>absurd h Xu,fun _ h=>absurd h Xu,fun _ h=>absurd h (by simp),fun _ h=>absurd h Xu,fun _ h=>absurd h Xu,fun _ h=>absurd h Xu⟩
theorem iq.skip {y z P:List Nat} {i e:Nat} {f:Nat->Nat} (w:iq y z i f P) (he:y[i]? =some e) (hp:e∈P):iq y z (i+1) f P:=
 ⟨w.nd,w.sub,w.cl,fun d hd=>by
  rw[<-take_snoc he]at hd
  rcases Xn.mp hd with q | q
  ·exact w.Rl d q
  ·rw[Sz.mp q];exact hp,w.inj,w.aA,w.iz⟩
theorem iq.wD {y z P:List Nat} {i e:Nat} {f:Nat->Nat} (w:iq y z i f P) (he:e∈y) (hp:e∉P):P.length+1<=y.length:=by
 have:(e::P).Nodup:=XH.mpr ⟨hp,w.nd⟩
 exact this.length_le_of_subset fun c hc=>(UE.mp hc).elim (fun q=>q▸he) (w.sub c)
noncomputable def fL (f:Nat->Nat) (e c:Nat):Nat->Nat:=fun x=>if x=e then c else if x=My.aA e then My.aA c else f x
theorem iq.turn {y z P:List Nat} {i e c:Nat} {f:Nat->Nat} (w:iq y z i f P) (hy:Yd y) (hz:Yd z) (he:y[i]? =some e) (hp:e∉P) (hc:c∈z) (KS:c∉P.map f):iq y z (i+1) (fL f e c) (P++[e,My.aA e])/\(∀x∈P,fL f e c x=f x)/\My.aA e∉P:=by
 have t6:=WQ he
 have hle:=hy.lt e t6
 have KU:=hz.lt c hc
 have oF:My.aA e∉P:=fun q=>hp (by have:=w.cl _ q;rwa [aI hle]at this)
 have old: ∀x∈P,fL f e c x=f x:=fun x hx=>by
  unfold fL
  rw[if_neg (fun q:x=e=>hp (q▸hx)),if_neg (fun q:x=My.aA e=>oF (q▸hx))]
 have fe:fL f e c e=c:=if_pos rfl
 have fc:fL f e c (My.aA e)=My.aA c:=by unfold fL;rw[if_neg (dX hle),if_pos rfl]
 have Rm:My.aA c∉P.map f:=fun q=>by
  obtain ⟨a,ha,ea⟩:=XA.mp q
  exact KS (XA.mpr ⟨My.aA a,w.cl a ha,by rw[w.aA a ha,ea,aI KU]⟩)
 have two: ∀x,x∈P++[e,My.aA e]↔x∈P\/x=e\/x=My.aA e:=fun x=>by simp
 refine ⟨⟨?_,fun x hx=>?_,fun x hx=>?_,fun d hd=>?_,fun a ha b hb q=>?_,fun a ha=>?_,fun a ha=>?_⟩,old,oF⟩
 ·rw[Ye]
  refine ⟨w.nd,XH.mpr ⟨fun q=>dX hle (Sz.mp q).symm,XH.mpr ⟨Xu,Y6⟩⟩,fun a ha b hb q=>?_⟩
  subst q
  rcases UE.mp hb with g | g
  ·exact hp (g▸ha)
  ·exact oF (Sz.mp g▸ha)
 ·rcases (two x).mp hx with g | g | g
  ·exact w.sub x g
  ·rw[g];exact t6
  ·rw[g];exact hy.cl e t6
 ·rw[two]
  rcases (two x).mp hx with g | g | g
  ·exact .inl (w.cl x g)
  ·rw[g];exact .inr (.inr rfl)
  ·rw[g,aI hle];exact .inr (.inl rfl)
 ·rw[two]
  rw[<-take_snoc he]at hd
  rcases Xn.mp hd with g | g
  ·exact .inl (w.Rl d g)
  ·exact .inr (.inl (Sz.mp g))
 ·have nc:c≠My.aA c:=fun g=>dX KU g.symm
  have Ta: ∀x∈P,f x≠c:=fun x hx g=>KS (XA.mpr ⟨x,hx,g⟩)
  have Tc: ∀x∈P,f x≠My.aA c:=fun x hx g=>Rm (XA.mpr ⟨x,hx,g⟩)
  rcases (two a).mp ha with g | g | g<;>rcases (two b).mp hb with k | k | k
  ·rw[old a g,old b k]at q;exact w.inj a g b k q
  ·rw[old a g,k,fe]at q;exact absurd q (Ta a g)
  ·rw[old a g,k,fc]at q;exact absurd q (Tc a g)
  ·rw[g,fe,old b k]at q;exact absurd q.symm (Ta b k)
  ·rw[g,k]
  ·rw[g,k,fe,fc]at q;exact absurd q nc
  ·rw[g,fc,old b k]at q;exact absurd q.symm (Tc b k)
  ·rw[g,k,fe,fc]at q;exact absurd q.symm nc
  ·rw[g,k]
 ·rcases (two a).mp ha with g | g | g
  ·rw[old a g,old _ (w.cl a g)];exact w.aA a g
  ·rw[g,fe,fc]
  ·rw[g,aI hle,fe,fc,aI KU]
 ·rcases (two a).mp ha with g | g | g
  ·rw[old a g];exact w.iz a g
  ·rw[g,fe];exact hc
  ·rw[g,fc];exact hz.cl c hc
structure ir (y:List Nat) (i:Nat) (f:Nat->Nat) (P L:List Nat):Prop where
 cw:iq y (aE++iD) i f P
 nd:L.Nodup
 sm: ∀c∈L,c∈aE/\c∉P.map f/\aA c∉P.map f
 many:26<=L.length+i
theorem uh:Yd (aE++iD):=⟨by decide+kernel,by intro c hc;exact (Xn.mp hc).elim .inl .inr,by decide+kernel⟩
theorem ir.start (y:List Nat):ir y 0 id [] aE:=⟨iq.start _ _,l_,fun c hc=>⟨hc,by simp,by simp⟩,by decide⟩
theorem ir.skip {y P L:List Nat} {i e:Nat} {f:Nat->Nat} (w:ir y i f P L) (he:y[i]? =some e) (hp:e∈P):ir y (i+1) f P L:=⟨w.cw.skip he hp,w.nd,w.sm,Zp w.many⟩
theorem DR {L:List Nat} {r:Nat} (hr:r<L.length) (nd:L.Nodup) {d:Nat} (hd:d∈L.eraseIdx r):d∈L/\d≠L[r]:=by
 refine ⟨List.mem_of_mem_eraseIdx hd,fun q=>?_⟩
 rw[<-List.erase_eq_eraseIdx_of_idxOf (nd.idxOf_getElem r hr)]at hd
 exact absurd q ((nd.mem_erase_iff.mp hd).1)
theorem ir.turn {y P L:List Nat} {i e c r:Nat} {f:Nat->Nat} (w:ir y i f P L) (hy:Yd y) (he:y[i]? =some e) (hp:e∉P) (hr:r<L.length) (hc:c=L[r]\/c=My.aA L[r]):ir y (i+1) (fL f e c) (P++[e,My.aA e]) (L.eraseIdx r)/\(∀x∈P,fL f e c x=f x)/\My.aA e∉P/\Lt c:=by
 obtain ⟨s1,s2,s3⟩:=w.sm _ (XF hr)
 have l0:Lt L[r]:= .inl s1
 have O5:c∈aE++iD:=by
  rcases hc with g | g
  ·rw[g];exact Yr _ s1
  ·rw[g];exact uh.cl _ (Yr _ s1)
 have KS:c∉P.map f:=by rcases hc with g | g<;>rw[g]<;>assumption
 obtain ⟨k1,k2,k3⟩:=w.cw.turn hy uh he hp O5 KS
 have t6:=WQ he
 have hle:=hy.lt e t6
 have fe:fL f e c e=c:=if_pos rfl
 have fc:fL f e c (My.aA e)=My.aA c:=by unfold fL;rw[if_neg (dX hle),if_pos rfl]
 have pm:(P++[e,My.aA e]).map (fL f e c)=P.map f++[c,My.aA c]:=by
  rw[UH,YH k2]
  show _++[fL f e c e,fL f e c (My.aA e)]=_
  rw[fe,fc]
 have two: ∀x,x∈[c,My.aA c]↔x=L[r]\/x=My.aA L[r]:=fun x=>by
  rcases hc with g | g
  ·rw[g];simp
  ·rw[g,aI l0];simp[or_comm]
 have sc: ∀{a:Nat},a∈aE->My.aA a∉aE:=fun {a} ha q=>by
  have: ∀a∈aE,My.aA a∉aE:=by decide+kernel
  exact this a ha q
 refine ⟨⟨k1,w.nd.sublist (List.eraseIdx_sublist L r),fun d hd=>?_,?_⟩,k2,k3,uh.lt c O5⟩
 ·obtain ⟨d1,d2⟩:=DR hr w.nd hd
  obtain ⟨t1,t2,t3⟩:=w.sm d d1
  rw[pm]
  refine ⟨t1,fun q=>?_,fun q=>?_⟩
  ·rcases Xn.mp q with g | g
   ·exact t2 g
   ·rcases (two d).mp g with k | k
    ·exact d2 k
    ·rw[k]at t1;exact sc s1 t1
  ·rcases Xn.mp q with g | g
   ·exact t3 g
   ·rcases (two _).mp g with k | k
    ·exact sc t1 (by rw[k];exact s1)
    ·exact d2 (dY (.inl t1) l0 k)
 ·rw[List.length_eraseIdx_of_lt hr]
  have:=w.many
  omega
theorem ir.done {y P L:List Nat} {f:Nat->Nat} (w:ir y y.length f P L) (hy:Yd y):p9 y (y.map f) f false/\ ∀e∈y,e∈P:=by
 have all: ∀e∈y,e∈P:=fun e he=>w.cw.Rl e (by rw[Yq];exact he)
 exact ⟨DP hy (fun a ha b hb=>w.cw.inj a (all a ha) b (all b hb)) (fun a ha=>w.cw.aA a (all a ha)) fun a ha=>uh.lt _ (w.cw.iz a (all a ha)),all⟩
local macro_rules | `(tactic| walk_at "rd") => `(tactic| repeat (first
 | refine ⟨_,rfl,?_⟩
 | refine ⟨_,_,rfl,rfl,?_⟩
 | refine ⟨rfl,?_⟩
 | refine And.intro (by first | decide | omega | assumption | exact ZU rfl | exact .inl ⟨by decide,by decide⟩ | exact .inr ⟨by decide,by decide⟩ | exact ⟨by decide,by decide⟩ | exact ⟨by omega,by omega⟩) ?_))
local macro_rules | `(tactic| walk_at "wk") => `(tactic| repeat (first
 | refine ⟨_,rfl,?_⟩
 | refine ⟨_,_,rfl,rfl,?_⟩
 | refine ⟨_,_,_,rfl,rfl,by first | assumption | omega,by assumption,?_⟩
 | refine ⟨rfl,?_⟩
 | refine And.intro (by first | decide | omega | assumption | exact ZU rfl | exact .inl ⟨by decide,by decide⟩ | exact .inr ⟨by decide,by decide⟩ | exact ⟨by decide,by decide⟩ | exact ⟨by omega,by omega⟩) ?_))
local macro_rules | `(tactic| walk_at "bd") => `(tactic| first | assumption | exact Vq _ | exact WU (by walk_at "bd") (by walk_at "bd"))
noncomputable def top (i:Nat):Stmt:=PySem.Challenge.pw_mustmeet_k29_whole_told_otherwise.main.body.getD i (.Pass ⟨0,0,0,0⟩)
noncomputable abbrev kh:Stmt:=top 1
noncomputable abbrev o_:Stmt:=top 2
noncomputable abbrev ui:Stmt:=top 4
noncomputable abbrev gA:Stmt:=top 5
noncomputable abbrev g8:Stmt:=top 7
noncomputable abbrev ph:Stmt:=top 8
noncomputable abbrev fA:Stmt:=top 9
noncomputable abbrev mD:Stmt:=top 10
noncomputable abbrev fZ:Stmt:=top 11
noncomputable abbrev je:Stmt:=top 12
noncomputable abbrev eR:Stmt:=top 13
noncomputable abbrev g9:Stmt:=top 15
noncomputable abbrev gB:Stmt:=top 17
noncomputable abbrev jf:Stmt:=top 19
noncomputable abbrev ki:Stmt:=top 20
noncomputable abbrev ym:Stmt:=top 21
noncomputable abbrev yn:Stmt:=top 22
noncomputable abbrev f_:Stmt:=top 24
noncomputable abbrev gC:Stmt:=top 27
noncomputable abbrev g_:Stmt:=top 28
noncomputable abbrev mE:Stmt:=top 29
noncomputable abbrev mF:Stmt:=top 30
noncomputable abbrev gD:Stmt:=top 31
noncomputable abbrev gc:Stmt:=top 32
noncomputable abbrev gE:Stmt:=top 33
noncomputable abbrev hJ:Stmt:=top 34
noncomputable abbrev yo:Stmt:=top 35
noncomputable abbrev uj:Stmt:=top 37
noncomputable abbrev DS:Stmt:=top 38
noncomputable abbrev mG:Stmt:=top 39
noncomputable abbrev yp:Stmt:=top 41
noncomputable abbrev uk:Stmt:=top 42
noncomputable abbrev pj:Stmt:=top 43
noncomputable abbrev um:Stmt:=top 44
noncomputable abbrev pq:Stmt:=top 45
noncomputable abbrev uo:Stmt:=top 46
noncomputable abbrev pA:Stmt:=top 47
noncomputable abbrev mH:Stmt:=top 48
noncomputable abbrev pB:Stmt:=top 49
noncomputable abbrev mI:Stmt:=top 50
noncomputable abbrev pE:Stmt:=top 51
noncomputable abbrev uq:Stmt:=top 52
noncomputable abbrev pH:Stmt:=top 53
noncomputable abbrev DT:Stmt:=top 54
structure bu (K:PySem.W.Frag) (mg:Str->Option Value) (x:Str) (st:Stmt) (ps:List Str) (f:Addr) (fd:FuncData):Prop where
 fn:E1 K x x st f fd
 mg:mg x=some (.ref f)
 bd:Binds K fd ps []
noncomputable abbrev jv:Stmt:=SN (top 25) 0
noncomputable abbrev gS:Stmt:=SN (top 26) 0
structure Txt (K:PySem.W.Frag) (mg:Str->Option Value) (f0 f1 f2 f3 f4 f5 f6 f7 f8 f9 KW KY KZ K0 K1 K2 K3 K4 DU DV K5 K6 K7 K8 K9 K_ La Lc Ld Le Lf Lg Lh Li Lj Ll Lm Ln Lo Lp Lq Lr Ls Lu aO aW jQ gF:Addr) (d0 d1 d2 d3 d4 d5 d6 d7 d8 d9 Lv Lw Ly Lz LA LB LC LD LF LG LH LI LJ LK LL LM LN LO LP LQ LR LS LU LV LW LX LY LZ L1 L3 L4 L5 L6 L7 we pJ:FuncData):Prop where
 F0:bu K mg "contrary" kh ["letter"] f0 d0
 F1:bu K mg "turned" o_ ["word"] f1 d1
 F2:bu K mg "bands" ui ["yard"] f2 d2
 F3:bu K mg "steps_round" gA ["yard","start","end"] f3 d3
 F4:bu K mg "strands_at" g8 ["yard","drawing","end"] f4 d4
 F5:bu K mg "points" ph ["yard","drawing"] f5 d5
 F6:bu K mg "corner_points" fA ["word","cord","place"] f6 d6
 F7:bu K mg "corners" mD ["yard","drawing"] f7 d7
 F8:bu K mg "chord_starts" fZ ["some"] f8 d8
 F9:bu K mg "number_in" je ["rising","point"] f9 d9
 Bd:bu K mg "count_meetings" eR ["some"] KW Lv
 O6:bu K mg "strands_in" g9 ["words","band"] KY Lw
 O7:bu K mg "corner_ends" gB ["word","place"] KZ Ly
 O8:bu K mg "shortened" jf ["word"] K0 Lz
 O9:bu K mg "shortest" ki ["word"] K1 LA
 Ex:bu K mg "ring" ym ["word"] K2 LB
 O_:bu K mg "root" yn ["word"] K3 LC
 Pa:bu K mg "corner_steps" f_ ["yard","word","place"] K4 LD
 wI:bu K mg "steps_ahead" gC ["seen","start","end"] DU LF
 wJ:bu K mg "steps_back" g_ ["seen","start","end"] DV LG
 JV:bu K mg "parting" mE ["steps","one","other","enough"] K5 LH
 JW:bu K mg "side_of" mF ["seen"] K6 LI
 Pb:bu K mg "comes_ahead" gD ["one","other"] K7 LJ
 Pc:bu K mg "number_among" gc ["order","seen"] K8 LK
 Pd:bu K mg "seen_strand" gE ["words","ways","strand"] K9 LL
 Pe:bu K mg "taut_order" hJ ["words","ways","band"] K_ LM
 JX:bu K mg "taut" yo ["yard","words"] La LN
 Ey:bu K mg "least" uj ["yard","words"] Lc LO
 Be:bu K mg "own" DS ["yard","word"] Ld LP
 Ez:bu K mg "between" mG ["yard","one","other"] Le LQ
 Ph:bu K mg "_law_box" yp ["_law_script","_law_k"] Lf LR
 eE:bu K mg "_law_take" uk ["_law_box_here","_law_many"] Lg LS
 jw:bu K mg "_law_other" pj ["_law_letter"] Lh LU
 Pj:bu K mg "_law_yard" um ["_law_box_here","_law_few","_law_top"] Li LV
 EA:bu K mg "_law_short" pq ["_law_box_here","_law_yard_here","_law_top"] Lj LW
 Pk:bu K mg "_law_near" uo ["_law_box_here","_law_yard_here","_law_word","_law_top"] Ll LX
 Pl:bu K mg "_law_words" pA ["_law_box_here","_law_yard_here","_law_many","_law_top"] Lm LY
 Pm:bu K mg "_law_turned" mH ["_law_word"] Ln LZ
 JY:bu K mg "_law_begun" pB ["_law_box_here","_law_word"] Lo L1
 Pn:bu K mg "_law_called" mI ["_law_box_here","_law_yard_here","_law_words_here"] Lp L3
 Po:bu K mg "_law_wider" pE ["_law_box_here","_law_yard_here"] Lq L4
 wK:bu K mg "_law_same" uq ["_law_yard_here","_law_one","_law_other_here","_law_numbers"] Lr L5
 Pp:bu K mg "_law_right" pH ["_law_box_here","_law_yard_here","_law_one","_law_other_here"] Ls L6
 Vr:bu K mg "law" DT ["_law_script"] Lu L7
 DW:mg "Seen"=some (.ref aO)
 dB:G4 K aO
 n_Seen_strand:dQ K aO "strand"
 n_Seen_way:dQ K aO "way"
 n_Seen_place:dQ K aO "place"
 Hv:mg "Way"=some (.ref aW)
 gq:G4 K aW
 n_Way_size:dQ K aW "size"
 n_Way_root_size:dQ K aW "root_size"
 n_Way_leads:dQ K aW "leads"
 n_Way_onward:dQ K aW "onward"
 n_Way_backward:dQ K aW "backward"
 Hw:Mk K aW jQ
 N1:E1 K "__init__" "Way.__init__" jv jQ we
 Hx:Binds K we ["self","yard","word","longest"] []
 DX:Mk K aO gF
 JZ:E1 K "__init__" "Seen.__init__" gS gF pJ
 DY:Binds K pJ ["self","strand","way","place"] []
 z_enumerate:mg "enumerate"=none
 z_int:mg "int"=none
 z_len:mg "len"=none
 z_list:mg "list"=none
 z_max:mg "max"=none
 z_min:mg "min"=none
 z_range:mg "range"=none
 z_reversed:mg "reversed"=none
 z_sorted:mg "sorted"=none
 z_str:mg "str"=none
 z_sum:mg "sum"=none
 z_tuple:mg "tuple"=none
theorem wg:aF ["letter"] ["letter"] (ar kh):=⟨rfl,rfl,rfl,by decide+kernel,rfl,by decide+kernel,by decide+kernel⟩
theorem Bf:aF ["word"] ["word"] (ar o_):=⟨rfl,rfl,rfl,by decide+kernel,rfl,by decide+kernel,by decide+kernel⟩
theorem DZ:aF ["yard"] ["yard"] (ar ui):=⟨rfl,rfl,rfl,by decide+kernel,rfl,by decide+kernel,by decide+kernel⟩
theorem pK:aF ["yard","start","end"] ["yard","start","end"] (ar gA):=⟨rfl,rfl,rfl,by decide+kernel,rfl,by decide+kernel,by decide+kernel⟩
theorem jR:aF ["yard","drawing","end","order"] ["yard","drawing","end"] (ar g8):=⟨rfl,rfl,rfl,by decide+kernel,rfl,by decide+kernel,by decide+kernel⟩
theorem jx:aF ["yard","drawing","told","end","strand"] ["yard","drawing"] (ar ph):=⟨rfl,rfl,rfl,by decide+kernel,rfl,by decide+kernel,by decide+kernel⟩
theorem gT:aF ["word","cord","place","ahead"] ["word","cord","place"] (ar fA):=⟨rfl,rfl,rfl,by decide+kernel,rfl,by decide+kernel,by decide+kernel⟩
theorem cG:aF ["yard","drawing","numbers","number","point","told","cord","word","place","pair"] ["yard","drawing"] (ar mD):=⟨rfl,rfl,rfl,by decide+kernel,rfl,by decide+kernel,by decide+kernel⟩
theorem dv:aF ["some","starts","corner","first"] ["some"] (ar fZ):=⟨rfl,rfl,rfl,by decide+kernel,rfl,by decide+kernel,by decide+kernel⟩
theorem de:aF ["rising","point","low","high","middle"] ["rising","point"] (ar je):=⟨rfl,rfl,rfl,by decide+kernel,rfl,by decide+kernel,by decide+kernel⟩
theorem bH:aF ["some","starts","begun","many","point","number"] ["some"] (ar eR):=⟨rfl,rfl,rfl,by decide+kernel,rfl,by decide+kernel,by decide+kernel⟩
theorem cL:aF ["words","band","found","cord","word","place","letter"] ["words","band"] (ar g9):=⟨rfl,rfl,rfl,by decide+kernel,rfl,by decide+kernel,by decide+kernel⟩
theorem pL:aF ["word","place"] ["word","place"] (ar gB):=⟨rfl,rfl,rfl,by decide+kernel,rfl,by decide+kernel,by decide+kernel⟩
theorem hU:aF ["word","kept","letter"] ["word"] (ar jf):=⟨rfl,rfl,rfl,by decide+kernel,rfl,by decide+kernel,by decide+kernel⟩
theorem dI:aF ["word","left","start","end"] ["word"] (ar ki):=⟨rfl,rfl,rfl,by decide+kernel,rfl,by decide+kernel,by decide+kernel⟩
theorem jy:aF ["word","whole","least","start","begun"] ["word"] (ar ym):=⟨rfl,rfl,rfl,by decide+kernel,rfl,by decide+kernel,by decide+kernel⟩
theorem nZ:aF ["word","whole","size","times"] ["word"] (ar yn):=⟨rfl,rfl,rfl,by decide+kernel,rfl,by decide+kernel,by decide+kernel⟩
theorem iu:aF ["yard","word","place","ends"] ["yard","word","place"] (ar f_):=⟨rfl,rfl,rfl,by decide+kernel,rfl,by decide+kernel,by decide+kernel⟩
theorem jg:aF ["seen","start","end","first"] ["seen","start","end"] (ar gC):=⟨rfl,rfl,rfl,by decide+kernel,rfl,by decide+kernel,by decide+kernel⟩
theorem jS:aF ["seen","start","end","first"] ["seen","start","end"] (ar g_):=⟨rfl,rfl,rfl,by decide+kernel,rfl,by decide+kernel,by decide+kernel⟩
theorem dD:aF ["steps","one","other","enough","many","size"] ["steps","one","other","enough"] (ar mE):=⟨rfl,rfl,rfl,by decide+kernel,rfl,by decide+kernel,by decide+kernel⟩
theorem kj:aF ["seen","way","cord"] ["seen"] (ar mF):=⟨rfl,rfl,rfl,by decide+kernel,rfl,by decide+kernel,by decide+kernel⟩
theorem eB:aF ["one","other","enough","ahead","back"] ["one","other"] (ar gD):=⟨rfl,rfl,rfl,by decide+kernel,rfl,by decide+kernel,by decide+kernel⟩
theorem b6:aF ["order","seen","low","high","middle"] ["order","seen"] (ar gc):=⟨rfl,rfl,rfl,by decide+kernel,rfl,by decide+kernel,by decide+kernel⟩
theorem gf:aF ["words","ways","strand","word","place"] ["words","ways","strand"] (ar gE):=⟨rfl,rfl,rfl,by decide+kernel,rfl,by decide+kernel,by decide+kernel⟩
theorem eW:aF ["words","ways","band","order","strand","seen"] ["words","ways","band"] (ar hJ):=⟨rfl,rfl,rfl,by decide+kernel,rfl,by decide+kernel,by decide+kernel⟩
theorem ur:aF ["yard","words","longest","ways"] ["yard","words"] (ar yo):=⟨rfl,rfl,rfl,by decide+kernel,rfl,by decide+kernel,by decide+kernel⟩
theorem D0:aF ["yard","words"] ["yard","words"] (ar uj):=⟨rfl,rfl,rfl,by decide+kernel,rfl,by decide+kernel,by decide+kernel⟩
theorem J0:aF ["yard","word"] ["yard","word"] (ar DS):=⟨rfl,rfl,rfl,by decide+kernel,rfl,by decide+kernel,by decide+kernel⟩
theorem hV:aF ["yard","one","other","every","ones","others"] ["yard","one","other"] (ar mG):=⟨rfl,rfl,rfl,by decide+kernel,rfl,by decide+kernel,by decide+kernel⟩
theorem lG:aF ["_law_script","_law_k","_law_cell","_law_seed"] ["_law_script","_law_k"] (ar yp):=⟨rfl,rfl,rfl,by decide+kernel,rfl,by decide+kernel,by decide+kernel⟩
theorem pM:aF ["_law_box_here","_law_many","_law_digit","_law_one"] ["_law_box_here","_law_many"] (ar uk):=⟨rfl,rfl,rfl,by decide+kernel,rfl,by decide+kernel,by decide+kernel⟩
theorem mJ:aF ["_law_letter","_law_small","_law_capital"] ["_law_letter"] (ar pj):=⟨rfl,rfl,rfl,by decide+kernel,rfl,by decide+kernel,by decide+kernel⟩
theorem fg:aF ["_law_box_here","_law_few","_law_top","_law_left","_law_ends","_law_k","_law_letter","_law_found"] ["_law_box_here","_law_few","_law_top"] (ar um):=⟨rfl,rfl,rfl,by decide+kernel,rfl,by decide+kernel,by decide+kernel⟩
theorem cM:aF ["_law_box_here","_law_yard_here","_law_top","_law_many","_law_form","_law_word","_law_letter"] ["_law_box_here","_law_yard_here","_law_top"] (ar pq):=⟨rfl,rfl,rfl,by decide+kernel,rfl,by decide+kernel,by decide+kernel⟩
theorem jh:aF ["_law_box_here","_law_yard_here","_law_word","_law_top","_law_form","_law_at","_law_letter","_law_some"] ["_law_box_here","_law_yard_here","_law_word","_law_top"] (ar uo):=⟨rfl,rfl,rfl,by decide+kernel,rfl,by decide+kernel,by decide+kernel⟩
theorem jz:aF ["_law_box_here","_law_yard_here","_law_many","_law_top","_law_found","_law_k","_law_one"] ["_law_box_here","_law_yard_here","_law_many","_law_top"] (ar pA):=⟨rfl,rfl,rfl,by decide+kernel,rfl,by decide+kernel,by decide+kernel⟩
theorem yq:aF ["_law_word"] ["_law_word"] (ar mH):=⟨rfl,rfl,rfl,by decide+kernel,rfl,by decide+kernel,by decide+kernel⟩
theorem mK:aF ["_law_box_here","_law_word","_law_at"] ["_law_box_here","_law_word"] (ar pB):=⟨rfl,rfl,rfl,by decide+kernel,rfl,by decide+kernel,by decide+kernel⟩
theorem dE:aF ["_law_box_here","_law_yard_here","_law_words_here","_law_left","_law_names","_law_letter","_law_name","_law_some"] ["_law_box_here","_law_yard_here","_law_words_here"] (ar mI):=⟨rfl,rfl,rfl,by decide+kernel,rfl,by decide+kernel,by decide+kernel⟩
theorem fN:aF ["_law_box_here","_law_yard_here","_law_left","_law_letter","_law_end","_law_at"] ["_law_box_here","_law_yard_here"] (ar pE):=⟨rfl,rfl,rfl,by decide+kernel,rfl,by decide+kernel,by decide+kernel⟩
theorem D1:aF ["_law_yard_here","_law_one","_law_other_here","_law_numbers"] ["_law_yard_here","_law_one","_law_other_here","_law_numbers"] (ar uq):=⟨rfl,rfl,rfl,by decide+kernel,rfl,by decide+kernel,by decide+kernel⟩
theorem gU:aF ["_law_box_here","_law_yard_here","_law_one","_law_other_here","_law_numbers","_law_at","_law_around","_law_called_here"] ["_law_box_here","_law_yard_here","_law_one","_law_other_here"] (ar pH):=⟨rfl,rfl,rfl,by decide+kernel,rfl,by decide+kernel,by decide+kernel⟩
theorem pN:aF ["_law_script","_law_k","_law_box_here","_law_yard_here","_law_words_here"] ["_law_script"] (ar DT):=⟨rfl,rfl,rfl,by decide+kernel,rfl,by decide+kernel,by decide+kernel⟩
theorem pQ:aF ["self","yard","word","longest","steps","rounds"] ["self","yard","word","longest"] (ar jv):=⟨rfl,rfl,rfl,by decide+kernel,rfl,by decide+kernel,by decide+kernel⟩
theorem Bg:aF ["self","strand","way","place"] ["self","strand","way","place"] (ar gS):=⟨rfl,rfl,rfl,by decide+kernel,rfl,by decide+kernel,by decide+kernel⟩
section
variable {P:Program} {w:World} {K:PySem.W.Frag} {mg:Str->Option Value} {base:Heap} {f0 f1 f2 f3 f4 f5 f6 f7 f8 f9 KW KY KZ K0 K1 K2 K3 K4 DU DV K5 K6 K7 K8 K9 K_ La Lc Ld Le Lf Lg Lh Li Lj Ll Lm Ln Lo Lp Lq Lr Ls Lu aO aW jQ gF:Addr} {d0 d1 d2 d3 d4 d5 d6 d7 d8 d9 Lv Lw Ly Lz LA LB LC LD LF LG LH LI LJ LK LL LM LN LO LP LQ LR LS LU LV LW LX LY LZ L1 L3 L4 L5 L6 L7 we pJ:FuncData}
variable (T:Txt K mg f0 f1 f2 f3 f4 f5 f6 f7 f8 f9 KW KY KZ K0 K1 K2 K3 K4 DU DV K5 K6 K7 K8 K9 K_ La Lc Ld Le Lf Lg Lh Li Lj Ll Lm Ln Lo Lp Lq Lr Ls Lu aO aW jQ gF d0 d1 d2 d3 d4 d5 d6 d7 d8 d9 Lv Lw Ly Lz LA LB LC LD LF LG LH LI LJ LK LL LM LN LO LP LQ LR LS LU LV LW LX LY LZ L1 L3 L4 L5 L6 L7 we pJ)
include T
theorem Bh:bI P w K mg base fj 1 gF pJ ["self","strand","way","place"] (rF K aO):=by
 refine T.JZ.ok Bg (fun vs H Q E h=>x6 h) (fun cJ A outer s H vs Q E hr h=>?_)
 refine ⟨_,(ag (iK (pv 0) (pv 1) rfl)
   (ag (iK (pv 0) (pv 2) rfl)
   (ai (iK (pv 0) (pv 3) rfl)))),?_⟩
 obtain ⟨x,dx,t,w',p,rfl,hx,q⟩:=h
 refine ⟨_,rfl,_,rfl,x,aO,dx,_,rfl,hx,T.dB,T.n_Seen_strand,by show 0<1000;decide,?_⟩
 refine ⟨_,rfl,_,rfl,x,aO,dx,_,rfl,ah,T.dB,T.n_Seen_way,XN (da _ _ _) (by show 0+1<1000;decide),?_⟩
 refine ⟨_,rfl,_,rfl,x,aO,dx,_,rfl,ah,T.dB,T.n_Seen_place,XN (da _ _ _) (XN (Yp (da _ _ _)) (by show 0+1+1<1000;decide)),?_⟩
 exact q _ ah fun b o e z=>by rw[au z,au z,au z];exact e
theorem pR:bI P w K mg base fj 3 K9 LL ["words","ways","strand"] (jc K aW aO):=by
 have wj:=Bh (P:=P) (w:=w) (base:=base) T
 refine T.Pd.fn.ok gf (fun vs H Q E h=>nz h) (fun cJ A outer s H vs Q E hr h=>?_)
 refine ⟨_,(ag (ao (i:=3) gf.nd rfl (Or.inl rfl) (aR (bD K rfl) (pv 0) (aR (bD K rfl) (pv 2) aj (fun _ _=>rfl)) (fun _ _=>rfl)))
   (ag (ao (i:=4) gf.nd rfl (Or.inl rfl) (aR (bD K rfl) (pv 2) aj (fun _ _=>rfl)))
   (ag (bO (fP (eU K rfl Xt Zw Zv jY (aR iB (pv 3) (pv 4) (fun _ _=>rfl)))) (ai (aG (nI T.DX wj (hr.mono (by decide)) rfl T.DW T.DY .nil az (aa (pv 2) (aa (aR (bD K rfl) (aR (aZ K rfl) (pv 1) (aR (bD K rfl) (pv 2) aj (fun _ _=>rfl)) (fun _ _=>rfl)) aj (fun _ _=>rfl)) (aa (pv 4) ae)))))) bj)
   (ai (aG (nI T.DX wj (hr.mono (by decide)) rfl T.DW T.DY .nil az (aa (pv 2) (aa (aR (bD K rfl) (aR (aZ K rfl) (pv 1) (aR (bD K rfl) (pv 2) aj (fun _ _=>rfl)) (fun _ _=>rfl)) aj (fun _ _=>rfl)) (aa (aD dh (aD dh (aC aQ rfl T.z_len Xl (aa (pv 3) ae)) aj) (pv 4)) ae))))))))),?_⟩
 obtain ⟨y,lg,wt,vt,st,w',ws,lL,p,c,i,rfl,hy,rP,Pq,mN,hw,hp,ok,hi,q⟩:=h
 have hs:(100000:Nat)<sizeLine:=by decide
 have lM:=ok.on.uz
 have Td:=ok.on.lz
 have M6:=ok.on.sw
 have h8:(rd w' i)<128:=(hy.lt _ (M6.rd _)).lt
 have hc:(gX ws)[c]? =some (V.str (S w')):=by
  have hl:=(Iy.mp hw).1
  rw[iT hl,(Iy.mp hw).2]
 refine ⟨_,rfl,_,rfl,st,_,0,_,rfl,rfl,cS.of mN,rfl,wt,_,_,_,rfl,rfl,cS.of rP,b9 hc,?_⟩
 refine ⟨_,rfl,st,_,1,_,rfl,rfl,cS.of mN,rfl,?_⟩
 refine ⟨_,rfl,_,rfl,w',_,_,rfl,rfl,by omega,by rw[kT (by omega) (by omega)],?_⟩
 have made: ∀(x dx:Addr) (H':Hp) (t w2:Addr) (pl:Nat),H x=none->H dx=none->dx≠x->aT x (L2.upd (L2.upd H dx (.own x)) x (.ins aO dx [])) H'->aq H H':=fun x dx H' t w2 pl nx JM ne sm a o e=>by
  refine sm a o ?_ (ay e nx)
  rw[au (ay e nx),au (ay e JM)]
  exact e
 refine ⟨rfl,_,rfl,rfl,h8,?_⟩
 walk_at "rd"
 refine b5 (fun z=>?_) (fun z=>?_)
 ·refine ⟨_,rfl,_,rfl,_,rfl,st,_,0,_,rfl,rfl,cS.of mN,rfl,vt,_,_,_,rfl,rfl,bC.of Pq,b9 (DC hp),p.t,_,0,_,rfl,rfl,cS.of ok.tp,rfl,_,rfl,fun x dx nx JM ne=>⟨x,dx,st,p.a,i,rfl,ah,fun H' hx sm=>⟨rfl,?_⟩⟩⟩
  have J1:=made x dx H' st p.a i nx JM ne sm
  exact q ⟨x,st,p.a,c,i,w',i,p.r⟩ H' ⟨rfl,rfl,by rw[if_pos z],by rw[if_pos z]⟩ rfl ⟨⟨dx,hx⟩,J1 _ _ mN,ok.on.same J1,hi⟩ nx J1
 ·have ei:(w'.length:Int) - 1 - i=((w'.length - 1 - i:Nat):Int):=by omega
  refine ⟨_,rfl,_,rfl,_,rfl,st,_,0,_,rfl,rfl,cS.of mN,rfl,vt,_,_,_,rfl,rfl,bC.of Pq,b9 (DC hp),p.t,_,1,_,rfl,rfl,cS.of ok.tp,rfl,_,rfl,w',rfl,by omega,_,_,rfl,rfl,_,rfl,_,_,rfl,rfl,fun x dx nx JM ne=>⟨x,dx,st,p.b,w'.length - 1 - i,by rw[<-ei];rfl,ah,fun H' hx sm=>⟨rfl,?_⟩⟩⟩
  have J1:=made x dx H' st p.b 0 nx JM ne sm
  exact q ⟨x,st,p.b,c,i,dA w',w'.length - 1 - i,p.q⟩ H' ⟨rfl,rfl,by rw[if_neg z],by rw[if_neg z]⟩ rfl ⟨⟨dx,hx⟩,J1 _ _ mN,ok.bk.same J1,by show w'.length - 1 - i<(dA w').length;rw[bV];omega⟩ nx J1
theorem fh:bI P w K mg base fj 1 f0 d0 ["letter"] (mT K):=by
 refine T.F0.fn.ok wg (fun vs H Q E h=>sV h) (fun cJ A outer s H vs Q E hr h=>?_)
 refine ⟨_,(ag (bO (fP (eU K rfl Xt Zw Zv jY (pv 0))) (ai (aG (eU K rfl Xt PySem.F.slot_str_upper PySem.F.type_str_upper BU (pv 0)))) bj)
   (ai (aG (eU K rfl Xt ZG ZE ou (pv 0))))),?_⟩
 obtain ⟨c,rfl,hc,q⟩:=h
 refine ⟨_,rfl,rfl,c,rfl,rfl,hc,_,rfl,b5 (fun e=>?_) (fun e=>?_)⟩
 ·refine ⟨_,rfl,rfl,c,rfl,rfl,hc,?_⟩
  have z:aA c=PyProof.Rows.up1 c:=if_pos e
  rw[<-z]
  exact q
 ·refine ⟨_,rfl,rfl,c,rfl,rfl,hc,?_⟩
  have z:aA c=PyProof.Rows.lo1 c:=if_neg e
  rw[<-z]
  exact q
theorem mL:bI P w K mg base fj 2 f6 d6 ["word","cord","place"] (gQ K):=by
 have cH:=fh (P:=P) (w:=w) (base:=base) T
 refine T.F6.fn.ok gT (fun vs H Q E h=>lh h) (fun cJ A outer s H vs Q E hr h=>?_)
 refine ⟨_,(ag (ao (i:=3) gT.nd rfl (Or.inl rfl) (aD fk (aD dh (pv 2) aj) (aC aQ rfl T.z_len Xl (aa (pv 0) ae))))
   (ai (aG (cB (aa (cB (aa (pv 1) (aa (pv 3) (aa (ak cH (hr.mono (by decide)) rfl T.F0.mg T.F0.fn.kp T.F0.bd .nil az (aa (aR iB (pv 0) (pv 3) (fun _ _=>rfl)) ae)) ae)))) (aa (cB (aa (pv 1) (aa (pv 2) (aa (aR iB (pv 0) (pv 2) (fun _ _=>rfl)) ae)))) ae)))))),?_⟩
 obtain ⟨w,c,i,rfl,Rn,hi,hz,q⟩:=h
 have hs:(100000:Nat)<sizeLine:=by decide
 have hp:(0:Int)<(w.length:Int):=by omega
 have Vs:=zA hi
 have km:=x3 hi
 have e1:w.getD (wG w.length i) 0=w[wG w.length i]:=by rw[UI,Iw km];rfl
 have e2:w.getD i 0=w[i]:=by rw[UI,Iw hi];rfl
 rw[e1,e2]at q
 refine ⟨_,rfl,_,_,rfl,rfl,_,rfl,w,rfl,by omega,_,_,rfl,rfl,hp,?_⟩
 show uN 3 (V.int (((i:Int) - 1)%(w.length:Int))) _ _ _
 rw[Vs]
 refine ⟨_,rfl,_,rfl,_,rfl,_,rfl,w,_,_,rfl,rfl,by omega,b9 (Iw km),_,rfl,Rn _ (XF km),by show 3<=sizeLine;decide,fun t1 n1=>?_⟩
 refine ⟨_,rfl,_,rfl,_,rfl,_,rfl,w,_,_,rfl,rfl,by omega,b9 (Iw hi),by show 3<=sizeLine;decide,fun t2 n2=>?_⟩
 refine ⟨by show 2<=sizeLine;decide,fun t nt=>?_⟩
 have Ro:=(aq.upd (o:= .tup [.ref t1, .ref t2]) nt)
 refine q t t1 t2 _ ah (Ro _ _ ((aq.upd n2) _ _ ah)) (Ro _ _ ah) ((aq.upd n1).trans ((aq.upd n2).trans Ro))
theorem uu:bI P w K mg base fj 2 K0 Lz ["word"] (kQ K):=by
 have cH:=fh (P:=P) (w:=w) (base:=base) T
 refine T.O8.fn.ok hU (fun vs H Q E h=>ql h) (fun cJ A outer s H vs Q E hr h=>?_)
 refine ⟨_,(ag (ao (i:=1) hU.nd rfl (Or.inl rfl) (cT ae))
   (ag (cN PassesOwn.never rfl (jZ (pv 0)) (aV (i:=2) hU.nd rfl (Or.inl rfl)) (ai (bO (PW.pt (jV (Fe K rfl (pv 1)) (jj (aL iQ (aR (aZ K rfl) (pv 1) (jF gw aj) (fun _ _=>rfl)) (ak cH (hr.mono (by decide)) rfl T.F0.mg T.F0.fn.kp T.F0.bd .nil az (aa (pv 2) ae)) (aU _))))) (ai (dM (eU K rfl XG YR YQ Iq (pv 1)))) (ai (dM (bU K rfl XG Yn Ym eJ (pv 1) (aa (pv 2) ae)))))))
   (ai (aG (bU K rfl Xt X2 Yk (fT K rfl) (iM [] (by decide+kernel)) (aa (pv 1) ae)))))),?_⟩
 obtain ⟨l,rfl,hl,hz,q⟩:=h
 have hs:(100000:Nat)<sizeLine:=by decide
 walk_at "rd"
 intro p1 n1
 refine ⟨_,rfl,l,rfl,?_⟩
 refine sF (xs:=cn l) (fun i σ H'=> ∃lv,σ=[some (.str (S l)),some (.ref p1),lv]/\H' p1=some (.lst (cn (red (l.take i))))/\aT p1 H H') ⟨none,rfl,ah,aT.of (aq.upd n1)⟩ ?_ ?_
 ·rintro i x σ H1 hx ⟨lv,rfl,hp,s1⟩
  obtain ⟨c,hc,rfl⟩:=eT hx
  have hi:i<l.length:=(Iy.mp hc).1
  have h8:c<128:=(hl c (WQ hc)).lt
  have Te:(red (l.take i)).length<=1000:=XM (kO _) (by rw[Xm];omega)
  have fin: ∀st,st=fD (red (l.take i)) c-> ∃lv,[some (V.str (S l)),some (V.ref p1),some (V.str (S [c]))]=[some (V.str (S l)),some (.ref p1),lv]/\(upd H1 p1 (.lst (cn st))) p1=some (.lst (cn (red (l.take (i+1)))))/\aT p1 H (upd H1 p1 (.lst (cn st))):=fun st e=>
   ⟨_,rfl,by rw[ah,Cp hc,e],fun b o e z=>by rw[au z];exact s1 b o e z⟩
  refine ⟨_,rfl,p1,_,rfl,bC.of hp,?_⟩
  rcases snoc_cases (red (l.take i)) with e | ⟨m,a,e⟩
  ·rw[e]at hp ⊢
   refine qk rfl ?_
   refine xf ?_
   refine ⟨_,rfl, .inl ⟨rfl,_,bC.of hp⟩,_,rfl,p1,_,_,rfl,rfl,hp,by rw[aN];exact (by decide:(0:Nat)<sizeLine),?_⟩
   rw[cX]
   refine fin _ ?_
   rw[e]
   unfold fD
   rw[if_neg (by simp)]
  ·rw[e]at hp Te ⊢
   have WV:m.length<=1000:=by simp at Te;omega
   rw[<-cX]at hp ⊢
   refine Rb (by simp) ?_
   refine ⟨_,rfl,_,rfl,p1,_,_,_,rfl,rfl,bC.of hp,uU _ _,_,rfl,c,rfl,h8,[a],[aA c],rfl,rfl,_,rfl,b5 (fun z=>?_) (fun z=>?_)⟩
   ·have ea:a=aA c:=by simpa using of_decide_eq_true z
    refine ⟨_,rfl, .inl ⟨rfl,_,bC.of hp⟩,p1,_,V.str (S [a]),rfl,rfl,hp,by simp,?_⟩
    rw[ZZ]
    refine fin _ ?_
    rw[e]
    unfold fD
    rw[if_pos (by simp[ea]),ZZ]
   ·have ea:a≠aA c:=fun w=>z (decide_eq_true (by rw[w]))
    refine ⟨_,rfl, .inl ⟨rfl,_,bC.of hp⟩,_,rfl,p1,_,_,rfl,rfl,hp,by rw[UD,aN];show m.length+1<sizeLine;omega,?_⟩
    rw[cX,cX]
    refine fin _ ?_
    rw[e]
    unfold fD
    rw[if_neg (by simpa using ea)]
 ·rintro σ H1 ⟨lv,rfl,hp,s1⟩
  rw[oJ]at hp
  refine ⟨rfl,_,rfl,p1,(red l).map fun c=>[c],rfl,rfl,bC.of (by rw[<-eM];exact hp),?_,?_⟩
  ·rw[vz]
   have:=kO l
   omega
  ·rw[mU]
   exact q _ (fun b o e=>s1 b o e (ay e n1))
theorem wm:bI P w K mg base fj 1 f2 d2 ["yard"] (vE K):=by
 refine T.F2.fn.ok DZ (fun vs H Q E h=>AQ h) (fun cJ A outer s H vs Q E hr h=>?_)
 refine ⟨_,(ai (aG (bU K rfl Xt X2 Yk (fT K rfl) (iM [] (by decide+kernel)) (aa (aC (sO K rfl) rfl T.z_sorted boot_sorted (aa (cV ["letter"] [none] (jZ (pv 0)) trivial (fun _ _ _ _=>(aV (i:=0) (by decide+kernel:List.Nodup (["letter"]:List Str)) rfl (Or.inl rfl))) (fun _ _ _ _=>(BQ (fP (eU K rfl Xt Zw Zv jY (pv 0))))) (fun _ _ _ _=>(pv 0))) ae)) ae)))),?_⟩
 obtain ⟨l,rfl,hl,hz,q⟩:=h
 have hs:(1000:Nat)<sizeLine:=by decide
 refine ⟨rfl,_,rfl,l,rfl,?_⟩
 refine fS (xs:=cn l) (fun i acc H'=>aq H H'/\acc=cn ((l.take i).filter aB)) (by rw[aN];omega) ⟨aq.refl H,rfl⟩ ?_ ?_
 ·rintro i x acc H1 Nx hi hx Bi ⟨s1,rfl⟩ nx
  obtain ⟨c,hc,rfl⟩:=eT hx
  have e:=mW (p:=aB) hc
  refine ⟨trivial,?_⟩
  refine ⟨_,rfl,rfl,c,rfl,rfl,hl c (WQ hc),_,rfl,?_⟩
  refine b5 (fun z=>?_) (fun z=>?_)
  ·rw[if_pos z]at e
   exact ⟨_,rfl,nx _ _ (by simpa using Bi) ⟨s1,by rw[e, <-cX]⟩⟩
  ·rw[if_neg z,XZ]at e
   exact nx _ _ (Zp Bi) ⟨s1,by rw[e]⟩
 ·rintro acc H1 D Bi ⟨s1,rfl⟩ hD
  rw[oJ,eM]
  have Tf:(l.filter aB).length<=l.length:=Y_ _ _
  refine ⟨D,(l.filter aB).map fun c=>[c],rfl,bC.of ah,by rw[Kw];omega,fun p ls hp uv N2=>?_⟩
  obtain ⟨l',rfl,pl⟩:=Fh uv
  have yE:=pl.length_eq
  refine ⟨p,l'.map fun c=>[c],rfl,rfl,bC.of ah,by rw[vz];omega,?_⟩
  rw[mU]
  exact q l' _ pl (Fi N2) ((s1.trans (aq.upd hD)).trans (aq.upd hp))
theorem qr:bI P w K mg base fj 2 f4 d4 ["yard","drawing","end"] (jM K):=by
 have uw:=wm (P:=P) (w:=w) (base:=base) T
 refine T.F4.fn.ok jR (fun vs H Q E h=>oT h) (fun cJ A outer s H vs Q E hr h=>?_)
 refine ⟨_,(ag (ao (i:=3) jR.nd rfl (Or.inl rfl) (cK (jK K rfl) rfl T.z_list boot_list (aa (aR (bD K rfl) (aR (bD K rfl) (pv 1) aj (fun _ _=>rfl)) (bU K rfl Xt ZH ZF lU (ak uw (hr.mono (by decide)) rfl T.F2.mg T.F2.fn.kp T.F2.bd .nil az (aa (pv 0) ae)) (aa (eU K rfl Xt ZG ZE ou (pv 2)) ae)) (fun _ _=>rfl)) ae)))
   (ag (bO (fP (eU K rfl Xt PySem.F.slot_str_isupper PySem.F.type_str_isupper xk (pv 2))) (ai (dM (eU K rfl XG PySem.F.slot_list_reverse PySem.F.type_list_reverse xa (pv 3)))) bj)
   (ai (aG (pv 3))))),?_⟩
 obtain ⟨y,dr,ws,os,e,rfl,hy,hz,he,ho,hd,q⟩:=h
 have hs:(100000:Nat)<sizeLine:=by decide
 have Pu: ∀c∈y,c<128:=He hy.lt
 have Tg:=Pu e he
 obtain ⟨⟨wt,ot,d1,d2,d3⟩,dO⟩:=hd
 obtain ⟨o,o1,o2,o3⟩:=i7 hy he ho
 refine ⟨_,rfl,dr,_,1,_,rfl,rfl,cS.of d1,rfl,?_⟩
 refine ⟨_,rfl,y,rfl,Pu,by omega,fun l' H1 yE KP s1=>?_⟩
 have el:=zx yE KP
 subst el
 refine ⟨rfl,_,rfl,rfl,e,rfl,rfl,Tg,?_⟩
 refine ⟨fK y,_,rfl,rfl,C2 hy he,?_⟩
 refine ⟨ot,_,_,_,rfl,rfl,cS.of (s1 _ _ d3),b9 (Jx o2),?_⟩
 refine ⟨o.o,_,rfl, .inr (cS.of (s1 _ _ (dO o o1).tp)),fun p1 n1=>?_⟩
 refine ⟨_,rfl,rfl,e,rfl,rfl,Tg,_,rfl,b5 (fun z=>?_) (fun z=>?_)⟩
 ·refine ⟨_,rfl, .inl ⟨rfl,_,bC.of ah⟩,p1,_,rfl,rfl,ah,?_⟩
  refine ⟨_,rfl,q p1 _ (aq.free s1 n1) ?_ ?_⟩
  ·rw[ah,Ga]
   unfold nU
   rw[if_pos z,o3]
  ·exact fun a u ea=>by rw[au (ay ea (aq.free s1 n1)),au (ay ea (aq.free s1 n1))];exact s1 a u ea
 ·refine ⟨_,rfl,q p1 _ (aq.free s1 n1) ?_ (s1.trans (aq.upd n1))⟩
  rw[ah]
  unfold nU
  rw[if_neg z,o3]
theorem Gz:bI P w K mg base fj 1 Lf LR ["_law_script","_law_k"] (yZ K):=by
 refine T.Ph.fn.ok lG (fun vs H Q E h=>Cn h) (fun cJ A outer s H vs Q E hr h=>?_)
 refine ⟨_,(ag (ao (i:=2) lG.nd rfl (Or.inl rfl) (aD bz (aD jX aj (pv 1)) aj))
   (ag (bO (aL mO (pv 1) (aC (aX K rfl) rfl T.z_len Xl (aa (pv 0) ae)) (aU _)) (ai (ao (i:=2) lG.nd rfl (Or.inl rfl) (aR (aZ K rfl) (pv 0) (pv 1) (fun _ _=>rfl)))) (ai (bO (aL qD (aC (aX K rfl) rfl T.z_len Xl (aa (pv 0) ae)) aj (aU _)) (ai (ao (i:=2) lG.nd rfl (Or.inl rfl) (aD bz (pv 2) (aD jX (aD fk (aR (aZ K rfl) (pv 0) (aD fk (pv 1) (aC (aX K rfl) rfl T.z_len Xl (aa (pv 0) ae))) (fun _ _=>rfl)) aj) aj)))) bj)))
   (ag (ao (i:=3) lG.nd rfl (Or.inl rfl) (aD fk (aD BE (aD bz (aD bz (aD fk (pv 2) aj) (aD jX aj (pv 1))) aj) aj) aj))
   (ai (aG (cT (aa (aR (aZ K rfl) (cT (aa aj (aa (pv 2) ae))) (cK Ab rfl T.z_int boot_int (aa (jk BG (pv 2) (aD BE aj aj) (aU _)) ae)) (fun _ _=>rfl)) (aa (aD bz (aD fk (pv 3) aj) aj) ae)))))))),?_⟩
 obtain ⟨a,ns,k,rfl,hS,hk,q⟩:=h
 have hp:(0:Int)<2147483629:=by decide
 walk_at "rd"
 refine ⟨a,_,rfl, .inl hS,?_⟩
 walk_at "rd"
 refine b5 (fun e=>?_) (fun e=>?_)
 ·have e':(k:Int)<((ns.map V.int).length:Nat):=of_decide_eq_true e
  rw[Kw]at e'
  obtain ⟨z,hz⟩:=y0 (ns:=ns) (i:=k) (by omega)
  walk_at "rd"
  refine ⟨a,_,k,_,rfl,rfl,hS,b9 hz,?_⟩
  walk_at "rd"
  refine fun p1 n1=>?_
  walk_at "rd"
  refine .inr ⟨_,rfl,?_⟩
  obtain ⟨y,hy⟩:=xE _ z
  refine ⟨p1,_,_,_,rfl,rfl,bC.of ah,hy,?_⟩
  walk_at "rd"
  exact fun p2 n2=>q p2 _ (aq.free (aq.upd n1) n2) ⟨_,_,ah⟩ ((aq.upd n1).trans (aq.upd n2))
 ·walk_at "rd"
  refine ⟨a,_,rfl, .inl hS,?_⟩
  walk_at "rd"
  refine b5 (fun e2=>?_) (fun e2=>?_)
  ·have e':(0:Int)<((ns.map V.int).length:Nat):=of_decide_eq_true e2
   have hl:(0:Int)<(ns.length:Int):=by rw[Kw]at e';exact e'
   have m1:0<=(k:Int)%(ns.length:Int):=Yh _ (by omega)
   have m2:(k:Int)%(ns.length:Int)<(ns.length:Int):=Yb _ hl
   obtain ⟨z,hz⟩:=y0 (ns:=ns) (i:=((k:Int)%(ns.length:Int)).toNat) (by omega)
   have Fz:m6 (ns.map V.int) ((k:Int)%((ns.map V.int).length:Nat))=some (V.int z):=by
    have:=b9 hz
    rw[Int.toNat_of_nonneg m1]at this
    rw[Kw]
    exact this
   walk_at "rd"
   refine ⟨a,_,rfl, .inl hS,?_⟩
   walk_at "rd"
   refine ⟨a,_,_,_,rfl,rfl,hS,Fz,?_⟩
   walk_at "rd"
   refine fun p1 n1=>?_
   walk_at "rd"
   refine .inr ⟨_,rfl,?_⟩
   obtain ⟨y,hy⟩:=xE _ _
   refine ⟨p1,_,_,_,rfl,rfl,bC.of ah,hy,?_⟩
   walk_at "rd"
   exact fun p2 n2=>q p2 _ (aq.free (aq.upd n1) n2) ⟨_,_,ah⟩ ((aq.upd n1).trans (aq.upd n2))
  ·walk_at "rd"
   refine fun p1 n1=>?_
   walk_at "rd"
   refine .inr ⟨_,rfl,?_⟩
   obtain ⟨y,hy⟩:=xE _ _
   refine ⟨p1,_,_,_,rfl,rfl,bC.of ah,hy,?_⟩
   walk_at "rd"
   exact fun p2 n2=>q p2 _ (aq.free (aq.upd n1) n2) ⟨_,_,ah⟩ ((aq.upd n1).trans (aq.upd n2))
theorem qt:bI P w K mg base fj 1 KY Lw ["words","band"] (jO K):=by
 refine T.O6.fn.ok cL (fun vs H Q E h=>oZ h) (fun cJ A outer s H vs Q E hr h=>?_)
 refine ⟨_,(ag (ao (i:=2) cL.nd rfl (Or.inl rfl) (cT ae))
   (ag (cN PassesOwn.never rfl (vc K rfl rfl T.z_enumerate (aa (pv 0) ae)) (nM (n:=2) K rfl rfl (eX (aV (i:=3) cL.nd rfl (Or.inl rfl)) (eX (aV (i:=4) cL.nd rfl (Or.inl rfl)) nH))) (ai (cN PassesOwn.never rfl (B7 rfl T.z_enumerate (aa (pv 4) ae)) (nM (n:=2) K rfl rfl (eX (aV (i:=5) cL.nd rfl (Or.inl rfl)) (eX (aV (i:=6) cL.nd rfl (Or.inl rfl)) nH))) (ai (bO (aL iQ (eU K rfl Xt ZG ZE ou (pv 6)) (pv 1) (aU _)) (ai (dM (bU K rfl XG Yn Ym eJ (pv 2) (aa (cB (aa (pv 3) (aa (pv 5) ae))) ae)))) bj)))))
   (ai (aG (pv 2))))),?_⟩
 obtain ⟨wt,ws,band,rfl,rP,hf,hw,hb,q⟩:=h
 have hs:(100000:Nat)<sizeLine:=by decide
 walk_at "wk"
 intro p1 n1
 refine ⟨_,rfl,wt,rfl,⟨_,cS.of ((aq.upd n1) _ _ rP)⟩,?_⟩
 refine qT (K:=K) (a:=wt) (xs:=gX ws) (fun j σ H'=> ∃(ps:List Pr) (cv wv pv lv:Option V),σ=[some (.ref wt),some (.str (S [band])),some (.ref p1),cv,wv,pv,lv]/\H' p1=some (.lst (rz ps))/\(∀p∈ps,nj H' p)/\ps.map Pr.pair=c_ band ws j/\ps.length<=12*j/\aq H H')
  ⟨[],none,none,none,none,rfl,ah,fun _ h=>absurd h Xu,rfl,WO _,aq.upd n1⟩ (fun j σ H' _ ⟨_,_,_,_,_,_,_,_,_,_,h⟩=>cS.of (h _ _ rP)) ?_ ?_
 ·rintro j x σ H1 T hx ⟨ps,cv,wv,pv,lv,rfl,hp,zQ,p_,km,s1⟩ nT
  have hj:j<ws.length:=by
   have:=(Iy.mp hx).1
   rwa [cj]at this
  rw[iT hj]at hx
  cases hx
  have J2:ws[j]? =some ws[j]:=Iw hj
  obtain ⟨xb,lM⟩:=hw _ (XF hj)
  generalize ws[j]=w at J2 xb lM ⊢
  refine ⟨T,_,rfl,cS.of ah,rfl,_,_,rfl,_,_,rfl,rfl,?_⟩
  have sT:=aq.upd (o:= .tup [.int j, .str (S w)]) nT
  refine ⟨_,rfl,w,rfl,?_⟩
  refine B8 (l:=w) (fun m σ H'=> ∃(us:List Pr) (pv lv:Option V),σ=[some (.ref wt),some (.str (S [band])),some (.ref p1),some (.int j),some (.str (S w)),pv,lv]/\H' p1=some (.lst (rz us))/\(∀p∈us,nj H' p)/\us.map Pr.pair=c_ band ws j++ie band j w m/\us.length<=12*j+m/\aq H H')
   ⟨ps,pv,lv,rfl,sT _ _ hp,fun p xN=>(zQ p xN).same sT,by rw[p_];show _=_++[];rw[XZ],by omega,s1.trans sT⟩ ?_ ?_
  ·rintro m l σ H2 T2 hm ⟨us,Vt,Vu,rfl,oF,Bs,Bj,EB,s2⟩ Vv
   have WW:m<w.length:=(Iy.mp hm).1
   have Rp:=xb l (WQ hm)
   have es:=xX (band:=band) (c:=j) hm
   have Pw:=aq.upd (o:= .tup [.int m, .str (S [l])]) Vv
   refine ⟨T2,_,rfl,cS.of ah,rfl,_,_,rfl,_,_,rfl,rfl,?_⟩
   refine ⟨_,rfl,rfl,l,rfl,rfl,Rp.lt,_,rfl,[PyProof.Rows.lo1 l],[band],rfl,rfl,_,rfl,?_⟩
   have ev:decide ([PyProof.Rows.lo1 l]=[band])=xW band l:=by rw[<-C8 hb Rp];simp
   rw[ev]
   have J3:=Pw _ _ oF
   refine b5 (fun z=>?_) (fun z=>?_)
   ·rw[if_pos z]at es
    refine ⟨_,rfl, .inl ⟨rfl,_,bC.of J3⟩,_,rfl,_,rfl,by show 2<=sizeLine;decide,fun t nt=>?_⟩
    have wo:=(aq.upd (o:= .tup [.int j, .int m]) nt) _ _ J3
    have s3:=Pw.trans (aq.upd (o:= .tup [.int j, .int m]) nt)
    refine ⟨p1,_,_,rfl,rfl,wo,by rw[t5];omega,?_⟩
    refine ⟨us++[⟨t,j,m⟩],_,_,rfl,by rw[ah];exact congrArg (fun x=>some (HO.lst x)) (C3 us ⟨t,j,m⟩),fun p xN=>?_,by rw[UH,Bj,es,Yj];rfl,by rw[UD];show us.length+1<=_;omega,fun a o ea=>by rw[au (ay ea n1)];exact s3 _ _ (s2 a o ea)⟩
    rcases Xn.mp xN with g | g
    ·exact ((Bs p g).same s3).ts (dW.Fl wo)
    ·have e2:=Sz.mp g
     subst e2
     exact nj.ts (H:=upd (upd H2 T2 (.tup [.int m, .str (S [l])])) t (.tup [.int j, .int m])) ⟨ah,by show j<1000;omega,by show m<1000;omega⟩ (dW.Fl wo)
   ·rw[if_neg z,XZ]at es
    exact ⟨us,_,_,rfl,J3,fun p xN=>(Bs p xN).same Pw,by rw[Bj,es],by omega,s2.trans Pw⟩
  ·rintro σ H2 ⟨us,Vt,Vu,rfl,oF,Bs,Bj,EB,s2⟩
   exact ⟨us,_,_,_,_,rfl,oF,Bs,by rw[Bj,vP J2],by omega,s2⟩
 ·rintro σ H1 ⟨ps,cv,wv,pv,lv,rfl,hp,zQ,p_,km,s1⟩
  rw[cj]at p_
  exact ⟨_,rfl,q p1 ps H1 n1 hp zQ p_ s1⟩
theorem fO:bI P w K mg base fj 1 Lh LU ["_law_letter"] (qW K):=by
 refine T.jw.fn.ok mJ (fun vs H Q E h=>xC h) (fun cJ A outer s H vs Q E hr h=>?_)
 refine ⟨_,(ag (ao (i:=1) mJ.nd rfl (Or.inl rfl) (iM [97,98,99,100,101,102,103,104,105,106,107,108,109,110,111,112,113,114,115,116,117,118,119,120,121,122] (by decide+kernel)))
   (ag (ao (i:=2) mJ.nd rfl (Or.inl rfl) (iM [65,66,67,68,69,70,71,72,73,74,75,76,77,78,79,80,81,82,83,84,85,86,87,88,89,90] (by decide+kernel)))
   (ag (bO (aL IF (pv 0) (pv 1) (by with_unfolding_all rfl)) (ai (aG (aR iB (pv 2) (bU K rfl Xt ZH ZF lU (pv 1) (aa (pv 0) ae)) (fun _ _=>rfl)))) bj)
   (ai (aG (aR iB (pv 1) (bU K rfl Xt ZH ZF lU (pv 2) (aa (pv 0) ae)) (fun _ _=>rfl))))))),?_⟩
 obtain ⟨c,rfl,hc,q⟩:=h
 refine ⟨_,rfl,_,rfl,c,aE,rfl,rfl,_,rfl,b5 (fun e=>?_) (fun e=>?_)⟩
 ·have hm:c∈aE:=of_decide_eq_true e
  exact ⟨_,rfl,_,rfl,rfl,_,rfl,aE,c,rfl,rfl,hm,iD,_,aA c,rfl,rfl,by decide,vv c hm,q⟩
 ·have hm:c∈iD:=hc.resolve_left fun z=>e (decide_eq_true z)
  exact ⟨_,rfl,_,rfl,rfl,_,rfl,iD,c,rfl,rfl,hm,aE,_,aA c,rfl,rfl,by decide,AE c hm,q⟩
theorem fi:bI P w K mg base fj 1 Lg LS ["_law_box_here","_law_many"] (vw K):=by
 refine T.eE.fn.ok pM (fun vs H Q E h=>AF h) (fun cJ A outer s H vs Q E hr h=>?_)
 refine ⟨_,(ag (bO (aL qD (aR (aZ K rfl) (pv 0) aj (fun _ _=>rfl)) aj (aU _)) (ag (ao (i:=2) pM.nd rfl (Or.inl rfl) (aD fk (aR (aZ K rfl) (pv 0) aj (fun _ _=>rfl)) (pv 1)))
   (ag (BD (aD eY (aR (aZ K rfl) (pv 0) aj (fun _ _=>rfl)) (pv 1)) (BC (pv 0) aj set_list))
   (ai (aG (pv 2))))) bj)
   (ag (ao (i:=3) pM.nd rfl (Or.inl rfl) (aD fk (aD jX (aR (aZ K rfl) (pv 0) aj (fun _ _=>rfl)) aj) aj))
   (ag (BD (aD bz (aD fk (aD bz (aD jX (pv 3) aj) aj) aj) aj) (BC (pv 0) aj set_list))
   (ai (aG (aD fk (aD eY (aD bz (aD jX (pv 3) aj) (aR (aZ K rfl) (pv 0) aj (fun _ _=>rfl))) aj) (pv 1))))))),?_⟩
 obtain ⟨b,m,rfl,⟨x,y,hb⟩,h1,h2,q⟩:=h
 have fin: ∀(r x' y':Int),0<=r->r<m->Q (.int r) (upd H b (.lst [.int x', .int y'])):=fun r x' y' h3 h4=>by
  have e:r=((r.toNat:Nat):Int):=by omega
  rw[e]
  exact q r.toNat _ (by omega) ⟨x',y',ah⟩ (aT.upd b H _)
 refine ⟨_,rfl,b,_,0,_,rfl,rfl,bC.of hb,rfl,_,_,rfl,rfl,_,rfl,b5 (fun e=>?_) (fun e=>?_)⟩
 ·refine ⟨_,rfl,b,_,0,_,rfl,rfl,bC.of hb,rfl,_,rfl,_,_,rfl,rfl,(by omega:0<m),?_⟩
  refine ⟨_,rfl,b,_,0,_,rfl,rfl,bC.of hb,rfl,_,rfl,_,_,rfl,rfl,⟨by omega,by omega⟩,_,rfl,b,_,0,0,rfl,rfl,hb,rfl,_,rfl,?_⟩
  exact fin (x%m) (x / m) y (Yh _ (by omega)) (Yb _ (by omega))
 ·refine ⟨_,rfl,b,_,1,_,rfl,rfl,bC.of hb,rfl,_,_,rfl,rfl, .inr ⟨by decide,by decide⟩,_,_,rfl,rfl,(by decide:(0:Int)<2147483647),?_⟩
  refine ⟨_,rfl,_,_,rfl,rfl, .inr ⟨by decide,by decide⟩,_,_,rfl,rfl,_,_,rfl,rfl,(by decide:(0:Int)<2147483629),_,_,rfl,rfl,_,rfl,b,_,1,1,rfl,rfl,hb,rfl,?_⟩
  refine ⟨_,rfl,_,_,rfl,rfl, .inr ⟨by decide,by decide⟩,_,rfl,b,_,1,_,rfl,rfl,bC.of ah,rfl,_,_,rfl,rfl,_,_,rfl,rfl,⟨by decide,by decide⟩,_,rfl,_,_,rfl,rfl,(by omega:0<m),?_⟩
  exact fin _ _ _ (Yh _ (by omega)) (Yb _ (by omega))
theorem rQ:bI P w K mg base fj 2 Lj LW ["_law_box_here","_law_yard_here","_law_top"] (q_ K):=by
 have bA:=fi (P:=P) (w:=w) (base:=base) T
 have bS:=fO (P:=P) (w:=w) (base:=base) T
 refine T.EA.fn.ok cM (fun vs H Q E h=>xK h) (fun cJ A outer s H vs Q E hr h=>?_)
 refine ⟨_,(ag (ao (i:=3) cM.nd rfl (Or.inl rfl) (aD bz aj (ak bA (hr.mono (by decide)) rfl T.eE.mg T.eE.fn.kp T.eE.bd .nil az (aa (pv 0) (aa (pv 2) ae)))))
   (ag (ao (i:=4) cM.nd rfl (Or.inl rfl) (ak bA (hr.mono (by decide)) rfl T.eE.mg T.eE.fn.kp T.eE.bd .nil az (aa (pv 0) (aa aj ae))))
   (ag (ao (i:=5) cM.nd rfl (Or.inl rfl) (iM [] (by decide+kernel)))
   (jl (dF PassesOwn.never (aL mO (aC aQ rfl T.z_len Xl (aa (pv 5) ae)) (pv 3) (aU _)) (ag (ao (i:=6) cM.nd rfl (Or.inl rfl) (aR iB (pv 1) (ak bA (hr.mono (by decide)) rfl T.eE.mg T.eE.fn.kp T.eE.bd .nil az (aa (pv 0) (aa (aC aQ rfl T.z_len Xl (aa (pv 1) ae)) ae))) (fun _ _=>rfl)))
   (jl (bO (PW.pt (jV (aL j4 (pv 4) aj (aU _)) (jV (aL qD (aC aQ rfl T.z_len Xl (aa (pv 5) ae)) aj (aU _)) (jj (aL mO (aC aQ rfl T.z_len Xl (aa (pv 5) ae)) aj (aU _)))))) (ai (ao (i:=6) cM.nd rfl (Or.inl rfl) (aR iB (pv 5) (aD fk (aC aQ rfl T.z_len Xl (aa (pv 5) ae)) aj) (fun _ _=>rfl)))) bj)
   (ai (bO (PW.pt (yH (aL iQ (pv 5) (iM [] (by decide+kernel)) (aU _)) (r9 (aL II (pv 6) (ak bS (hr.mono (by decide)) rfl T.jw.mg T.jw.fn.kp T.jw.bd .nil az (aa (aR iB (pv 5) (jF gw aj) (fun _ _=>rfl)) ae)) (aU _))))) (ai (ao (i:=5) cM.nd rfl (Or.inl rfl) (aD dS (pv 5) (pv 6)))) (ai (ao (i:=5) cM.nd rfl (Or.inl rfl) (aD dS (pv 5) (aR iB (pv 5) (jF gw aj) (fun _ _=>rfl))))))))))
   (jl (dF PassesOwn.never (PW.pt (jV (aL qD (aC aQ rfl T.z_len Xl (aa (pv 5) ae)) aj (aU _)) (jj (aL iQ (aR iB (pv 5) aj (fun _ _=>rfl)) (ak bS (hr.mono (by decide)) rfl T.jw.mg T.jw.fn.kp T.jw.bd .nil az (aa (aR iB (pv 5) (jF gw aj) (fun _ _=>rfl)) ae)) (aU _))))) (ai (ao (i:=5) cM.nd rfl (Or.inl rfl) (bf iC (pv 5) bT (ba (jF gw aj))))))
   (jl (bO (PW.pt (jV (aL j4 (pv 4) aj (aU _)) (jj (aL G3 (aD jX (aC aQ rfl T.z_len Xl (aa (pv 5) ae)) aj) (pv 2) (aU _))))) (ai (ao (i:=5) cM.nd rfl (Or.inl rfl) (aD dS (pv 5) (pv 5)))) bj)
   (ai (aG (pv 5))))))))),?_⟩
 obtain ⟨b,y,top,rfl,hb,hy,GA,rR,Bz,L8,q⟩:=h
 have hs:(100000:Nat)<sizeLine:=by decide
 have D4:y.length<=sizeLine:=by omega
 refine ⟨_,rfl,_,rfl,b,_,rfl,hb,by omega,by omega,fun n H1 hn oI s1=>?_⟩
 refine ⟨_,_,rfl,rfl,_,rfl,b,5,rfl,oI,by decide,by decide,fun fm H2 Vw h_ s2=>?_⟩
 have WX:n+1<=top:=by omega
 have qu:=s1.trans s2
 walk_at "wk"
 refine ⟨fun σ' H'=> ∃(w:List Nat) (lv:Option V),σ'=[some (.ref b),some (.str (S y)),some (.int top),some (.int (1+(n:Int))),some (.int fm),some (.str (S w)),lv]/\Wd y w/\1<=w.length/\w.length<=n+1/\bY H' b/\aT b H H',?_,?_⟩
 ·refine ⟨fun k σ H'=> ∃(w:List Nat) (lv:Option V),σ=[some (.ref b),some (.str (S y)),some (.int top),some (.int (1+(n:Int))),some (.int fm),some (.str (S w)),lv]/\k=n+1 - w.length/\Wd y w/\w.length<=n+1/\bY H' b/\aT b H H',⟨_,[],none,rfl,rfl,⟨AR.nil,fun _ h=>absurd h Xu⟩,WO _,h_,qu⟩,?_⟩
  rintro k σ H3 ⟨w,lv,rfl,rfl,hw,lM,ku,s3⟩
  have nA:w.length<=sizeLine:=by omega
  refine ⟨_,rfl,w,rfl,nA,_,rfl,_,_,rfl,rfl,_,rfl,b5 (fun z=>?_) (fun z=>?_)⟩
  ·have z1:(w.length:Int)<1+(n:Int):=of_decide_eq_true z
   refine ⟨_,rfl,_,rfl,_,rfl,y,rfl,D4,b,_,rfl,ku,by omega,by omega,fun r H4 L9 rS s4=>?_⟩
   have hr:r<y.length:=by omega
   refine ⟨y,_,_,rfl,rfl,D4,b9 (Iw hr),?_⟩
   have yW:y[r]∈y:=XF hr
   generalize y[r]=c at yW ⊢
   refine ⟨fun σ' H'=>H'=H4/\ ∃e,e∈y/\σ'=[some (.ref b),some (.str (S y)),some (.int top),some (.int (1+(n:Int))),some (.int fm),some (.str (S w)),some (.str (S [e]))],?_,?_⟩
   ·refine ⟨_,rfl,_,_,rfl,rfl,_,rfl,b5 (fun f1=>?_) (fun f1=>?_)⟩
    ·refine ⟨_,rfl,w,rfl,nA,_,_,rfl,rfl,_,rfl,b5 (fun f2=>?_) (fun f2=>?_)⟩
     ·have g2:(1:Int)<w.length:=of_decide_eq_true f2
      have dH:w≠[]:=fun g=>by rw[g]at g2;simp at g2
      refine ⟨_,rfl,w,rfl,nA,_,_,rfl,rfl,_,rfl,b5 (fun f3=>?_) (fun f3=>?_)⟩
      ·refine ⟨_,rfl,_,rfl,w,rfl,nA,_,_,rfl,rfl,by show (0:Int)<2;decide,w,_,_,rfl,rfl,nA,kT (by show -(w.length:Int)<=(w.length:Int)%2;omega) (by show (w.length:Int)%2<_;omega),?_⟩
       exact ⟨rfl,_,hw.bE _ (iW dH _),rfl⟩
      ·exact ⟨rfl,c,yW,rfl⟩
     ·refine xf ?_
      exact ⟨rfl,c,yW,rfl⟩
    ·refine xf ?_
     exact ⟨rfl,c,yW,rfl⟩
   rintro σ5 H5 ⟨rfl,e,t6,rfl⟩
   have s5:=s3.trans s4
   refine ⟨_,rfl,w,[],rfl,rfl,_,rfl,b5 (fun f=>?_) (fun f=>?_)⟩
   ·have Vx:w=[]:=of_decide_eq_true f
    refine Iz ?_
    refine ⟨_,rfl,_,rfl,w,[e],rfl,rfl,by show w.length+1<=_;omega,?_⟩
    exact ⟨n+1 - (w++[e]).length,by rw[UD];show n+1 - (w.length+1)<_;omega,w++[e],_,rfl,rfl,hw.more t6 fun g=>absurd Vx g,by rw[UD];show w.length+1<=_;omega,rS,s5⟩
   ·have dH:w≠[]:=fun g=>f (decide_eq_true g)
    have lX:0<w.length:=SD.mpr dH
    have Gf:rd w (-1)∈y:=hw.bE _ (iW dH _)
    have EC:m6 w (-1)=some (rd w (-1)):=kT (by omega) (by omega)
    refine ⟨_,rfl,_,rfl,_,rfl,w,_,_,rfl,rfl,nA,EC,_,rfl,hy.lt _ Gf,[e],_,rfl,rfl,_,rfl,b5 (fun f2=>?_) (fun f2=>?_)⟩
    ·have Rq:e≠aA (rd w (-1)):=fun g=>by rw[g]at f2;simp at f2
     refine ⟨_,rfl,_,rfl,w,[e],rfl,rfl,by show w.length+1<=_;omega,?_⟩
     exact ⟨n+1 - (w++[e]).length,by rw[UD];show n+1 - (w.length+1)<_;omega,w++[e],_,rfl,rfl,hw.more t6 fun _=>Rq,by rw[UD];show w.length+1<=_;omega,rS,s5⟩
    ·refine ⟨_,rfl,_,rfl,_,rfl,w,_,_,rfl,rfl,nA,EC,w,[rd w (-1)],rfl,rfl,by show w.length+1<=_;omega,?_⟩
     exact ⟨n+1 - (w++[rd w (-1)]).length,by rw[UD];show n+1 - (w.length+1)<_;omega,w++[rd w (-1)],_,rfl,rfl,hw.more Gf fun _ g=>dX (hy.lt _ Gf) g.symm,by rw[UD];show w.length+1<=_;omega,rS,s5⟩
  ·have z1: ¬(w.length:Int)<1+(n:Int):=fun g=>z (decide_eq_true g)
   exact ⟨w,lv,rfl,hw,by omega,lM,ku,s3⟩
 rintro σ6 H3 ⟨w,lv,rfl,hw,J4,lM,ku,s3⟩
 refine ⟨fun σ' H'=>H'=H3/\ ∃w:List Nat,σ'=[some (.ref b),some (.str (S y)),some (.int top),some (.int (1+(n:Int))),some (.int fm),some (.str (S w)),lv]/\SW y w/\w.length<=n+1,?_,?_⟩
 ·refine ⟨fun k σ H'=>H'=H3/\ ∃w:List Nat,σ=[some (.ref b),some (.str (S y)),some (.int top),some (.int (1+(n:Int))),some (.int fm),some (.str (S w)),lv]/\k=w.length/\Wd y w/\1<=w.length/\w.length<=n+1,⟨_,rfl,w,rfl,rfl,hw,J4,lM⟩,?_⟩
  clear hw lM J4 w
  rintro k σ H4 ⟨rfl,w,rfl,rfl,hw,J4,lM⟩
  have nA:w.length<=sizeLine:=by omega
  have dH:w≠[]:=fun g=>by rw[g]at J4;simp at J4
  have Gf: ∀k,rd w k∈y:=fun k=>hw.bE _ (iW dH k)
  refine ⟨_,rfl,w,rfl,nA,_,_,rfl,rfl,_,rfl,b5 (fun f=>?_) (fun f=>?_)⟩
  ·have g1:(1:Int)<w.length:=of_decide_eq_true f
   have EC:m6 w (-1)=some (rd w (-1)):=kT (by omega) (by omega)
   refine ⟨_,rfl,w,_,_,rfl,rfl,nA,kT (k:=0) (by omega) (by omega),_,rfl,_,rfl,w,_,_,rfl,rfl,nA,EC,_,rfl,hy.lt _ (Gf _),[rd w 0],_,rfl,rfl,_,rfl,b5 (fun f2=>?_) (fun f2=>?_)⟩
   ·refine ⟨_,rfl,_,rfl,_,rfl,w,rfl,nA,?_⟩
    rw[CB]
    exact ⟨(w.take (w.length - 1)).length,by rw[Xm];omega,rfl,w.take (w.length - 1),rfl,rfl,⟨hw.Er.take _,fun c hc=>hw.bE c (YV hc)⟩,by rw[Xm];omega,by rw[Xm];omega⟩
   ·have Rq:rd w 0≠aA (rd w (-1)):=fun g=>f2 (by simp[g])
    exact ⟨rfl,w,rfl,hw.sw dH Rq,lM⟩
  ·have g1: ¬(1:Int)<w.length:=fun g=>f (decide_eq_true g)
   refine xf ?_
   exact ⟨rfl,w,rfl,hw.one hy (by omega),lM⟩
 rintro σ7 H7 ⟨rfl,w7,rfl,sw,Vy⟩
 clear hw J4 lM w
 refine ⟨fun σ' H'=>H'=H7/\ ∃w:List Nat,σ'=[some (.ref b),some (.str (S y)),some (.int top),some (.int (1+(n:Int))),some (.int fm),some (.str (S w)),lv]/\SW y w/\w.length<=top,?_,?_⟩
 ·refine ⟨_,rfl,_,_,rfl,rfl,_,rfl,b5 (fun f=>?_) (fun f=>?_)⟩
  ·refine ⟨_,rfl,w7,rfl,by omega,_,_,rfl,rfl, .inl ⟨by omega,by omega⟩,_,rfl,_,_,rfl,rfl,_,rfl,b5 (fun f2=>?_) (fun f2=>?_)⟩
   ·have g2:(w7.length:Int)*2<=top:=of_decide_eq_true f2
    refine ⟨_,rfl,_,rfl,w7,w7,rfl,rfl,by omega,?_⟩
    exact ⟨rfl,_,rfl,sw.twice,by rw[UD];omega⟩
   ·exact ⟨rfl,_,rfl,sw,by omega⟩
  ·refine xf ?_
   exact ⟨rfl,_,rfl,sw,by omega⟩
 rintro σ8 H8 ⟨rfl,w8,rfl,Vz,Rr⟩
 exact ⟨_,rfl,q w8 _ Vz Rr ku s3⟩
theorem D5:bI P w K mg base fj 2 Li LV ["_law_box_here","_law_few","_law_top"] (vx K):=by
 have bA:=fi (P:=P) (w:=w) (base:=base) T
 have bS:=fO (P:=P) (w:=w) (base:=base) T
 refine T.Pj.fn.ok fg (fun vs H Q E h=>AG h) (fun cJ A outer s H vs Q E hr h=>?_)
 refine ⟨_,(ag (ao (i:=3) fg.nd rfl (Or.inl rfl) (cK (om rfl) rfl T.z_list boot_list (aa (iM [97,98,99,100,101,102,103,104,105,106,107,108,109,110,111,112,113,114,115,116,117,118,119,120,121,122] (by decide+kernel)) ae)))
   (ag (ao (i:=4) fg.nd rfl (Or.inl rfl) (cT ae))
   (ag (cN PassesOwn.never rfl (gI rfl T.z_range (aa (aD bz (pv 1) (ak bA (hr.mono (by decide)) rfl T.eE.mg T.eE.fn.kp T.eE.bd .nil az (aa (pv 0) (aa (aD bz (aD dh (pv 2) (pv 1)) aj) ae)))) ae)) (aV (i:=5) fg.nd rfl (Or.inl rfl)) (ag (ao (i:=6) fg.nd rfl (Or.inl rfl) (bU K rfl XG YR YQ kC (pv 3) (aa (ak bA (hr.mono (by decide)) rfl T.eE.mg T.eE.fn.kp T.eE.bd .nil az (aa (pv 0) (aa (aC (aX K rfl) rfl T.z_len Xl (aa (pv 3) ae)) ae))) ae)))
   (ai (ao (i:=4) fg.nd rfl (Or.inl rfl) (aD BO (pv 4) (cT (aa (pv 6) (aa (ak bS (hr.mono (by decide)) rfl T.jw.mg T.jw.fn.kp T.jw.bd .nil az (aa (pv 6) ae)) ae))))))))
   (ag (ao (i:=7) fg.nd rfl (Or.inl rfl) (iM [] (by decide+kernel)))
   (ag (dF PassesOwn.never (aL qD (aC (aX K rfl) rfl T.z_len Xl (aa (pv 4) ae)) aj (aU _)) (ai (ao (i:=7) fg.nd rfl (Or.inl rfl) (aD dS (pv 7) (bU K rfl XG YR YQ kC (pv 4) (aa (ak bA (hr.mono (by decide)) rfl T.eE.mg T.eE.fn.kp T.eE.bd .nil az (aa (pv 0) (aa (aC (aX K rfl) rfl T.z_len Xl (aa (pv 4) ae)) ae))) ae))))))
   (ai (aG (pv 7)))))))),?_⟩
 obtain ⟨b,wD,top,rfl,hb,h1,h2,h3,q⟩:=h
 have hs:(100000:Nat)<sizeLine:=by decide
 walk_at "rd"
 intro p1 n1
 walk_at "rd"
 intro p2 n2
 have s1:aq H (upd (upd H p1 (.lst (cn aE))) p2 (.lst [])):=(aq.upd n1).trans (aq.upd n2)
 have Px:p1≠b:=hb.ne n1
 have Rt:H p2=none:=aq.free (aq.upd n1) n2
 have VA:p2≠b:=hb.ne Rt
 have Th:p1≠p2:=fun z=>by rw[<-z,ah]at n2;cases n2
 walk_at "rd"
 refine ⟨b,_,rfl,hb.same s1,by omega,by omega,fun n H1 hn oI s2=>?_⟩
 walk_at "rd"
 refine fM (fun i σ H'=> ∃(pe:Addr) (L E:List Nat) (kv lv:Option V),σ=[some (.ref b),some (.int wD),some (.int top),some (.ref p1),some (.ref pe),kv,lv,none]/\Jc i L E/\H' p1=some (.lst (cn L))/\H' pe=some (.lst (cn E))/\p1≠pe/\H pe=none/\bY H' b/\aT b H H')
  ⟨p2,aE,[],none,none,rfl,Jc.start,s2 _ _ (by rw[au Th,ah];rfl) Px,s2 _ _ ah VA,Th,Rt,oI,(aT.of s1).trans s2⟩ ?_ ?_
 ·rintro i σ H2 hi ⟨pe,L,E,kv,lv,rfl,yw,ua,p_,Ti,Py,h_,s3⟩
  have NU:i<26:=by simp at hi;omega
  have Rp:=yw.ll
  have Pz:=yw.el
  refine ⟨_,rfl, .inl ⟨rfl,_,bC.of ua⟩,?_⟩
  walk_at "rd"
  refine ⟨p1,_,rfl, .inl (bC.of ua),b,_,rfl,h_,by rw[aN];omega,by rw[aN];omega,fun r H3 Tj ku s4=>?_⟩
  rw[aN]at Tj
  have L9:r<L.length:=by omega
  have Ru:=s4 _ _ ua Px
  have Rv:=s4 _ _ p_ (hb.ne Py)
  refine ⟨p1,_,_,r,_,rfl,rfl,Ru,by omega,by omega,by rw[aN,seqIndex_of (by omega) (by omega),UG],sX L9,?_⟩
  rw[lZ]
  have dk:Lt L[r]:= .inl (yw.sm _ (XF L9))
  have N3:(upd H3 p1 (.lst (cn (L.eraseIdx r)))) pe=some (.lst (cn E)):=by rw[au (Ne.symm Ti)];exact Rv
  walk_at "rd"
  intro p3 n3
  have e3:pe≠p3:=ay N3 n3
  refine ⟨pe,p3,_,_,rfl,rfl,by rw[au e3];exact N3,ah,by rw[aN];show E.length+2<=_;omega,fun p4 n4=>?_⟩
  have Tn:H p3=none:=((s3.trans s4).cP n1).none n3 (ku.cP Px |>.ne n3)
  have To:=(ku.cP (o:= .lst (cn (L.eraseIdx r))) Px).cP (o:= .lst [V.str (S [L[r]]),V.str (S [aA L[r]])]) (hb.ne Tn)
  have Tp:=((s3.trans s4).cP (o:= .lst (cn (L.eraseIdx r))) n1).cP (o:= .lst [V.str (S [L[r]]),V.str (S [aA L[r]])]) Tn
  have Rw:H p4=none:=Tp.none n4 (To.ne n4)
  have Tq:p1≠p4:=fun z=>by rw[<-z]at n4;by_cases z3:p1=p3<;>simp[upd,z3]at n4
  have VB:p1≠p3:=fun z=>by rw[<-z,ah]at n3;cases n3
  refine ⟨p4,L.eraseIdx r,E++[L[r],aA L[r]],_,_,rfl,yw.turn NU L9,by rw[au Tq,au VB,ah],?_,Tq,Rw,To.cP (hb.ne Rw),Tp.cP Rw⟩
  rw[ah, <-FC]
  rfl
 ·rintro σ H2 ⟨pe,L,E,kv,lv,rfl,yw,ua,p_,Ti,Py,h_,s3⟩
  have Pz:=yw.el
  have Eh:=hb.ne Py
  walk_at "rd"
  refine ⟨fun m σ H'=> ∃F E':List Nat,σ=[some (.ref b),some (.int wD),some (.int top),some (.ref p1),some (.ref pe),kv,lv,some (.str (S F))]/\m=E'.length/\(F++E').Perm E/\H' pe=some (.lst (cn E'))/\bY H' b/\aT b H H',⟨_,[],E,rfl,rfl,List.Perm.refl _,p_,h_,s3⟩,?_⟩
  rintro m σ H3 ⟨F,E',rfl,rfl,uv,GB,ku,s4⟩
  have hlen:=uv.length_eq
  rw[UD]at hlen
  have uR:(wD:Int)+n<=9:=by omega
  have VC:E.length<=100:=by rw[Pz];omega
  walk_at "rd"
  refine ⟨pe,_,rfl, .inl (bC.of GB),_,_,rfl,rfl,_,rfl,b5 (fun e=>?_) (fun e=>?_)⟩
  ·have e':(0:Int)<((cn E').length:Nat):=of_decide_eq_true e
   rw[aN]at e'
   refine ⟨_,rfl,_,rfl, .inl ⟨rfl,_,bC.of GB⟩,?_⟩
   walk_at "rd"
   refine ⟨pe,_,rfl, .inl (bC.of GB),b,_,rfl,ku,by rw[aN];omega,by rw[aN];omega,fun r H4 L9 rS s5=>?_⟩
   rw[aN]at L9
   have PB:r<E'.length:=by omega
   refine ⟨pe,_,_,r,_,rfl,rfl,s5 _ _ GB Eh,by omega,by omega,by rw[aN,seqIndex_of (by omega) (by omega),UG],sX PB,?_⟩
   rw[lZ]
   have hp:=j6 (Iw PB)
   have km:=hp.length_eq
   rw[XR]at km
   refine ⟨F,_,rfl,rfl,by show F.length+1<=_;omega,(E'.eraseIdx r).length,by omega,F++[E'[r]],E'.eraseIdx r,rfl,rfl,?_,ah,rS.cP Eh,(s4.trans s5).cP Py⟩
   rw[Yj]
   exact (List.Perm.append_left F hp).trans uv
  ·have e':E'=[]:=by
    cases E' with
    | nil=>rfl
    | cons c r=>exact absurd (decide_eq_true (by rw[aN];show (0:Int)<((r.length+1:Nat):Int);omega)) e
   subst e'
   rw[XZ]at uv
   have Ak:=uv.length_eq
   refine ⟨_,rfl,q F H3 (yw.yd.perm uv.symm) ?_ ?_ ku s4⟩
   ·rw[Ak,Pz];omega
   ·rw[Ak,Pz];omega
theorem D6:bI P w K mg base fj 3 Ll LX ["_law_box_here","_law_yard_here","_law_word","_law_top"] (vH K):=by
 have bA:=fi (P:=P) (w:=w) (base:=base) T
 have bS:=fO (P:=P) (w:=w) (base:=base) T
 have lH:=rQ (P:=P) (w:=w) (base:=base) T
 refine T.Pk.fn.ok jh (fun vs H Q E h=>AV h) (fun cJ A outer s H vs Q E hr h=>?_)
 refine ⟨_,(ag (ao (i:=4) jh.nd rfl (Or.inl rfl) (ak bA (hr.mono (by decide)) rfl T.eE.mg T.eE.fn.kp T.eE.bd .nil az (aa (pv 0) (aa aj ae))))
   (ag (ao (i:=5) jh.nd rfl (Or.inl rfl) (ak bA (hr.mono (by decide)) rfl T.eE.mg T.eE.fn.kp T.eE.bd .nil az (aa (pv 0) (aa (aC aQ rfl T.z_len Xl (aa (pv 2) ae)) ae))))
   (ag (bO (aL j4 (pv 4) aj (aU _)) (ai (aG (aD dS (bf iC (pv 2) (ba (pv 5)) bT) (bf iC (pv 2) bT (ba (pv 5)))))) bj)
   (ag (bO (aL j4 (pv 4) aj (aU _)) (ai (aG (bU K rfl Xt X2 Yk (fT K rfl) (iM [] (by decide+kernel)) (aa (cV ["_law_letter"] [none] (xo rfl T.z_reversed (aa (pv 2) ae)) trivial (fun _ _ _ _=>(aV (i:=0) (by decide+kernel:List.Nodup (["_law_letter"]:List Str)) rfl (Or.inl rfl))) (fun _ _ _ _=>gx) (fun _ _ _ _=>(ak bS (hr.mono (by decide)) rfl T.jw.mg T.jw.fn.kp T.jw.bd .nil az (aa (pv 0) ae)))) ae)))) bj)
   (ag (bO (aL j4 (pv 4) aj (aU _)) (ag (ao (i:=6) jh.nd rfl (Or.inl rfl) (aR iB (pv 1) (ak bA (hr.mono (by decide)) rfl T.eE.mg T.eE.fn.kp T.eE.bd .nil az (aa (pv 0) (aa (aC aQ rfl T.z_len Xl (aa (pv 1) ae)) ae))) (fun _ _=>rfl)))
   (ag (ao (i:=7) jh.nd rfl (Or.inl rfl) (aD dS (bf iC (pv 2) bT (ba (pv 5))) (pv 6)))
   (ai (bO (aL (Ff K rfl) (pv 6) (cT (aa (ak bS (hr.mono (by decide)) rfl T.jw.mg T.jw.fn.kp T.jw.bd .nil az (aa (aR iB (pv 7) aj (fun _ _=>rfl)) ae)) (aa (ak bS (hr.mono (by decide)) rfl T.jw.mg T.jw.fn.kp T.jw.bd .nil az (aa (aR iB (bf iC (pv 7) (ba (jF gw aj)) bT) aj (fun _ _=>rfl)) ae)) ae))) (by with_unfolding_all rfl)) (ai (aG (pv 7))) bj)))) bj)
   (ai (aG (ak lH (hr.mono (by decide)) rfl T.EA.mg T.EA.fn.kp T.EA.bd .nil az (aa (pv 0) (aa (pv 1) (aa (pv 3) ae))))))))))),?_⟩
 obtain ⟨b,y,w,top,rfl,hb,hy,GA,rR,Bz,L8,sw,rP,q⟩:=h
 have hs:(100000:Nat)<sizeLine:=by decide
 have D4:y.length<=sizeLine:=by omega
 have lM:w.length<=sizeLine:=by omega
 have lX:0<w.length:=SD.mpr sw.ne
 have lw: ∀c∈w,Lt c:=fun c hc=>hy.lt c (sw.bE c hc)
 refine ⟨_,rfl,b,5,rfl,hb,by decide,by decide,fun fm H1 Vw oI s1=>?_⟩
 refine ⟨_,rfl,_,rfl,w,rfl,lM,b,_,rfl,oI,by omega,by omega,fun at' H2 WY h_ s2=>?_⟩
 have qu:=s1.trans s2
 have VD:at'<w.length:=by omega
 refine ⟨_,rfl,_,_,rfl,rfl,_,rfl,b5 (fun f0=>?_) (fun f0=>?_)⟩
 ·have hlen:(cut w (some (at':Int)) none).length+(cut w none (some (at':Int))).length<=sizeLine:=by rw[cQ,cY,Xx,Xm];omega
  have yr:cut w (some (at':Int)) none++cut w none (some (at':Int))=w.drop at'++w.take at':=by rw[cQ,cY]
  refine ⟨_,rfl,_,rfl,_,rfl,w,rfl,lM,_,rfl,_,rfl,_,rfl,w,rfl,lM,_,_,rfl,rfl,hlen,?_⟩
  rw[yr]
  exact q _ _ (sw.dJ (by omega)) (by rw[UD,Xx,Xm];omega) h_ qu
 ·refine ⟨_,rfl,_,_,rfl,rfl,_,rfl,b5 (fun f1=>?_) (fun f1=>?_)⟩
  ·refine ⟨rfl,_,rfl,w,rfl,by omega,?_⟩
   rw[sW]
   refine fS (xs:=cn w.reverse) (fun i acc H'=>aq H2 H'/\acc=cn ((w.reverse.take i).map aA)) (by rw[aN,XB];omega) ⟨aq.refl H2,rfl⟩ ?_ ?_
   ·rintro i x acc H3 Nx hi hx hl ⟨s3,rfl⟩ nx
    obtain ⟨c,nG,rfl⟩:=eT hx
    refine ⟨trivial,eV ⟨_,rfl,c,rfl,lw c (YA.mp (WQ nG)),nx _ _ (by simpa using hl) ⟨s3,?_⟩⟩⟩
    rw[cX, <-take_snoc nG,UH]
    rfl
   ·rintro acc H3 D hl ⟨s3,rfl⟩ hD
    refine ⟨D,(dA w).map fun c=>[c],rfl,rfl,bC.of ?_,?_,?_⟩
    ·rw[ah, <-eM,aN,Xz (OS _),YI]
     rfl
    ·rw[vz]
     unfold dA
     rw[XB,Kw]
     omega
    ·rw[mU]
     exact q _ _ (sw.dA hy) (by rw[bV];omega) ((h_.same s3).same (aq.upd hD)) (qu.after (s3.trans (aq.upd hD)))
  ·refine ⟨_,rfl,_,_,rfl,rfl,_,rfl,b5 (fun f2=>?_) (fun f2=>?_)⟩
   ·refine ⟨_,rfl,_,rfl,_,rfl,y,rfl,D4,b,_,rfl,h_,by omega,by omega,fun r H3 Tj ku s3=>?_⟩
    have zR:=qu.trans s3
    have hr:r<y.length:=by omega
    refine ⟨y,_,_,rfl,rfl,D4,b9 (Iw hr),?_⟩
    have yW:y[r]∈y:=XF hr
    generalize y[r]=c at yW ⊢
    have KU:=hy.lt c yW
    have hlen:(cut w none (some (at':Int))).length+[c].length<=sizeLine:=by rw[cQ,Xm];show _+1<=_;omega
    refine ⟨_,rfl,_,rfl,_,rfl,w,rfl,lM,_,rfl,_,_,rfl,rfl,hlen,?_⟩
    rw[cQ]
    have EB:(w.take at').length=at':=by rw[Xm];omega
    have N4:=sw.Er.take at'
    have J5: ∀a∈w.take at',a∈y:=fun a ha=>sw.bE a (YV ha)
    generalize w.take at'=u at EB N4 J5 ⊢
    have N5:(u++[c]).length=at'+1:=by rw[UD,EB];rfl
    have N6:u++[c]≠[]:=by simp
    have Tr: ∀a∈u++[c],a∈y:=fun a ha=>(Xn.mp ha).elim (J5 a) fun g=>by rw[Sz.mp g];exact yW
    have g0:m6 (u++[c]) (0:Int)=some (rd (u++[c]) 0):=kT (by omega) (by omega)
    have KI:cut (u++[c]) (some (-2)) none=(u++[c]).drop (at'+1 - 2):=by rw[Jg,N5]
    have Rx:((u++[c]).drop (at'+1 - 2)).length=at'+1 - (at'+1 - 2):=by rw[Xx,N5]
    have N7:(u++[c]).drop (at'+1 - 2)≠[]:=fun z=>by rw[z]at Rx;simp at Rx;omega
    have g2:m6 ((u++[c]).drop (at'+1 - 2)) (0:Int)=some (rd ((u++[c]).drop (at'+1 - 2)) 0):=kT (by omega) (by omega)
    have Ts:=Tr _ (iW N6 0)
    have Tt:=Tr _ (Zb (iW N7 0))
    have e0: ∀a,u.head? =some a->rd (u++[c]) 0=a:=fun a ha=>by
     have h1:=nQ N6
     cases u with
     | nil=>cases ha
     | cons x r=>exact (Xr (h1.symm.trans (show (x::r++[c]).head? =some a from ha)))
    have e2: ∀a,u.getLast? =some a->rd ((u++[c]).drop (at'+1 - 2)) 0=a:=fun a ha=>by
     have h1:=nQ N7
     have Jj:u≠[]:=fun z=>by rw[z]at ha;cases ha
     have ua:=SD.mpr Jj
     rw[ZN, Yw,XT (by omega)]at h1
     rw[YY, EB]at ha
     rw[show at'+1 - 2+0=at' - 1 by omega]at h1
     exact Xr (h1.symm.trans ha)
    generalize rd (u++[c]) 0=x0 at g0 Ts e0
    generalize rd ((u++[c]).drop (at'+1 - 2)) 0=x2 at g2 Tt e2
    refine ⟨_,rfl,_,rfl,_,_,_,rfl,rfl,by omega,g0,_,rfl,hy.lt _ Ts,?_⟩
    refine ⟨_,rfl,_,rfl,_,rfl,u++[c],rfl,by omega,?_⟩
    rw[KI]
    refine ⟨_,_,_,rfl,rfl,by rw[Rx];omega,g2,_,rfl,hy.lt _ Tt,by show 2<=sizeLine;decide,fun p np=>?_⟩
    have Ry:=ku.ne np
    have Tu:=zR.none np Ry
    refine ⟨p,_,rfl, .inl (bC.of ah),rfl,rfl,?_⟩
    have iv:=Fj c (aA x0) (aA x2)
    rw[show (if true=true then !Kv (.str (S [c])) [.str (S [aA x0]), .str (S [aA x2])] else Kv (.str (S [c])) [.str (S [aA x0]), .str (S [aA x2])])=!(decide (c=aA x0)||decide (c=aA x2)) by rw[if_pos rfl,iv]]
    refine ⟨_,rfl,b5 (fun f3=>?_) (fun f3=>?_)⟩
    ·have hn:c≠aA x0/\c≠aA x2:=by simpa using f3
     refine ⟨_,rfl,q (u++[c]) _ (SW.snoc hy N4 J5 yW (fun a ha=>by rw[<-e2 a ha];exact hn.2) fun a ha=>by rw[<-e0 a ha];exact hn.1) (by omega) (ku.cP Ry) (zR.cP Tu)⟩
    ·exact ⟨_,rfl,_,rfl,_,rfl,b,y,top,rfl,ku.cP Ry,hy,GA,rR,Bz,L8,fun l H4 hl EC rS s4=>q l H4 hl EC rS ((zR.cP Tu).trans s4)⟩
   ·exact ⟨_,rfl,_,rfl,_,rfl,b,y,top,rfl,h_,hy,GA,rR,Bz,L8,fun l H3 hl EC ku s3=>q l H3 hl EC ku (qu.trans s3)⟩
theorem Bk:bI P w K mg base fj 4 Lm LY ["_law_box_here","_law_yard_here","_law_many","_law_top"] (rO K):=by
 have lH:=rQ (P:=P) (w:=w) (base:=base) T
 have bA:=fi (P:=P) (w:=w) (base:=base) T
 have GC:=D6 (P:=P) (w:=w) (base:=base) T
 refine T.Pl.fn.ok jz (fun vs H Q E h=>yl h) (fun cJ A outer s H vs Q E hr h=>?_)
 refine ⟨_,(ag (ao (i:=4) jz.nd rfl (Or.inl rfl) (cT (aa (ak lH (hr.mono (by decide)) rfl T.EA.mg T.EA.fn.kp T.EA.bd .nil az (aa (pv 0) (aa (pv 1) (aa (pv 3) ae)))) ae)))
   (ag (cN PassesOwn.never rfl (gI rfl T.z_range (aa (ak bA (hr.mono (by decide)) rfl T.eE.mg T.eE.fn.kp T.eE.bd .nil az (aa (pv 0) (aa (pv 2) ae))) ae)) (aV (i:=5) jz.nd rfl (Or.inl rfl)) (ag (ao (i:=6) jz.nd rfl (Or.inl rfl) (aR (aZ K rfl) (pv 4) (ak bA (hr.mono (by decide)) rfl T.eE.mg T.eE.fn.kp T.eE.bd .nil az (aa (pv 0) (aa (aC (aX K rfl) rfl T.z_len Xl (aa (pv 4) ae)) ae))) (fun _ _=>rfl)))
   (ai (bO (aL j4 (ak bA (hr.mono (by decide)) rfl T.eE.mg T.eE.fn.kp T.eE.bd .nil az (aa (pv 0) (aa aj ae))) aj (aU _)) (ai (dM (bU K rfl XG Yn Ym eJ (pv 4) (aa (ak lH (hr.mono (by decide)) rfl T.EA.mg T.EA.fn.kp T.EA.bd .nil az (aa (pv 0) (aa (pv 1) (aa (pv 3) ae)))) ae)))) (ai (dM (bU K rfl XG Yn Ym eJ (pv 4) (aa (ak GC (hr.mono (by decide)) rfl T.Pk.mg T.Pk.fn.kp T.Pk.bd .nil az (aa (pv 0) (aa (pv 1) (aa (pv 6) (aa (pv 3) ae))))) ae))))))))
   (ai (aG (cK (dU K rfl) rfl T.z_tuple boot_tuple (aa (pv 4) ae)))))),?_⟩
 obtain ⟨b,y,many,top,rfl,hb,hy,GA,rR,Kz,Ep,Bz,L8,q⟩:=h
 have hs:(100000:Nat)<sizeLine:=by decide
 refine ⟨_,rfl,_,rfl,_,rfl,b,y,top,rfl,hb,hy,GA,rR,Bz,by omega,fun w1 H1 VE VF oI s1=>?_⟩
 refine ⟨by show 1<=sizeLine;decide,fun t nt=>?_⟩
 have tb:t≠b:=oI.ne nt
 have Rz:=s1.none nt tb
 have N8:upd H1 t (.lst [.str (S w1)]) t=some (.lst (gX [w1])):=ah
 have h_:=oI.cP (o:= .lst [.str (S w1)]) tb
 have s2:=s1.cP (o:= .lst [.str (S w1)]) Rz
 generalize upd H1 t (.lst [.str (S w1)])=H2 at N8 h_ s2 ⊢
 refine ⟨_,rfl,_,rfl,b,many,rfl,h_,by omega,by omega,fun r H3 hr ku s3=>?_⟩
 refine ⟨_,rfl,by omega,by omega,?_⟩
 rw[UG]
 have WZ:r<many:=by omega
 refine fM (fun i σ H'=> ∃(ws:List (List Nat)) (kv ov:Option V),σ=[some (.ref b),some (.str (S y)),some (.int many),some (.int top),some (.ref t),kv,ov]/\H' t=some (.lst (gX ws))/\ws.length=i+1/\(∀w∈ws,SW y w/\w.length<=top)/\bY H' b/\aT b H H')
  ⟨[w1],none,none,rfl,s3 _ _ N8 tb,rfl,fun w hw=>by rw[Sz.mp hw];exact ⟨VE,VF⟩,ku,s2.trans s3⟩ ?_ ?_
 ·rintro i σ H4 hi ⟨ws,kv,ov,rfl,Hy,RA,N9,rS,s4⟩
  refine ⟨_,rfl,_,rfl,_,rfl,t,_,rfl, .inl (bC.of Hy),b,_,rfl,rS,by rw[cj];omega,by rw[cj];omega,fun r5 H5 PB GD s5=>?_⟩
  rw[cj]at PB
  have N_:r5<ws.length:=by omega
  refine ⟨t,_,_,_,rfl,rfl,bC.of (s5 _ _ Hy tb),b9 (iT N_),?_⟩
  obtain ⟨so,lo⟩:=N9 _ (XF N_)
  generalize ws[r5]=one at so lo ⊢
  refine ⟨_,rfl,b,3,rfl,GD,by decide,by decide,fun r6 H6 W0 GF s6=>?_⟩
  have PD:=s6 _ _ (s5 _ _ Hy tb) tb
  have GG:=s4.trans (s5.trans s6)
  refine ⟨_,_,rfl,rfl,_,rfl,b5 (fun f=>?_) (fun f=>?_)⟩
  ·refine ⟨_,rfl, .inl ⟨rfl,_,bC.of PD⟩,_,rfl,_,rfl,_,rfl,b,y,top,rfl,GF,hy,GA,rR,Bz,by omega,fun w7 H7 RB RC Oa s7=>?_⟩
   refine ⟨t,gX ws,_,rfl,rfl,s7 _ _ PD tb,by rw[cj];omega,?_⟩
   refine ⟨ws++[w7],_,_,rfl,by rw[ah,kN],by rw[UD,RA];rfl,fun w hw=>?_,Oa.cP tb,(GG.trans s7).cP Rz⟩
   rcases Xn.mp hw with g | g
   ·exact N9 w g
   ·rw[Sz.mp g];exact ⟨RB,RC⟩
  ·refine ⟨_,rfl, .inl ⟨rfl,_,bC.of PD⟩,_,rfl,_,rfl,_,rfl,_,rfl,b,y,one,top,rfl,GF,hy,GA,rR,Bz,by omega,so,lo,fun w7 H7 RB RC Oa s7=>?_⟩
   refine ⟨t,gX ws,_,rfl,rfl,s7 _ _ PD tb,by rw[cj];omega,?_⟩
   refine ⟨ws++[w7],_,_,rfl,by rw[ah,kN],by rw[UD,RA];rfl,fun w hw=>?_,Oa.cP tb,(GG.trans s7).cP Rz⟩
   rcases Xn.mp hw with g | g
   ·exact N9 w g
   ·rw[Sz.mp g];exact ⟨RB,RC⟩
 ·rintro σ H4 ⟨ws,kv,ov,rfl,Hy,RA,N9,rS,s4⟩
  refine ⟨_,rfl,t,_,rfl, .inl ⟨bC.of Hy,fun u nu=>?_⟩⟩
  have ub:u≠b:=rS.ne nu
  have Tv:=s4.none nu ub
  exact q u ws _ Tv ub ah (by omega) (by omega) N9 (rS.cP ub) (s4.cP Tv)
theorem nB:bI P w K mg base fj 1 f8 d8 ["some"] (ig K):=by
 refine T.F8.fn.ok dv (fun vs H Q E h=>mr h) (fun cJ A outer s H vs Q E hr h=>?_)
 refine ⟨_,(ag (ao (i:=1) dv.nd rfl (Or.inl rfl) vg)
   (ag (cN PassesOwn.never rfl (gJ K rfl (pv 0)) (aV (i:=2) dv.nd rfl (Or.inl rfl)) (ag (ao (i:=3) dv.nd rfl (Or.inl rfl) (aC (qE rfl) rfl T.z_min boot_min (aa (aR (bD K rfl) (pv 2) aj (fun _ _=>rfl)) (aa (aR (bD K rfl) (pv 2) aj (fun _ _=>rfl)) ae))))
   (ag (kK (iL hr) (pv 1) (aR (bD K rfl) (pv 2) aj (fun _ _=>rfl)) (pv 3) rfl)
   (ai (kK (iL hr) (pv 1) (aR (bD K rfl) (pv 2) aj (fun _ _=>rfl)) (pv 3) rfl)))))
   (ai (aG (pv 1))))),?_⟩
 obtain ⟨a,qs,rfl,ha,hq,hn,nd,q⟩:=h
 have hs:(100000:Nat)<sizeLine:=by decide
 walk_at "wk"
 intro d Hz
 have Tw:a≠d:=ay ha Hz
 refine ⟨_,rfl,a,rfl,⟨_,bC.of (by rw[au Tw];exact ha)⟩,?_⟩
 refine kz (K:=K) (a:=a) (xs:=nk qs) (fun k σ H'=> ∃(cv fv:Option V),σ=[some (.ref a),some (.ref d),cv,fv]/\H' d=some (.dK (gg ((qs.take k).map Q4.v)))/\aT d H H')
  ⟨none,none,rfl,ah,fun b o e z=>by rw[au z];exact e⟩ (fun k σ H' _ ⟨_,_,_,_,h⟩=>bC.of (h _ _ ha Tw)) ?_ ?_
 ·rintro k x σ H1 hx ⟨cv,fv,rfl,hd,s1⟩
  obtain ⟨c,hc,rfl⟩:=Jz hx
  have hk:k<qs.length:=(Iy.mp hc).1
  have tc:=hq c (WQ hc)
  have m4:c.t≠d:=fun z=>by have h9:H c.t=_:=tc;rw[z,Hz]at h9;cases h9
  have PH:qp H1 c:=s1 _ _ tc m4
  have lc:(gg ((qs.take k).map Q4.v)).length<=2000:=by rw[vV,Kw,Xm];omega
  have e:(qs.take (k+1)).map Q4.v=(qs.take k).map Q4.v++[c.v]:=by rw[<-take_snoc hc,UH];rfl
  have Tx:(du ((qs.take k).map Q4.v++[c.v])).Nodup:=by
   rw[<-e]
   have:qs.map Q4.v=(qs.take (k+1)).map Q4.v++(qs.drop (k+1)).map Q4.v:=by rw[<-UH,X3]
   rw[this]at nd
   unfold du at nd ⊢
   rw[X5,Ye]at nd
   exact nd.1
  refine ⟨_,rfl,c.t,_,2,_,rfl,rfl,cS.of PH,rfl,_,rfl,c.t,_,3,_,rfl,rfl,cS.of PH,rfl,_,_,rfl,?_⟩
  refine ⟨_,rfl,_,rfl,_,rfl,c.t,_,2,_,rfl,rfl,cS.of PH,rfl,d,_,rfl,oE.k (k:=Sum.inl (c.v.2.2.1:Int)) hd (by omega),?_⟩
  have VG: ∀o,qp (L2.upd H1 d o) c:=fun o=>by show L2.upd H1 d o c.t=_;rw[au m4];exact PH
  refine ⟨_,rfl,_,rfl,_,rfl,c.t,_,3,_,rfl,rfl,cS.of (VG _),rfl,d,_,rfl,oE.k (k:=Sum.inl (c.v.2.2.2:Int)) ah (XN (gi _ _ _) (by omega)),?_⟩
  refine ⟨_,_,rfl,?_,fun b o eb z=>by rw[au z,au z];exact s1 b o eb z⟩
  rw[ah,e, <-Gh Tx]
  rfl
 ·rintro σ H1 ⟨cv,fv,rfl,hd,s1⟩
  rw[zB,Yq]at hd
  exact ⟨_,rfl,q d H1 Hz hd fun b o eb=>s1 b o eb (ay eb Hz)⟩
theorem ux:bI P w K mg base fj 1 f9 d9 ["rising","point"] (lq K):=by
 refine T.F9.fn.ok de (fun vs H Q E h=>qq h) (fun cJ A outer s H vs Q E hr h=>?_)
 refine ⟨_,(ag (ao (i:=2) de.nd rfl (Or.inl rfl) aj)
   (ag (ao (i:=3) de.nd rfl (Or.inl rfl) (aD dh (aC (aX K rfl) rfl T.z_len Xl (aa (pv 0) ae)) aj))
   (ag (dF PassesOwn.never (aL mO (pv 2) (pv 3) (aU _)) (ag (ao (i:=4) de.nd rfl (Or.inl rfl) (aD eY (aD bz (pv 2) (pv 3)) aj))
   (ai (bO (aL mO (aR (aZ K rfl) (pv 0) (pv 4) (fun _ _=>rfl)) (pv 1) (aU _)) (ai (ao (i:=2) de.nd rfl (Or.inl rfl) (aD bz (pv 4) aj))) (ai (ao (i:=3) de.nd rfl (Or.inl rfl) (pv 4)))))))
   (ai (aG (pv 2)))))),?_⟩
 obtain ⟨a,l,p,rfl,ha,up,hp,hn,q⟩:=h
 have hs:(100000:Nat)<sizeLine:=by decide
 have hi:=SA hp
 have RD:l[l.idxOf p]=p:=Ya hi
 have key:=YC.mp up
 refine ⟨_,rfl,a,_,rfl, .inl (bC.of ha),?_⟩
 rw[lj]
 walk_at "wk"
 refine ⟨fun m σ H'=> ∃(lo hi:Nat) (mv:Option V),σ=[some (.ref a),some (.int p),some (.int lo),some (.int hi),mv]/\m=hi - lo/\lo<=l.idxOf p/\l.idxOf p<=hi/\hi<l.length/\H'=H,⟨_,0,l.length - 1,none,?_,rfl,WO _,by omega,by omega,rfl⟩,?_⟩
 ·have:((l.length:Int) - 1)=((l.length - 1:Nat):Int):=by omega
  rw[<-this];rfl
 rintro m σ H2 ⟨lo,nJ,mv,rfl,rfl,h1,h2,h3,rfl⟩
 walk_at "wk"
 refine b5 (fun z=>?_) (fun z=>?_)
 ·have z1:(lo:Int)<nJ:=of_decide_eq_true z
  have em:(((lo:Int)+nJ) / 2)=(((lo+nJ) / 2:Nat):Int):=by omega
  have hm:(lo+nJ) / 2<l.length:=by omega
  walk_at "rd"
  refine ⟨a,_,((lo:Int)+nJ) / 2,_,rfl,rfl,bC.of ha,by rw[em];exact b9 (Dr (Iw hm)),?_⟩
  walk_at "rd"
  refine b5 (fun y=>?_) (fun y=>?_)
  ·have y1:((l[(lo+nJ) / 2]:Nat):Int)<p:=of_decide_eq_true y
   have lt:(lo+nJ) / 2<l.idxOf p:=by
    refine Classical.byContradiction fun w=>?_
    by_cases e:(lo+nJ) / 2=l.idxOf p
    ·have:l[(lo+nJ) / 2]=p:=by simp only[e];exact RD
     omega
    ·have:=key (l.idxOf p) ((lo+nJ) / 2) hi hm (by omega)
     rw[RD]at this
     omega
   walk_at "rd"
   have e1:((lo:Int)+nJ) / 2+1=(((lo+nJ) / 2+1:Nat):Int):=by omega
   refine ⟨nJ - ((lo+nJ) / 2+1),by omega,(lo+nJ) / 2+1,nJ,_,by rw[<-e1];rfl,rfl,by omega,h2,h3,rfl⟩
  ·have y1: ¬((l[(lo+nJ) / 2]:Nat):Int)<p:=fun w=>y (decide_eq_true w)
   have le:l.idxOf p<=(lo+nJ) / 2:=by
    refine Classical.byContradiction fun w=>?_
    have:=key ((lo+nJ) / 2) (l.idxOf p) hm hi (by omega)
    rw[RD]at this
    omega
   walk_at "rd"
   refine ⟨(lo+nJ) / 2 - lo,by omega,lo,(lo+nJ) / 2,_,by rw[<-em];rfl,rfl,h1,le,by omega,rfl⟩
 ·have z1: ¬(lo:Int)<nJ:=fun w=>z (decide_eq_true w)
  have e:lo=l.idxOf p:=by omega
  walk_at "rd"
  rw[e]
  exact q
theorem gs:bI P w K mg base fj 2 KW Lv ["some"] (gp K):=by
 have pT:=nB (P:=P) (w:=w) (base:=base) T
 have wq:=ux (P:=P) (w:=w) (base:=base) T
 refine T.Bd.fn.ok bH (fun vs H Q E h=>kf h) (fun cJ A outer s H vs Q E hr h=>?_)
 refine ⟨_,(ag (ao (i:=1) bH.nd rfl (Or.inl rfl) (ak pT (hr.mono (by decide)) rfl T.F8.mg T.F8.fn.kp T.F8.bd .nil az (aa (pv 0) ae)))
   (ag (ao (i:=2) bH.nd rfl (Or.inl rfl) (cT ae))
   (ag (ao (i:=3) bH.nd rfl (Or.inl rfl) aj)
   (ag (cN PassesOwn.never rfl (gJ K rfl (aC (qh rfl) rfl T.z_sorted boot_sorted (aa (pv 1) ae))) (aV (i:=4) bH.nd rfl (Or.inl rfl)) (ai (bO (aL j4 (kJ (iL hr) (pv 1) (pv 4) (fun _ _=>rfl)) (pv 4) (aU _)) (ai (dM (bU K rfl XG Yn Ym eJ (pv 2) (aa (pv 4) ae)))) (ag (ao (i:=5) bH.nd rfl (Or.inl rfl) (ak wq (hr.mono (by decide)) rfl T.F9.mg T.F9.fn.kp T.F9.bd .nil az (aa (pv 2) (aa (kJ (iL hr) (pv 1) (pv 4) (fun _ _=>rfl)) ae))))
   (ag (dM (bU K rfl XG YR YQ kC (pv 2) (aa (pv 5) ae)))
   (ai (jW (i:=3) bH.nd rfl (Or.inl rfl) (aD dh (aC (aX K rfl) rfl T.z_len Xl (aa (pv 2) ae)) (pv 5)) r_)))))))
   (ai (aG (pv 3))))))),?_⟩
 obtain ⟨a,qs,rfl,ha,hq,hn,nd,q⟩:=h
 have hs:(100000:Nat)<sizeLine:=by decide
 refine ⟨_,rfl,a,qs,rfl,ha,hq,by omega,nd,fun d H1 Tx hd s1=>?_⟩
 have VH:(qs.map Q4.v).length<=24:=by rw[Kw];exact hn
 generalize qs.map Q4.v=cs at nd hd q VH
 have kl:=vV cs
 have W2:(du cs).length=2*cs.length:=by
  have:=congrArg List.length (gR cs)
  rw[Kw,Kw]at this
  omega
 walk_at "wk"
 intro b nb
 have Tz:d≠b:=ay hd nb
 have hd2:L2.upd H1 b (.lst []) d=some (.dK (gg cs)):=by rw[au Tz];exact hd
 have sb:=aq.upd (o:= .lst []) nb
 refine ⟨_,rfl,d,_,(du cs).map fun n:Nat=>(n:Int),rfl,hd2,by rw[gR,X4];rfl,by rw[Kw];omega,fun p2 ms n2 uv N2=>?_⟩
 obtain ⟨P,eP,pP,uP⟩:=x5 nd uv N2
 rw[eP]
 have ch:=JF nd pP uP
 have lP:P.length<=2000:=by rw[pP.length_eq];omega
 have TB:p2≠b:=fun z=>by rw[z,ah]at n2;cases n2
 have s2:=sb.trans (aq.upd (o:= .lst (ins P)) n2)
 refine ⟨p2,rfl,⟨_,bC.of ah⟩,?_⟩
 refine kz (K:=K) (a:=p2) (xs:=ins P) (fun k σ H'=> ∃(m:Nat) (pv nv:Option V),σ=[some (.ref a),some (.ref d),some (.ref b),some (.int m),pv,nv]/\H' b=some (.lst (ins (nV (cF cs) (P.take k) (P.drop k))))/\m+Eu (cF cs) (P.take k) (P.drop k)=Eu (cF cs) [] P/\aT b (L2.upd (L2.upd H1 b (.lst [])) p2 (.lst (ins P))) H')
  ⟨0,none,none,rfl,by rw[au (Ne.symm TB),ah];rfl,by rw[ZJ];rfl,aT.refl _ _⟩ (fun k σ H' _ ⟨_,_,_,_,_,_,h⟩=>bC.of (h _ _ ah TB)) ?_ ?_
 ·rintro k x σ H3 hx ⟨m,pv,nv,rfl,hb,hm,s3⟩
  obtain ⟨p,hp,rfl⟩: ∃p,P[k]? =some p/\x=V.int (p:Nat):=by
   unfold ins at hx
   rw[Xo]at hx
   cases e:P[k]? with
   | none=>rw[e]at hx;cases hx
   | some p=>rw[e]at hx;cases hx;exact ⟨p,rfl,rfl⟩
  have hk:k<P.length:=(Iy.mp hp).1
  have VI:p∈du cs:=pP.mem_iff.mp (WQ hp)
  have TC:=JH nd VI
  have HA:H3 d=some (.dK (gg cs)):=s3 _ _ (s2 _ _ hd) Tz
  have TF:P=P.take k++p::P.drop (k+1):=by
   have:=X3 k P
   rw[X_ hk,(Iy.mp hp).2]at this
   exact this.symm
  have RE:P.drop k=p::P.drop (k+1):=by rw[X_ hk,(Iy.mp hp).2]
  have Ob:P.take (k+1)=P.take k++[p]:=(take_snoc hp).symm
  have bl:(nV (cF cs) (P.take k) (P.drop k)).length<=2000:=XM Gi (by rw[Xm];omega)
  have vI:=Du (st:=cF cs) hp
  refine ⟨_,rfl,_,rfl,d,_,rfl,by rw[<-TC];exact j5.k (k:=Sum.inl (p:Int)) HA,?_⟩
  walk_at "rd"
  refine b5 (fun z=>?_) (fun z=>?_)
  ·have z1:cF cs p=p:=by have:=of_decide_eq_true z;omega
   refine ⟨_,rfl, .inl ⟨rfl,_,bC.of hb⟩,_,rfl,b,_,_,rfl,rfl,hb,by rw[lj];omega,?_⟩
   refine ⟨m,_,_,rfl,?_,?_,s3.trans (aT.upd _ _ _)⟩
   ·rw[ah,Dq,Ob,Dj ch TF z1, <-RE]
   ·have e0:A2 (cF cs) (P.take k) (P.drop (k+1)) p=0:=by unfold A2;rw[if_pos z1]
    omega
  ·have z1:cF cs p≠p:=fun w=>z (decide_eq_true (by rw[w]))
   obtain ⟨en,em⟩:=JC ch TF z1
   rw[<-RE]at en em
   have up:=JG (st:=cF cs) uP (X3 k P).symm (P.drop k)
   have xh:=SA em
   refine ⟨_,rfl,_,rfl,_,rfl,d,_,rfl,by rw[<-TC];exact j5.k (k:=Sum.inl (p:Int)) HA,b,_,cF cs p,rfl,hb,up,em,by omega,?_⟩
   refine ⟨_,rfl, .inl ⟨rfl,_,bC.of hb⟩,_,rfl,b,_,_,_,_,rfl,rfl,hb,by omega,by omega,?_,Dr (Iw xh),?_⟩
   ·rw[lj]
    exact Ht xh
   have ee:(ins (nV (cF cs) (P.take k) (P.drop k))).eraseIdx ((nV (cF cs) (P.take k) (P.drop k)).idxOf (cF cs p))=ins (nV (cF cs) (P.take (k+1)) (P.drop (k+1))):=by
    rw[Ob,en, <-Dt em]
    exact rD _ _
   rw[ee]
   refine ⟨_,rfl,_,rfl,b,_,rfl, .inl (bC.of ah),?_⟩
   walk_at "rd"
   have bh:=behind up em
   have lb:(nV (cF cs) (P.take (k+1)) (P.drop (k+1))).length=((nV (cF cs) (P.take k) (P.drop k)).erase (cF cs p)).length:=by rw[Ob,en]
   have le:((nV (cF cs) (P.take k) (P.drop k)).erase (cF cs p)).length+1=(nV (cF cs) (P.take k) (P.drop k)).length:=by rw[List.length_erase_of_mem em];omega
   have ec:A2 (cF cs) (P.take k) (P.drop (k+1)) p=((nV (cF cs) (P.take k) (P.drop k)).filter fun x=>decide (cF cs p<x)).length:=by unfold A2;rw[if_neg z1,RE]
   have ei:(m:Int)+(((ins (nV (cF cs) (P.take (k+1)) (P.drop (k+1)))).length:Nat) - ((nV (cF cs) (P.take k) (P.drop k)).idxOf (cF cs p):Nat))=((m+A2 (cF cs) (P.take k) (P.drop (k+1)) p:Nat):Int):=by rw[lj];omega
   exact ⟨m+A2 (cF cs) (P.take k) (P.drop (k+1)) p,some (.int p),some (.int ((nV (cF cs) (P.take k) (P.drop k)).idxOf (cF cs p):Nat)),by rw[<-ei];rfl,ah,by omega,s3.trans (aT.upd _ _ _)⟩
 ·rintro σ H3 ⟨m,pv,nv,rfl,hb,hm,s3⟩
  rw[lj,List.drop_length,Yq]at hm
  have Ep:m=Eu (cF cs) [] P:=hm
  refine ⟨_,rfl,?_⟩
  rw[Ep,NX ch]
  exact q H3 fun c o e=>s3 c o (s2 c o (s1 c o e)) (ay e (aq.free s1 nb))
theorem Bl:bI P w K mg base fj 3 f5 d5 ["yard","drawing"] (rA K):=by
 have uy:=qr (P:=P) (w:=w) (base:=base) T
 refine T.F5.fn.ok jx (fun vs H Q E h=>xY h) (fun cJ A outer s H vs Q E hr h=>?_)
 refine ⟨_,(ag (ao (i:=2) jx.nd rfl (Or.inl rfl) (cT ae))
   (ag (cN PassesOwn.never rfl (jZ (pv 0)) (aV (i:=3) jx.nd rfl (Or.inl rfl)) (ai (cN PassesOwn.never rfl (gJ K rfl (ak uy (hr.mono (by decide)) rfl T.F4.mg T.F4.fn.kp T.F4.bd .nil az (aa (pv 0) (aa (pv 1) (aa (pv 3) ae))))) (aV (i:=4) jx.nd rfl (Or.inl rfl)) (ai (dM (bU K rfl XG Yn Ym eJ (pv 2) (aa (cB (aa (aR (bD K rfl) (pv 4) aj (fun _ _=>rfl)) (aa (aR (bD K rfl) (pv 4) aj (fun _ _=>rfl)) (aa (pv 3) ae)))) ae)))))))
   (ai (aG (pv 2))))),?_⟩
 obtain ⟨y,dr,ws,os,rfl,hy,hz,ho,hd,q⟩:=h
 have hs:(100000:Nat)<sizeLine:=by decide
 walk_at "wk"
 intro p1 n1
 refine ⟨_,rfl,y,rfl,?_⟩
 refine sF (xs:=cn y) (fun i σ H'=> ∃(ps:List Pt) (ev sv:Option V),σ=[some (.str (S y)),some (.ref dr),some (.ref p1),ev,sv]/\H' p1=some (.lst (Et ps))/\(∀p∈ps,qm H' p/\p.t≠p1)/\ps.map Pt.is=(y.take i).flatMap (fG y os)/\ps.length<=100*i/\aT p1 H H') ⟨[],none,none,rfl,ah,fun _ h=>absurd h Xu,rfl,WO _,aT.of (aq.upd n1)⟩ ?_ ?_
 ·rintro i x σ H1 hx ⟨ps,ev,sv,rfl,hp,zQ,p_,km,s1⟩
  obtain ⟨e,he,rfl⟩:=eT hx
  have t6:=WQ he
  have hi:i<y.length:=(Iy.mp he).1
  have J6:aq H H1:=fun a u ea=>s1 a u ea (ay ea n1)
  refine ⟨_,rfl,_,rfl,_,rfl,y,dr,ws,os,e,rfl,hy,hz,t6,ho,hd.same J6,fun p2 H2 n2 oF s2=>?_⟩
  have N5:=Ge (H:=H) hy t6 ho hd.od
  refine ⟨p2,rfl,⟨_,bC.of oF⟩,?_⟩
  have VJ:p2≠p1:=fun z=>by rw[z,hp]at n2;cases n2
  refine kz (K:=K) (a:=p2) (xs:=rz (nU y os e)) (fun j σ H'=> ∃(us:List Pt) (sv:Option V),σ=[some (.str (S y)),some (.ref dr),some (.ref p1),some (.str (S [e])),sv]/\H' p1=some (.lst (Et us))/\H' p2=some (.lst (rz (nU y os e)))/\(∀p∈us,qm H' p/\p.t≠p1)/\us.map Pt.is=ps.map Pt.is++((nU y os e).take j).map (fun p=>(p.c,p.i,e))/\us.length<=100*i+j/\aT p1 H1 H')
   ⟨ps,sv,rfl,s2 _ _ hp,oF,fun p xN=>⟨(zQ p xN).1.same s2,(zQ p xN).2⟩,by simp,by omega,aT.of s2⟩ (fun j σ H' _ ⟨_,_,_,_,h,_⟩=>bC.of h) ?_ ?_
  ·rintro j x σ H3 RF ⟨us,VL,rfl,wo,Oc,Oe,Bj,EB,s3⟩
   obtain ⟨p,RG,rfl⟩:=C5 RF
   obtain ⟨o,oo,po⟩:=Gd hy t6 ho (WQ RG)
   have hj:j<(nU y os e).length:=(Iy.mp RG).1
   have zR:aq H H3:=fun a u ea=>s3 a u (J6 a u ea) (ay ea n1)
   have pk:=(hd.od o oo).pr p po
   have tp:=zR _ _ pk.tp
   refine ⟨_,rfl, .inl ⟨rfl,_,bC.of wo⟩,?_⟩
   refine ⟨_,rfl,p.t,_,0,_,rfl,rfl,cS.of tp,rfl,_,rfl,p.t,_,1,_,rfl,rfl,cS.of tp,rfl,?_⟩
   walk_at "wk"
   intro t nt
   have Bz:t≠p1:=fun z=>by rw[z,wo]at nt;cases nt
   refine ⟨p1,_,_,rfl,rfl,(aq.upd nt) _ _ wo,by rw[zy];omega,?_⟩
   refine ⟨us++[⟨t,p.c,p.i,e⟩],_,rfl,by rw[ah];exact congrArg (fun x=>some (HO.lst x)) (C7 us ⟨t,p.c,p.i,e⟩),by rw[au VJ];exact (aq.upd nt) _ _ Oc,fun r hr=>?_,?_,by rw[UD];show us.length+1<=_;omega,fun a u ea z=>by rw[au z];exact (aq.upd nt) _ _ (s3 a u ea z)⟩
   ·rcases Xn.mp hr with z | z
    ·exact ⟨((Oe r z).1.same (aq.upd nt)).upd (Oe r z).2,(Oe r z).2⟩
    ·have e2:=Sz.mp z
     subst e2
     exact ⟨qm.upd ⟨ah,pk.cz,pk.iz,(hy.lt e t6).lt⟩ Bz,Bz⟩
   ·rw[UH,Bj, <-take_snoc RG,UH,Yj]
    rfl
  ·rintro σ H3 ⟨us,VL,rfl,wo,Oc,Oe,Bj,EB,s3⟩
   rw[t5]at EB Bj
   refine ⟨us,_,_,rfl,wo,Oe,?_,by omega,fun a u ea z=>s3 a u (s1 a u ea z) z⟩
   rw[Bj,p_, <-take_snoc he,X5,Yq,XS,Qaj,XZ]
   rfl
 ·rintro σ H1 ⟨ps,ev,sv,rfl,hp,zQ,p_,km,s1⟩
  rw[aN]at km p_
  rw[Yq]at p_
  exact ⟨_,rfl,q p1 ps H1 n1 hp zQ p_ (by omega) (fun a u ea=>s1 a u ea (ay ea n1))⟩
theorem pU:bI P w K mg base fj 4 f7 d7 ["yard","drawing"] (oV K):=by
 have D7:=Bl (P:=P) (w:=w) (base:=base) T
 have nC:=mL (P:=P) (w:=w) (base:=base) T
 refine T.F7.fn.ok cG (fun vs H Q E h=>vS h) (fun cJ A outer s H vs Q E hr h=>?_)
 refine ⟨_,(ag (ao (i:=2) cG.nd rfl (Or.inl rfl) Ce)
   (ag (cN PassesOwn.never rfl (Ca K rfl rfl T.z_enumerate (aa (ak D7 (hr.mono (by decide)) rfl T.F5.mg T.F5.fn.kp T.F5.bd .nil az (aa (pv 0) (aa (pv 1) ae))) ae)) (nM (n:=2) K rfl rfl (eX (aV (i:=3) cG.nd rfl (Or.inl rfl)) (eX (aV (i:=4) cG.nd rfl (Or.inl rfl)) nH))) (ai (kK (iL hr) (pv 2) (pv 4) (pv 3) rfl)))
   (ag (ao (i:=5) cG.nd rfl (Or.inl rfl) (cT ae))
   (ag (cN PassesOwn.never rfl (vc K rfl rfl T.z_enumerate (aa (aR (bD K rfl) (pv 1) aj (fun _ _=>rfl)) ae)) (nM (n:=2) K rfl rfl (eX (aV (i:=6) cG.nd rfl (Or.inl rfl)) (eX (aV (i:=7) cG.nd rfl (Or.inl rfl)) nH))) (ai (cN PassesOwn.never rfl (gI rfl T.z_range (aa (aC aQ rfl T.z_len Xl (aa (pv 7) ae)) ae)) (aV (i:=8) cG.nd rfl (Or.inl rfl)) (ag (ao (i:=9) cG.nd rfl (Or.inl rfl) (ak nC (hr.mono (by decide)) rfl T.F6.mg T.F6.fn.kp T.F6.bd .nil az (aa (pv 7) (aa (pv 6) (aa (pv 8) ae)))))
   (ai (dM (bU K rfl XG Yn Ym eJ (pv 5) (aa (cB (aa (pv 6) (aa (pv 8) (aa (kJ (iL hr) (pv 2) (aR (bD K rfl) (pv 9) aj (fun _ _=>rfl)) (fun _ _=>rfl)) (aa (kJ (iL hr) (pv 2) (aR (bD K rfl) (pv 9) aj (fun _ _=>rfl)) (fun _ _=>rfl)) ae))))) ae))))))))
   (ai (aG (pv 5))))))),?_⟩
 obtain ⟨y,dr,ws,os,rfl,hy,hz,wL,PJ,hd,q⟩:=h
 have hs:(100000:Nat)<sizeLine:=by decide
 have VM:=C_ hy PJ
 have VN:=gO hy
 have Jy:=PJ.1
 have W3:=wL.wD
 obtain ⟨⟨wt,ot,d1,d2,d3⟩,dO⟩:=id hd
 walk_at "wk"
 intro d nd
 refine ⟨_,rfl,_,rfl,y,dr,ws,os,rfl,hy,hz,by omega,hd.same (aq.upd nd),fun p1 ps H1 n1 ua zQ p_ Rg s1=>?_⟩
 have TH:=s1 _ _ (ah (H:=H) (a:=d) (o:=HO.dT []))
 have J6:aq H H1:=(aq.upd nd).trans s1
 have km:ps.length=(ko y os).length:=by rw[<-p_,Kw]
 refine ⟨p1,rfl,⟨_,bC.of ua⟩,?_⟩
 have VO:p1≠d:=fun z=>by rw[z,ah]at n1;cases n1
 refine Ar (K:=K) (a:=p1) (xs:=Et ps) (fun i σ H'=> ∃(aP:List (List Key×V)) (nv pv:Option V),σ=[some (.str (S y)),some (.ref dr),some (.ref d),nv,pv,none,none,none,none,none]/\H' d=some (.dT aP)/\Nums (ko y os) aP i/\aP.length<=i/\aT d H1 H')
  ⟨[],none,none,rfl,TH,fun p hp=>absurd hp (by simp),WO _,aT.refl _ _⟩ (fun i σ H' _ ⟨_,_,_,_,_,_,_,h⟩=>bC.of (h _ _ ua VO)) ?_ ?_
 ·rintro i x σ H2 T hx ⟨aP,nv,pv,rfl,hd2,GH,VP,s2⟩ nT
  obtain ⟨p,hp,rfl⟩: ∃p,ps[i]? =some p/\x=V.ref p.t:=by
   unfold Et at hx
   rw[Xo]at hx
   cases e:ps[i]? with
   | none=>rw[e]at hx;cases hx
   | some p=>rw[e]at hx;cases hx;exact ⟨p,rfl,rfl⟩
  have hi:i<ps.length:=(Iy.mp hp).1
  have pk:=(zQ p (WQ hp)).1.tp
  have VQ:p.t≠d:=fun z=>by rw[z,TH]at pk;cases pk
  have VR:d≠T:=ay hd2 nT
  refine ⟨T,_,rfl,cS.of ah,rfl,_,_,rfl,_,_,rfl,rfl,?_⟩
  refine ⟨_,rfl,_,rfl,_,rfl,d,_,rfl,oE.t (k:=t9 p.is) (by rw[au VR];exact hd2) ((aq.upd nT) _ _ (s2 _ _ pk VQ)) (by omega),?_⟩
  exact ⟨_,_,_,rfl,ah,GH.put VM (NW p_ hp),XM (gi _ _ _) (by omega),fun a o ea z=>by rw[au z];exact (aq.upd nT) _ _ (s2 a o ea z)⟩
 ·rintro σ H2 ⟨aP,nv,pv,rfl,hd2,GH,VP,s2⟩
  rw[zy,km]at GH
  have HB: ∀p∈ko y os,cW aP (t9 p)=some (.int ((ko y os).idxOf p:Nat)):=fun p hp=>GH p (by rw[Yq];exact hp)
  have qu:aq H H2:=fun a o ea=>s2 a o (J6 a o ea) (ay ea nd)
  walk_at "wk"
  intro p2 n2
  have RH:=aq.upd (o:= .lst []) n2
  have VS:H p2=none:=aq.free qu n2
  refine ⟨_,rfl,dr,_,0,_,rfl,rfl,cS.of (RH _ _ (qu _ _ d1)),rfl,?_⟩
  refine ⟨wt,rfl,⟨_,cS.of (RH _ _ (qu _ _ d2))⟩,?_⟩
  refine qT (K:=K) (a:=wt) (xs:=gX ws) (fun j σ H'=> ∃(qs:List Q4) (cv wv iv av:Option V),σ=[some (.str (S y)),some (.ref dr),some (.ref d),nv,pv,some (.ref p2),cv,wv,iv,av]/\H' p2=some (.lst (nk qs))/\(∀x∈qs,qp H' x)/\qs.map Q4.v=gn (ko y os) ws j/\qs.length<=12*j/\aq H2 H')
   ⟨[],none,none,none,none,rfl,ah,fun _ h=>absurd h Xu,rfl,WO _,RH⟩ (fun j σ H' _ ⟨_,_,_,_,_,_,_,_,_,_,h⟩=>cS.of (h _ _ (qu _ _ d2))) ?_ ?_
  ·rintro j x σ H3 T hx ⟨qs,cv,wv,iv,av,rfl,wo,GI,zS,PK,s3⟩ nT
   have hj:j<ws.length:=by
    have:=(Iy.mp hx).1
    rwa [cj]at this
   rw[iT hj]at hx
   cases hx
   have J2:ws[j]? =some ws[j]:=Iw hj
   obtain ⟨PL,lM⟩:=wL.all _ (XF hj)
   generalize ws[j]=w at J2 PL lM ⊢
   have Rn: ∀l∈w,l<128:=fun l hl=>(hy.lt l (PL l hl)).lt
   have sT:=aq.upd (o:= .tup [.int j, .str (S w)]) nT
   refine ⟨T,_,rfl,cS.of ah,rfl,_,_,rfl,_,_,rfl,rfl,?_⟩
   refine ⟨_,rfl,w,rfl,by omega,_,rfl,by omega,by omega,?_⟩
   rw[UG]
   refine fM (fun i σ H'=> ∃(us:List Q4) (iv av:Option V),σ=[some (.str (S y)),some (.ref dr),some (.ref d),nv,pv,some (.ref p2),some (.int j),some (.str (S w)),iv,av]/\H' p2=some (.lst (nk us))/\(∀x∈us,qp H' x)/\us.map Q4.v=gn (ko y os) ws j++mm (ko y os) j w i/\us.length<=12*j+i/\aq H2 H')
    ⟨qs,iv,av,rfl,sT _ _ wo,fun x hx=>(GI x hx).ts (dW.of sT),by rw[zS];show _=_++[];rw[XZ],by omega,s3.trans sT⟩ ?_ ?_
   ·rintro i σ H4 hi ⟨us,VT,VU,rfl,PM,Bs,Bj,EB,s4⟩
    have e1:w[wG w.length i]? =some (w.getD (wG w.length i) 0):=by rw[UI,Iw (x3 hi)];rfl
    have e2:w[i]? =some (w.getD i 0):=by rw[UI,Iw hi];rfl
    have m1:=HB _ (Dc hy PJ J2 e1 (PL _ (WQ e1)) (.inr rfl))
    have m2:=HB _ (Dc hy PJ J2 e2 (PL _ (WQ e2)) (.inl rfl))
    refine ⟨_,rfl,_,rfl,_,rfl,w,j,i,by rw[YL];rfl,Rn,hi,by omega,fun t t1 t2 H5 ht Bz L8 s5=>?_⟩
    have VV:=s5 _ _ PM
    have L_:=s5 _ _ (s4 _ _ hd2)
    refine ⟨_,rfl, .inl ⟨rfl,_,bC.of VV⟩,_,rfl,_,rfl,?_⟩
    refine ⟨_,rfl,_,rfl,t,_,0,_,rfl,rfl,cS.of ht,rfl,d,_,rfl,by rw[<-m1];exact j5.t L_ Bz,?_⟩
    refine ⟨_,rfl,_,rfl,t,_,1,_,rfl,rfl,cS.of ht,rfl,d,_,rfl,by rw[<-m2];exact j5.t L_ L8,?_⟩
    rw[YL]
    refine ⟨by show 4<=sizeLine;decide,fun tq VW=>?_⟩
    have s6:=s5.trans (aq.upd (o:= .tup [.int j, .int i, .int ((ko y os).idxOf (j,wG w.length i,aA (w.getD (wG w.length i) 0)):Nat), .int ((ko y os).idxOf (j,i,w.getD i 0):Nat)]) VW)
    have RI:=s6 _ _ PM
    refine ⟨p2,_,_,rfl,rfl,RI,by rw[zB];omega,?_⟩
    refine ⟨us++[⟨tq,gP (ko y os) j w i⟩],_,_,rfl,by rw[ah];exact congrArg (fun x=>some (HO.lst x)) (De us ⟨tq,gP (ko y os) j w i⟩),fun x hx=>?_,by rw[UH,Bj,vR,Yj];rfl,by rw[UD];show us.length+1<=_;omega,fun a o ea=>by rw[au (ay ea n2)];exact s6 _ _ (s4 a o ea)⟩
    rcases Xn.mp hx with g | g
    ·exact (Bs x g).ts ((dW.of s6).trans (dW.Fl RI))
    ·have e3:=Sz.mp g
     subst e3
     exact (dW.Fl RI) _ _ ah
   ·rintro σ H4 ⟨us,VT,VU,rfl,PM,Bs,Bj,EB,s4⟩
    exact ⟨us,_,_,_,_,rfl,PM,Bs,by rw[Bj,t_ J2],by omega,s4⟩
  ·rintro σ H3 ⟨qs,cv,wv,iv,av,rfl,wo,GI,zS,PK,s3⟩
   rw[cj]at zS
   exact ⟨_,rfl,q p2 qs H3 VS wo GI zS (qu.trans s3)⟩
theorem rT:bI P w K mg base fj 2 f1 d1 ["word"] (qX K):=by
 have cH:=fh (P:=P) (w:=w) (base:=base) T
 refine T.F1.fn.ok Bf (fun vs H Q E h=>xD h) (fun cJ A outer s H vs Q E hr h=>?_)
 refine ⟨_,(ai (aG (bU K rfl Xt X2 Yk (fT K rfl) (iM [] (by decide+kernel)) (aa (cV ["letter"] [none] (xo rfl T.z_reversed (aa (pv 0) ae)) trivial (fun _ _ _ _=>(aV (i:=0) (by decide+kernel:List.Nodup (["letter"]:List Str)) rfl (Or.inl rfl))) (fun _ _ _ _=>gx) (fun _ _ _ _=>(ak cH (hr.mono (by decide)) rfl T.F0.mg T.F0.fn.kp T.F0.bd .nil az (aa (pv 0) ae)))) ae)))),?_⟩
 obtain ⟨l,rfl,hc,hz,q⟩:=h
 have hs:(1000:Nat)<sizeLine:=by decide
 refine ⟨rfl,_,rfl,l,rfl,by omega,?_⟩
 rw[sW]
 refine fS (xs:=cn l.reverse) (fun i acc H'=>aq H H'/\acc=cn ((l.reverse.take i).map aA)) (by rw[aN,XB];omega) ⟨aq.refl H,rfl⟩ ?_ ?_
 ·rintro i x acc H1 Nx hi hx hl ⟨s1,rfl⟩ nx
  obtain ⟨c,nG,rfl⟩:=eT hx
  refine ⟨trivial,eV ⟨_,rfl,c,rfl,hc c (YA.mp (WQ nG)),nx _ _ (by simpa using hl) ⟨s1,?_⟩⟩⟩
  rw[cX, <-take_snoc nG,UH]
  rfl
 ·rintro acc H1 D hl ⟨s1,rfl⟩ hD
  refine ⟨D,(dA l).map fun c=>[c],rfl,rfl,bC.of ?_,?_,?_⟩
  ·rw[ah, <-eM,aN,Xz (OS _),YI]
   rfl
  ·rw[vz]
   unfold dA
   rw[XB,Kw]
   omega
  ·rw[mU]
   exact q _ (s1.trans (aq.upd hD))
theorem ji:bI P w K mg base fj 1 DU LF ["seen","start","end"] (fX K aW aO):=by
 refine T.wI.fn.ok jg (fun vs H Q E h=>nq h) (fun cJ A outer s H vs Q E hr h=>?_)
 refine ⟨_,(ag (ao (i:=3) jg.nd rfl (Or.inl rfl) (aD bz (bM K rfl (pv 0) rfl) aj))
   (ai (aG (bf iC (bM K rfl (bM K rfl (pv 0) rfl) rfl) (ba (aD bz (pv 3) (pv 1))) (ba (aD bz (pv 3) (pv 2))))))),?_⟩
 obtain ⟨y,lg,s,x,z,rfl,hz,hs,RJ,q⟩:=h
 obtain ⟨d1,e1⟩:=hs.ob
 obtain ⟨d2,e2⟩:=hs.wy.ob
 have:=hs.wy.uz
 have:=hs.wy.lz
 have h1:1<=s.u.length:=XN (WO _) hs.pz
 have rl:=lA (lg:=lg) h1
 have N5:(100000:Nat)<sizeLine:=by decide
 refine ⟨_,rfl,s.a,aO,d1,_,_,rfl,e1,T.dB,T.n_Seen_place,lr,?_⟩
 walk_at "rd"
 refine ⟨s.a,aO,d1,_,_,rfl,e1,T.dB,T.n_Seen_way,mz,s.wy,aW,d2,_,_,rfl,e2,T.gq,T.n_Way_onward,NY,?_⟩
 walk_at "rd"
 refine ⟨by rw[rG,dc];omega,?_⟩
 rw[show (s.p:Int)+1=((s.p+1:Nat):Int) by omega,zF RJ]
 exact q
theorem jT:bI P w K mg base fj 1 DV LG ["seen","start","end"] (gz K aW aO):=by
 refine T.wJ.fn.ok jS (fun vs H Q E h=>oW h) (fun cJ A outer s H vs Q E hr h=>?_)
 refine ⟨_,(ag (ao (i:=3) jS.nd rfl (Or.inl rfl) (aD dh (aD dh (bM K rfl (bM K rfl (pv 0) rfl) rfl) aj) (bM K rfl (pv 0) rfl)))
   (ai (aG (bf iC (bM K rfl (bM K rfl (pv 0) rfl) rfl) (ba (aD bz (pv 3) (pv 1))) (ba (aD bz (pv 3) (pv 2))))))),?_⟩
 obtain ⟨y,lg,s,x,z,rfl,hz,hs,RJ,q⟩:=h
 obtain ⟨d1,e1⟩:=hs.ob
 obtain ⟨d2,e2⟩:=hs.wy.ob
 have:=hs.wy.uz
 have:=hs.wy.lz
 have hp:=hs.pz
 have h1:1<=s.u.length:=XN (WO _) hs.pz
 have rl:=lA (lg:=lg) h1
 have N5:(100000:Nat)<sizeLine:=by decide
 refine ⟨_,rfl,s.a,aO,d1,_,_,rfl,e1,T.dB,T.n_Seen_way,mz,s.wy,aW,d2,_,_,rfl,e2,T.gq,T.n_Way_size,zE,?_⟩
 walk_at "rd"
 refine ⟨s.a,aO,d1,_,_,rfl,e1,T.dB,T.n_Seen_place,lr,?_⟩
 walk_at "rd"
 refine ⟨s.a,aO,d1,_,_,rfl,e1,T.dB,T.n_Seen_way,mz,s.wy,aW,d2,_,_,rfl,e2,T.gq,T.n_Way_backward,Gj,?_⟩
 walk_at "rd"
 refine ⟨by rw[rG,XB,dc];omega,?_⟩
 rw[show (s.u.length:Int) - 1 - s.p=((s.u.length - 1 - s.p:Nat):Int) by omega,zF RJ]
 exact q
theorem yt:bI P w K mg base fj 2 K5 LH ["steps","one","other","enough"] (oX K aW aO DU DV):=by
 have ck:=ji (P:=P) (w:=w) (base:=base) T
 have cI:=jT (P:=P) (w:=w) (base:=base) T
 refine T.JV.fn.ok dD (fun vs H Q E h=>vX h) (fun cJ A outer s H vs Q E hr h=>?_)
 refine ⟨_,(ag (ao (i:=4) dD.nd rfl (Or.inl rfl) aj)
   (ag (ao (i:=5) dD.nd rfl (Or.inl rfl) aj)
   (jl (dF PassesOwn.never (PW.pt (jV (aL mO (pv 4) (pv 3) (aU _)) (jj (aL iQ (kL (pv 0) ck (hr.mono (by decide)) T.wI.fn.kp T.wI.bd cI (hr.mono (by decide)) T.wJ.fn.kp T.wJ.bd az (aa (pv 1) (aa (pv 4) (aa (aD bz (pv 4) (pv 5)) ae)))) (kL (pv 0) ck (hr.mono (by decide)) T.wI.fn.kp T.wI.bd cI (hr.mono (by decide)) T.wJ.fn.kp T.wJ.bd az (aa (pv 2) (aa (pv 4) (aa (aD bz (pv 4) (pv 5)) ae)))) (aU _))))) (ag (jW (i:=4) dD.nd rfl (Or.inl rfl) (pv 5) r_)
   (ai (jW (i:=5) dD.nd rfl (Or.inl rfl) aj Jb))))
   (jl (dF PassesOwn.never (aL qD (pv 5) aj (aU _)) (ag (jW (i:=5) dD.nd rfl (Or.inl rfl) aj Fx)
   (ai (bO (aL iQ (kL (pv 0) ck (hr.mono (by decide)) T.wI.fn.kp T.wI.bd cI (hr.mono (by decide)) T.wJ.fn.kp T.wJ.bd az (aa (pv 1) (aa (pv 4) (aa (aD bz (pv 4) (pv 5)) ae)))) (kL (pv 0) ck (hr.mono (by decide)) T.wI.fn.kp T.wI.bd cI (hr.mono (by decide)) T.wJ.fn.kp T.wJ.bd az (aa (pv 2) (aa (pv 4) (aa (aD bz (pv 4) (pv 5)) ae)))) (aU _)) (ai (jW (i:=4) dD.nd rfl (Or.inl rfl) (pv 5) r_)) bj))))
   (ai (aG (pv 4))))))),?_⟩
 obtain ⟨y,lg,s1,t1,b,en,rfl,hz,hs,ht,W4,q⟩:=h
 have call: ∀(u:Sn) (x d:Nat) (t:TA) (σ:L2.St) (Q':VK),σ[0]? =some (some (V.ref (if b=true then DU else DV)))->i9 H aW aO y lg u->(∀R:List V->Hp->Prop,R [V.ref u.a,V.int x,V.int ((x:Int)+d)] H->t σ H R)->Q' (V.str (S (seg (JJ b y lg u) x (x+d)))) H->Cj DU DV (fX K aW aO) (gz K aW aO) E0 (HN 0) t σ H Q':=by
  intro u x d t σ Q' h0 hu TJ hq
  refine ⟨_,h0,?_⟩
  cases b
  ·exact .inr ⟨rfl,TJ _ ⟨y,lg,u,x,x+d,by rw[X6],hz,hu,by omega,hq⟩⟩
  ·exact .inl ⟨rfl,TJ _ ⟨y,lg,u,x,x+d,by rw[X6],hz,hu,by omega,hq⟩⟩
 generalize (if b=true then DU else DV)=fx at call ⊢
 generalize el:JJ b y lg s1=l at q
 generalize em:JJ b y lg t1=m at q
 walk_at "rd"
 refine ⟨fun σ H'=> ∃(mn sz e:Nat),σ=[some (.ref fx),some (.ref s1.a),some (.ref t1.a),some (.int en),some (.int mn),some (.int sz)]/\H'=H/\sz=2 ^ e/\sz<=1000000/\mn<=1000000/\i_ l m mn/\(en<=mn\/ ∃k,mn<=k/\k<mn+sz/\l[k]?≠ m[k]?),?_,?_⟩
 ·refine ⟨fun w σ H'=> ∃(mn sz e:Nat),σ=[some (.ref fx),some (.ref s1.a),some (.ref t1.a),some (.int en),some (.int mn),some (.int sz)]/\H'=H/\w=en - mn/\sz=2 ^ e/\mn+1=sz/\mn<=2*en/\i_ l m mn,⟨_,0,1,0,rfl,rfl,rfl,rfl,rfl,WO _,fun k hk=>absurd hk (ZQ _)⟩,?_⟩
  rintro w' σ H2 ⟨mn,sz,e,rfl,rfl,rfl,he,W5,O3,ha⟩
  walk_at "rd"
  refine b5 (fun z=>?_) (fun z=>?_)
  ·have z1:(mn:Int)<en:=of_decide_eq_true z
   refine call s1 mn sz _ _ _ rfl hs (fun R hR=>⟨_,rfl,_,rfl,_,rfl,_,rfl,_,_,rfl,rfl,hR⟩) ?_
   refine call t1 mn sz _ _ _ rfl ht (fun R hR=>⟨_,rfl,_,rfl,_,rfl,_,rfl,_,_,rfl,rfl,hR⟩) ?_
   rw[el,em]
   walk_at "rd"
   refine b5 (fun y1=>?_) (fun y1=>?_)
   ·have y2:seg l mn (mn+sz)=seg m mn (mn+sz):=by simpa using of_decide_eq_true y1
    refine ⟨_,rfl,_,rfl,_,_,rfl,rfl,_,rfl,_,_,rfl,rfl, .inl ⟨by omega,by omega⟩,?_⟩
    refine ⟨en - (mn+sz),by omega,mn+sz,sz*2,e+1,by rw[X6,Qan];rfl,rfl,rfl,by rw[he,Nat.pow_succ],by omega,by omega,ha.more y2⟩
   ·have y2:seg l mn (mn+sz)≠seg m mn (mn+sz):=fun w=>y1 (decide_eq_true (by rw[w]))
    exact ⟨mn,sz,e,rfl,rfl,he,by omega,by omega,ha, .inr (Dx y2)⟩
  ·have z1: ¬(mn:Int)<en:=fun w=>z (decide_eq_true w)
   exact ⟨mn,sz,e,rfl,rfl,he,by omega,by omega,ha, .inl (by omega)⟩
 ·rintro σ H2 ⟨mn,sz,e,rfl,rfl,he,hsz,O3,ha,hb⟩
  refine ⟨fun σ H'=> ∃mn:Nat,σ=[some (.ref fx),some (.ref s1.a),some (.ref t1.a),some (.int en),some (.int mn),some (.int 1)]/\H'=H2/\i_ l m mn/\(en<=mn\/l[mn]?≠ m[mn]?),?_,?_⟩
  ·refine ⟨fun w σ H'=> ∃(mn sz e:Nat),σ=[some (.ref fx),some (.ref s1.a),some (.ref t1.a),some (.int en),some (.int mn),some (.int sz)]/\H'=H2/\sz=w/\sz=2 ^ e/\sz<=1000000/\mn<=3000000 - 2*sz/\i_ l m mn/\(en<=mn\/ ∃k,mn<=k/\k<mn+sz/\l[k]?≠ m[k]?),⟨_,mn,sz,e,rfl,rfl,rfl,he,hsz,by omega,ha,hb⟩,?_⟩
   rintro w' σ H3 ⟨mn,sz,e,rfl,rfl,rfl,he,hsz,O3,ha,hb⟩
   walk_at "rd"
   refine b5 (fun z=>?_) (fun z=>?_)
   ·have z1:(1:Int)<sz:=of_decide_eq_true z
    obtain ⟨e',rfl⟩: ∃e',e=e'+1:=⟨e - 1,by
     cases e with
     | zero=>rw[he]at z1;simp at z1
     | succ e=>rfl⟩
    have hh:sz=2*2 ^ e':=by rw[he,Nat.pow_succ,YE]
    have hp:0<2 ^ e':=Nat.pow_pos (by decide)
    generalize Of:2 ^ e'=h2 at hh hp
    have RK:=Of.symm
    have ed:(sz:Int) / 2=(h2:Nat):=by omega
    refine ⟨_,rfl,_,_,rfl,rfl,⟨by decide,by decide⟩,?_⟩
    refine call s1 mn h2 _ _ _ rfl hs (fun R hR=>⟨_,rfl,_,rfl,_,rfl,_,rfl,_,_,rfl,rfl,by rw[ed];exact hR⟩) ?_
    refine call t1 mn h2 _ _ _ rfl ht (fun R hR=>⟨_,rfl,_,rfl,_,rfl,_,rfl,_,_,rfl,rfl,by rw[ed];exact hR⟩) ?_
    rw[el,em]
    walk_at "rd"
    have N2: ∃e2,h2=2 ^ e2:=⟨e',RK⟩
    obtain ⟨e2,TK⟩:=N2
    refine b5 (fun y1=>?_) (fun y1=>?_)
    ·have y2:seg l mn (mn+h2)=seg m mn (mn+h2):=by simpa using of_decide_eq_true y1
     refine ⟨_,rfl,_,rfl,_,_,rfl,rfl,?_⟩
     refine ⟨h2,by omega,mn+h2,h2,e2,by rw[X6, <-ed];rfl,rfl,rfl,TK,by omega,by omega,ha.more y2,?_⟩
     rcases hb with hb | ⟨k,k1,k2,k3⟩
     ·exact .inl (by omega)
     ·refine .inr ⟨k,Classical.byContradiction fun w=>k3 (x8.mp y2 k k1 (by omega)),by omega,k3⟩
    ·have y2:seg l mn (mn+h2)≠seg m mn (mn+h2):=fun w=>y1 (decide_eq_true (by rw[w]))
     exact ⟨h2,by omega,mn,h2,e2,by rw[<-ed];rfl,rfl,rfl,TK,by omega,by omega,ha, .inr (Dx y2)⟩
   ·have z1: ¬(1:Int)<sz:=fun w=>z (decide_eq_true w)
    have hp:0<2 ^ e:=Nat.pow_pos (by decide)
    have e1:sz=1:=by omega
    subst e1
    exact ⟨mn,rfl,rfl,ha,hb.imp id fun ⟨k,k1,k2,k3⟩=>by rwa [show k=mn by omega]at k3⟩
  ·rintro σ H3 ⟨mn,rfl,rfl,ha,hb⟩
   exact ⟨_,rfl,q mn ha hb⟩
theorem yu:bI P w K mg base fj 1 K6 LI ["seen"] (oY K aW aO):=by
 refine T.JW.fn.ok kj (fun vs H Q E h=>vY h) (fun cJ A outer s H vs Q E hr h=>?_)
 refine ⟨_,(ag (ao (i:=1) kj.nd rfl (Or.inl rfl) (bM K rfl (pv 0) rfl))
   (ag (ao (i:=2) kj.nd rfl (Or.inl rfl) (aR (bD K rfl) (bM K rfl (pv 0) rfl) aj (fun _ _=>rfl)))
   (ag (bO (fP (bM K rfl (pv 1) rfl)) (ai (aG (cB (aa (pv 2) (aa (aD eY (bM K rfl (pv 0) rfl) (bM K rfl (pv 1) rfl)) ae))))) bj)
   (ai (aG (cB (aa (jF gw (pv 2)) (aa (jF gw (aD eY (aD dh (aD dh (bM K rfl (pv 1) rfl) aj) (bM K rfl (pv 0) rfl)) (bM K rfl (pv 1) rfl))) ae)))))))),?_⟩
 obtain ⟨y,lg,s1,rfl,hs,q⟩:=h
 obtain ⟨d1,e1⟩:=hs.ob
 obtain ⟨d2,e2⟩:=hs.wy.ob
 have hp:=hs.pz
 have rp:=jb hs.wy.sw.ne hs.wy.rt
 have u1:=hs.wy.uz
 have u2:=hs.wy.lz
 refine ⟨_,rfl,s1.a,aO,d1,_,_,rfl,e1,T.dB,T.n_Seen_way,mz,?_⟩
 refine ⟨_,rfl,s1.a,aO,d1,_,_,rfl,e1,T.dB,T.n_Seen_strand,rE,s1.t,_,0,_,rfl,rfl,cS.of hs.st,rfl,?_⟩
 refine ⟨_,rfl,s1.wy,aW,d2,_,_,rfl,e2,T.gq,T.n_Way_leads,Dw,?_⟩
 walk_at "rd"
 have VX:(s1.p:Int) / (s1.r:Int)=((s1.p / s1.r:Nat):Int):=(ZC _ _).symm
 have VY:((s1.u.length:Int) - 1 - s1.p) / (s1.r:Int)=(((s1.u.length - 1 - s1.p) / s1.r:Nat):Int):=by
  rw[ZC];congr 1;omega
 refine b5 (fun z=>?_) (fun z=>?_)
 ·refine ⟨_,rfl,_,rfl,s1.a,aO,d1,_,_,rfl,e1,T.dB,T.n_Seen_place,lr,_,rfl,s1.wy,aW,d2,_,_,rfl,e2,T.gq,T.n_Way_root_size,nW,_,_,rfl,rfl,⟨by omega,by omega⟩,by show 2<=sizeLine;decide,fun p np=>?_⟩
  refine q p _ np ?_ (aq.upd np)
  rw[ah]
  unfold x9
  rw[if_pos z, <-VX]
 ·refine ⟨_,rfl,_,rfl,_,rfl,s1.wy,aW,d2,_,_,rfl,e2,T.gq,T.n_Way_size,zE,_,_,rfl,rfl,_,rfl,s1.a,aO,d1,_,_,rfl,e1,T.dB,T.n_Seen_place,lr,_,_,rfl,rfl,_,rfl,s1.wy,aW,d2,_,_,rfl,e2,T.gq,T.n_Way_root_size,nW,_,_,rfl,rfl,⟨by omega,by omega⟩,_,rfl,by show 2<=sizeLine;decide,fun p np=>?_⟩
  refine q p _ np ?_ (aq.upd np)
  rw[ah]
  unfold x9
  rw[if_neg z, <-VY]
theorem pV:bI P w K mg base fj 3 K7 LJ ["one","other"] (ja K aW aO):=by
 have rV:=yt (P:=P) (w:=w) (base:=base) T
 have rW:=yu (P:=P) (w:=w) (base:=base) T
 have ck:=ji (P:=P) (w:=w) (base:=base) T
 have cI:=jT (P:=P) (w:=w) (base:=base) T
 refine T.Pb.fn.ok eB (fun vs H Q E h=>ny h) (fun cJ A outer s H vs Q E hr h=>?_)
 refine ⟨_,(ag (ao (i:=2) eB.nd rfl (Or.inl rfl) (aD bz (bM K rfl (bM K rfl (pv 0) rfl) rfl) (bM K rfl (bM K rfl (pv 1) rfl) rfl)))
   (ag (ao (i:=3) eB.nd rfl (Or.inl rfl) (ak rV (hr.mono (by decide)) rfl T.JV.mg T.JV.fn.kp T.JV.bd .nil az (aa (yG (v:= .ref DU) rfl T.wI.mg rfl) (aa (pv 0) (aa (pv 1) (aa (pv 2) ae))))))
   (ag (ao (i:=4) eB.nd rfl (Or.inl rfl) (ak rV (hr.mono (by decide)) rfl T.JV.mg T.JV.fn.kp T.JV.bd .nil az (aa (yG (v:= .ref DV) rfl T.wJ.mg rfl) (aa (pv 0) (aa (pv 1) (aa (pv 2) ae))))))
   (ag (bO (aL BG (aC (qE rfl) rfl T.z_min boot_min (aa (pv 3) (aa (pv 4) ae))) (pv 2) (aU _)) (ai (aG (jk (I_ K rfl hr) (ak rW (hr.mono (by decide)) rfl T.JW.mg T.JW.fn.kp T.JW.bd .nil az (aa (pv 0) ae)) (ak rW (hr.mono (by decide)) rfl T.JW.mg T.JW.fn.kp T.JW.bd .nil az (aa (pv 1) ae)) (aU _)))) bj)
   (ag (bO (aL G3 (pv 3) (pv 4) (aU _)) (ai (aG (jk sI (ak ck (hr.mono (by decide)) rfl T.wI.mg T.wI.fn.kp T.wI.bd .nil az (aa (pv 0) (aa (pv 3) (aa (aD bz (pv 3) aj) ae)))) (ak ck (hr.mono (by decide)) rfl T.wI.mg T.wI.fn.kp T.wI.bd .nil az (aa (pv 1) (aa (pv 3) (aa (aD bz (pv 3) aj) ae)))) (aU _)))) bj)
   (ai (aG (jk sI (ak cI (hr.mono (by decide)) rfl T.wJ.mg T.wJ.fn.kp T.wJ.bd .nil az (aa (pv 0) (aa (pv 4) (aa (aD bz (pv 4) aj) ae)))) (ak cI (hr.mono (by decide)) rfl T.wJ.mg T.wJ.fn.kp T.wJ.bd .nil az (aa (pv 1) (aa (pv 4) (aa (aD bz (pv 4) aj) ae)))) (aU _))))))))),?_⟩
 obtain ⟨y,lg,s1,t1,rfl,hy,hz,hs,ht,h0,q⟩:=h
 obtain ⟨d1,e1⟩:=hs.ob
 obtain ⟨d2,e2⟩:=hs.wy.ob
 obtain ⟨d3,e3⟩:=ht.ob
 obtain ⟨d4,e4⟩:=ht.wy.ob
 have rp:=jb hs.wy.sw.ne hs.wy.rt
 have W6:=jb ht.wy.sw.ne ht.wy.rt
 have u1:=hs.wy.uz
 have W7:=ht.wy.uz
 have u2:=hs.wy.lz
 have ns:=hs.wy.sw.ne
 have nt:=ht.wy.sw.ne
 have lf:=aY hs.wy.sw (s1.p:Int)
 have PN:=aY ht.wy.sw (t1.p:Int)
 have as:=rH (lg:=lg) (s:=s1) (en:=s1.r+t1.r) hs.pz (by omega)
 have at':=rH (lg:=lg) (s:=t1) (en:=s1.r+t1.r) ht.pz (by omega)
 refine ⟨_,rfl,s1.a,aO,d1,_,_,rfl,e1,T.dB,T.n_Seen_way,mz,s1.wy,aW,d2,_,_,rfl,e2,T.gq,T.n_Way_root_size,nW,_,rfl,t1.a,aO,d3,_,_,rfl,e3,T.dB,T.n_Seen_way,mz,t1.wy,aW,d4,_,_,rfl,e4,T.gq,T.n_Way_root_size,nW,_,_,rfl,rfl,?_⟩
 refine ⟨_,rfl,_,rfl,_,rfl,y,lg,s1,t1,true,s1.r+t1.r,by rw[X6];rfl,hz,hs,ht,by omega,fun m Kz Ep=>?_⟩
 refine ⟨_,rfl,_,rfl,_,rfl,y,lg,s1,t1,false,s1.r+t1.r,by rw[X6];rfl,hz,hs,ht,by omega,fun n VZ uR=>?_⟩
 have RL:i_ (Bx y lg s1) (Bx y lg t1) m:=Kz
 have Og:s1.r+t1.r<=m\/(Bx y lg s1)[m]?≠ (Bx y lg t1)[m]?:= Ep
 have RM:i_ (By y lg s1) (By y lg t1) n:=VZ
 have Oh:s1.r+t1.r<=n\/(By y lg s1)[n]?≠ (By y lg t1)[n]?:= uR
 have ga: ∀k,k<s1.r+t1.r->(Bx y lg s1)[k]? =some (wH (eO y (sq s1.u s1.p) (k+1)))/\(Bx y lg t1)[k]? =some (wH (eO y (sq t1.u t1.p) (k+1))):=fun k hk=>⟨Dy ns (by omega),Dy nt (by omega)⟩
 have gb: ∀k,k<s1.r+t1.r->(By y lg s1)[k]? =some (wH (eO y (sq s1.u s1.p) (-(k:Int))))/\(By y lg t1)[k]? =some (wH (eO y (sq t1.u t1.p) (-(k:Int)))):=fun k hk=>⟨Dz ns hs.pz (by omega),Dz nt ht.pz (by omega)⟩
 refine ⟨_,rfl,_,rfl,_,_,rfl,?_⟩
 walk_at "rd"
 by_cases par: ∀k,sq s1.u s1.p k=sq t1.u t1.p k
 ·have ef:sq s1.u s1.p=sq t1.u t1.p:=funext par
  have m1:s1.r+t1.r<=m:=zL (fun k hk=>by rw[(ga k hk).1,(ga k hk).2,ef]) Og
  have n1:s1.r+t1.r<=n:=zL (fun k hk=>by rw[(gb k hk).1,(gb k hk).2,ef]) Oh
  refine b5 (fun z=>?_) (fun z=>absurd (decide_eq_true (show ((s1.r:Int)+t1.r)<=(if (n:Int)<m then (n:Int) else m) by split<;>omega)) z)
  refine ⟨_,rfl,y,lg,s1,rfl,hs,fun p1 H1 W8 ua Oi=>⟨_,rfl,y,lg,t1,rfl,ht.same Oi,fun p2 H2 Rt oF bZ=>?_⟩⟩
  refine ⟨p1,p2,_,_,_,_,rfl,rfl,cS.of (bZ _ _ ua),cS.of oF,?_⟩
  have e:Eo (x9 s1).1 (x9 s1).2 (x9 t1).1 (x9 t1).2=bJ (jD y (2*lg) s1) (jD y (2*lg) t1):=by
   unfold jD
   rw[ef,ff,Gm]
  have kq:=q H2 (Oi.trans bZ)
  rw[<-e]at kq
  exact kq
 ·have dH: ∃k,sq s1.u s1.p k≠sq t1.u t1.p k:=Classical.byContradiction fun z=>par fun k=>Classical.byContradiction fun w=>z ⟨k,w⟩
  have z0:sq s1.u s1.p 0=sq t1.u t1.p 0:=by unfold sq;rw[ZO,ZO];exact h0
  obtain ⟨a,b,rn,ha,hb⟩:=dq (p:=s1.r) (q:=t1.r) (by omega) (by omega) (zH ns hs.wy.rt s1.p) (zH nt ht.wy.rt t1.p) z0 dH
  have pf:=zJ hy lf
  have pg:=zJ hy PN
  have key:=mi hy lf PN rn [(x9 s1).1,(x9 s1).2] [(x9 t1).1,(x9 t1).2] (2*lg) 0 (WO _) (WO _) (by omega) (by omega)
  have sa:eO y (sq s1.u s1.p) (a+1)≠eO y (sq t1.u t1.p) (a+1):=fun w=>rn.hi (by
   unfold eO at w
   rw[show (a:Int)+1 - 1=a by omega, <-rn.mh a (by omega) (by omega)]at w
   exact kY (hy.cl _ (lf.bE _)) (lf.bE _) (PN.bE _) w)
  have sb:eO y (sq s1.u s1.p) (-(b:Int))≠eO y (sq t1.u t1.p) (-(b:Int)):=fun w=>by
   have c:=xS hy lf PN (rn.mh (-(b:Int)) (by omega) (by omega)) rn.lo
   unfold gy at c
   rw[w]at c
   simp at c
  have em:m=a:=zK ha (fun k hk=>by
   rw[(ga k (by omega)).1,(ga k (by omega)).2]
   unfold eO
   rw[show (k:Int)+1 - 1=k by omega,rn.mh k (by omega) (by omega),rn.mh (k+1) (by omega) (by omega)]) (fun w=>sa (zI (pf _) (pg _) (by rw[(ga a ha).1,(ga a ha).2]at w;exact Xr w))) RL Og
  have en:n=b:=zK hb (fun k hk=>by
   rw[(gb k (by omega)).1,(gb k (by omega)).2]
   unfold eO
   rw[rn.mh (-(k:Int)) (by omega) (by omega),rn.mh (-(k:Int) - 1) (by omega) (by omega)]) (fun w=>sb (zI (pf _) (pg _) (by rw[(gb b hb).1,(gb b hb).2]at w;exact Xr w))) RM Oh
  subst em
  subst en
  refine b5 (fun z=>absurd (show ((s1.r:Int)+t1.r)<=(if (n:Int)<m then (n:Int) else m) from of_decide_eq_true z) (by split<;>omega)) (fun z=>?_)
  walk_at "rd"
  have B2:(m:Int)+1=((m+1:Nat):Int):=by omega
  have JA:(n:Int)+1=((n+1:Nat):Int):=by omega
  refine b5 (fun z2=>?_) (fun z2=>?_)
  ·have z3:m<=n:=by have:=of_decide_eq_true z2;omega
   refine ⟨_,rfl,_,rfl,_,rfl,_,_,rfl,rfl,y,lg,s1,m,m+1,by rw[<-B2];rfl,hz,hs,by omega,?_⟩
   refine ⟨_,rfl,_,rfl,_,rfl,_,_,rfl,rfl,y,lg,t1,m,m+1,by rw[<-B2];rfl,hz,ht,by omega,?_⟩
   refine ⟨_,_,rfl,rfl,?_⟩
   rw[if_pos z3]at key
   have e:decide (seg (Bx y lg s1) m (m+1)<seg (Bx y lg t1) m (m+1))=bJ (jD y (2*lg) s1) (jD y (2*lg) t1):=by
    rw[nX (ga m ha).1,nX (ga m ha).2,DB]
    exact (decide_eq_decide.mpr (DA (pf _) (pg _))).trans key.symm
   have kq:=q H (aq.refl H)
   rw[<-e]at kq
   exact kq
  ·have z3: ¬m<=n:=fun w=>z2 (decide_eq_true (by omega))
   refine ⟨_,rfl,_,rfl,_,rfl,_,_,rfl,rfl,y,lg,s1,n,n+1,by rw[<-JA];rfl,hz,hs,by omega,?_⟩
   refine ⟨_,rfl,_,rfl,_,rfl,_,_,rfl,rfl,y,lg,t1,n,n+1,by rw[<-JA];rfl,hz,ht,by omega,?_⟩
   refine ⟨_,_,rfl,rfl,?_⟩
   rw[if_neg z3]at key
   have e:decide (seg (By y lg s1) n (n+1)<seg (By y lg t1) n (n+1))=bJ (jD y (2*lg) s1) (jD y (2*lg) t1):=by
    rw[nX (gb n hb).1,nX (gb n hb).2,DB]
    exact (decide_eq_decide.mpr (DA (pf _) (pg _))).trans key.symm
   have kq:=q H (aq.refl H)
   rw[<-e]at kq
   exact kq
theorem nE:bI P w K mg base fj 4 K8 LK ["order","seen"] (il K aW aO):=by
 have qv:=pV (P:=P) (w:=w) (base:=base) T
 refine T.Pc.fn.ok b6 (fun vs H Q E h=>mC h) (fun cJ A outer s H vs Q E hr h=>?_)
 refine ⟨_,(ag (ao (i:=2) b6.nd rfl (Or.inl rfl) aj)
   (ag (ao (i:=3) b6.nd rfl (Or.inl rfl) (aC (aX K rfl) rfl T.z_len Xl (aa (pv 0) ae)))
   (ag (dF PassesOwn.never (aL mO (pv 2) (pv 3) (aU _)) (ag (ao (i:=4) b6.nd rfl (Or.inl rfl) (aD eY (aD bz (pv 2) (pv 3)) aj))
   (ai (bO (fP (ak qv (hr.mono (by decide)) rfl T.Pb.mg T.Pb.fn.kp T.Pb.bd .nil az (aa (aR (aZ K rfl) (pv 0) (pv 4) (fun _ _=>rfl)) (aa (pv 1) ae)))) (ai (ao (i:=2) b6.nd rfl (Or.inl rfl) (aD bz (pv 4) aj))) (ai (ao (i:=3) b6.nd rfl (Or.inl rfl) (pv 4)))))))
   (ai (aG (pv 2)))))),?_⟩
 obtain ⟨y,lg,a,ss,t1,rfl,hy,hz,ha,D8,ht,up,hn,q⟩:=h
 have hs:(100000:Nat)<sizeLine:=by decide
 have key:=YC.mp up
 refine ⟨_,rfl,a,_,rfl, .inl (bC.of ha),?_⟩
 walk_at "rd"
 refine ⟨fun m σ H'=> ∃(lo hi:Nat) (mv:Option V),σ=[some (.ref a),some (.ref t1.a),some (.int lo),some (.int hi),mv]/\m=hi - lo/\lo<=hi/\hi<=ss.length/\(∀k s,ss[k]? =some s->k<lo->bJ (jD y (2*lg) s) (jD y (2*lg) t1)=true)/\(∀k s,ss[k]? =some s->hi<=k->bJ (jD y (2*lg) s) (jD y (2*lg) t1)=false)/\aq H H',⟨_,0,ss.length,none,by rw[lB];rfl,rfl,WO _,OS _,fun k s _ hk=>absurd hk (ZQ _),(fun k s e hk=>by rw[Yl hk]at e;cases e),aq.refl H⟩,?_⟩
 rintro m σ H2 ⟨lo,hi,mv,rfl,rfl,h1,h2,h3,h4,s2⟩
 walk_at "rd"
 refine b5 (fun z=>?_) (fun z=>?_)
 ·have z1:(lo:Int)<hi:=of_decide_eq_true z
  have em:(((lo:Int)+hi) / 2)=(((lo+hi) / 2:Nat):Int):=by omega
  have hm:(lo+hi) / 2<ss.length:=by omega
  have hg:ss[(lo+hi) / 2]? =some ss[(lo+hi) / 2]:=Iw hm
  obtain ⟨ok,e0⟩:=D8 _ (XF hm)
  walk_at "rd"
  refine ⟨a,_,((lo:Int)+hi) / 2,_,rfl,rfl,bC.of (s2 _ _ ha),by rw[em];exact b9 (JK hg),_,rfl,y,lg,ss[(lo+hi) / 2],t1,rfl,hy,hz,ok.same s2,ht.same s2,e0,fun H3 s3=>?_⟩
  walk_at "rd"
  refine b5 (fun y1=>?_) (fun y1=>?_)
  ·walk_at "rd"
   have e1:((lo:Int)+hi) / 2+1=(((lo+hi) / 2+1:Nat):Int):=by omega
   refine ⟨hi - ((lo+hi) / 2+1),by omega,(lo+hi) / 2+1,hi,_,by rw[<-e1];rfl,rfl,by omega,h2,fun k s e hk=>?_,h4,s2.trans s3⟩
   by_cases q1:k=(lo+hi) / 2
   ·subst q1
    rw[hg]at e
    cases e
    exact y1
   ·obtain ⟨IA,ek⟩:=Iy.mp e
    have Oj:=key k ((lo+hi) / 2) IA hm (by omega)
    rw[ek]at Oj
    cases r:bJ (jD y (2*lg) s) (jD y (2*lg) t1)
    ·have:=L2.sR _ _ _ r Oj
     rw[this]at y1
     cases y1
    ·rfl
  ·walk_at "rd"
   have y2:bJ (jD y (2*lg) ss[(lo+hi) / 2]) (jD y (2*lg) t1)=false:=by simpa using y1
   refine ⟨(lo+hi) / 2 - lo,by omega,lo,(lo+hi) / 2,_,by rw[<-em];rfl,rfl,by omega,by omega,h3,fun k s e hk=>?_,s2.trans s3⟩
   by_cases q1:k=(lo+hi) / 2
   ·subst q1
    rw[hg]at e
    cases e
    exact y2
   ·obtain ⟨IA,ek⟩:=Iy.mp e
    have Oj:=key ((lo+hi) / 2) k hm IA (by omega)
    rw[ek]at Oj
    exact L2.sR _ _ _ y2 Oj
 ·have z1: ¬(lo:Int)<hi:=fun w=>z (decide_eq_true w)
  walk_at "rd"
  have e:hi=lo:=by omega
  subst e
  exact q hi H2 h2 h3 h4 s2
theorem qw:bI P w K mg base fj 5 K_ LM ["words","ways","band"] (jP K aW aO):=by
 have uA:=qt (P:=P) (w:=w) (base:=base) T
 have qx:=pR (P:=P) (w:=w) (base:=base) T
 have pW:=nE (P:=P) (w:=w) (base:=base) T
 refine T.Pe.fn.ok eW (fun vs H Q E h=>o4 h) (fun cJ A outer s H vs Q E hr h=>?_)
 refine ⟨_,(ag (ao (i:=3) eW.nd rfl (Or.inl rfl) (cT ae))
   (ag (cN PassesOwn.never rfl (gJ K rfl (ak uA (hr.mono (by decide)) rfl T.O6.mg T.O6.fn.kp T.O6.bd .nil az (aa (pv 0) (aa (pv 2) ae)))) (aV (i:=4) eW.nd rfl (Or.inl rfl)) (ag (ao (i:=5) eW.nd rfl (Or.inl rfl) (ak qx (hr.mono (by decide)) rfl T.Pd.mg T.Pd.fn.kp T.Pd.bd .nil az (aa (pv 0) (aa (pv 1) (aa (pv 4) ae)))))
   (ai (dM (bU K rfl XG PySem.F.slot_list_insert PySem.F.type_list_insert AB (pv 3) (aa (ak pW (hr.mono (by decide)) rfl T.Pc.mg T.Pc.fn.kp T.Pc.bd .nil az (aa (pv 3) (aa (pv 5) ae))) (aa (pv 5) ae)))))))
   (ai (aG (cK (dU K rfl) rfl T.z_tuple boot_tuple (aa (cV ["seen"] [none] (gJ K rfl (pv 3)) trivial (fun _ _ _ _=>(aV (i:=0) (by decide+kernel:List.Nodup (["seen"]:List Str)) rfl (Or.inl rfl))) (fun _ _ _ _=>gx) (fun _ _ _ _=>(bM K rfl (pv 0) rfl))) ae)))))),?_⟩
 obtain ⟨y,lg,wt,vt,ws,lL,band,rfl,hy,hz,rP,RN,wL,hb,Pq,xb,Ol,q⟩:=h
 have hs:(100000:Nat)<sizeLine:=by decide
 walk_at "rd"
 intro a na
 have s0:=aq.upd (o:= .lst []) na
 refine ⟨_,rfl,_,rfl,wt,ws,band,rfl,s0 _ _ rP,RN,fun w hw=>⟨fun c hc=>hy.lt c ((wL w hw).1.bE c hc),(wL w hw).2⟩,hb,fun b ps H1 nb oI zQ p_ s1=>?_⟩
 have J6:=s0.trans s1
 have V0:b≠a:=fun z=>by rw[z,ah]at nb;cases nb
 have V1:ps.length<=48:=by
  have h1:(ps.map Pr.pair).length<=48:=by
   rw[p_]
   have:=jd band (fun w hw=>(wL w hw).2) ws.length (OS _)
   omega
  rwa [Kw]at h1
 have pin: ∀p∈ps, ∃w,ws[p.c]? =some w/\p.i<w.length/\xW band (rd w p.i)=true:=fun p hp=>by
  have hm:p.pair∈c_ band ws ws.length:=by rw[<-p_];exact XA.mpr ⟨p,hp,rfl⟩
  exact yf hm
 refine ⟨b,rfl,⟨_,bC.of oI⟩,?_⟩
 refine kz (K:=K) (a:=b) (xs:=rz ps) (fun k σ H'=> ∃(ss:List Sn) (sv nv:Option V),σ=[some (.ref wt),some (.ref vt),some (.str (S [band])),some (.ref a),sv,nv]/\H' a=some (.lst (zM ss))/\(∀s∈ss,i9 H' aW aO y lg s/\rd s.u s.p=band/\ ∃w,ws[s.c]? =some w/\x_ w s.c s.i s/\s.i<w.length)/\(ss.map fun s=>(s.c,s.i)).Perm ((ps.take k).map Pr.pair)/\A8 y (2*lg) ss/\aT a H1 H')
  ⟨[],none,none,rfl,s1 _ _ ah,fun _ h=>absurd h Xu, .nil,List.Pairwise.nil,aT.refl _ _⟩ (fun k σ H' _ ⟨_,_,_,_,_,_,_,_,h⟩=>bC.of (h _ _ oI V0)) ?_ ?_
 ·rintro k x σ H2 hx ⟨ss,sv,nv,rfl,ha,D8,uv,Ma,s2⟩
  obtain ⟨p,hp,rfl⟩:=C5 hx
  have hk:k<ps.length:=(Iy.mp hp).1
  have Om:=WQ hp
  obtain ⟨w,hw,hi,ho⟩:=pin p Om
  have V2:=WQ hw
  have TL:p.c<lL.length:=by rw[xb];exact (Iy.mp hw).1
  have bX:=Ol p.c w lL[p.c] hw (Iw TL)
  have go: ∀c o,H c=some o->H2 c=some o:=fun c o e=>s2 _ _ (J6 c o e) (ay e na)
  have RO:=(zQ p Om).tp
  have V3:p.t≠a:=fun z=>by rw[z,s1 _ _ ah]at RO;cases RO
  have RP:=s2 _ _ RO V3
  have V4:ss.length=k:=by
   have:=uv.length_eq
   rw[Kw,Kw,Xm]at this
   omega
  refine ⟨_,rfl,_,rfl,_,rfl,y,lg,wt,vt,p.t,w,ws,lL,lL[p.c],p.c,p.i,rfl,hy,go _ _ rP,go _ _ Pq,RP,hw,Iw TL,bX.same go,hi,fun s H3 HC mN TM W9 s3=>?_⟩
  have TN:=HC.band hy (wL w V2).1 hi hb ho
  refine ⟨_,rfl, .inl ⟨rfl,_,bC.of (s3 _ _ ha)⟩,_,rfl,_,rfl,y,lg,a,ss,s,rfl,hy,hz,s3 _ _ ha,fun t ht=>⟨(D8 t ht).1.same s3,by rw[(D8 t ht).2.1,TN]⟩,TM,Ma,by omega,fun n H4 hn h1 h2 s4=>?_⟩
  have TQ:=s4 _ _ (s3 _ _ ha)
  refine ⟨_,rfl,a,_,n,_,rfl,rfl,TQ,by rw[lB];exact hn,by rw[lB];omega,?_⟩
  have e1:(zM ss).take n++V.ref s.a::(zM ss).drop n=zM (ss.take n++s::ss.drop n):=by
   unfold zM
   rw[UH,Z5,Xw,Z6]
  rw[e1]
  have su: ∀t,i9 H4 aW aO y lg t->i9 (L2.upd H4 a (.lst (zM (ss.take n++s::ss.drop n)))) aW aO y lg t:=fun t ot=>by
   have ne: ∀{c:Addr} {o:HO},H4 c=some o->(∀l,o≠ .lst l)->c≠a:=fun {c o} e no z=>by rw[z,TQ]at e;exact no _ (Xr e).symm
   obtain ⟨dx,eo⟩:=ot.ob
   obtain ⟨dw,ew⟩:=ot.wy.ob
   exact ⟨⟨dx,by rw[au (ne eo (fun l z=>by cases z))];exact eo⟩,by rw[au (ne ot.st (fun l z=>by cases z))];exact ot.st,⟨⟨dw,by rw[au (ne ew (fun l z=>by cases z))];exact ew⟩,ot.wy.sw,ot.wy.uz,ot.wy.lz,ot.wy.rt⟩,ot.pz⟩
  refine ⟨ss.take n++s::ss.drop n,_,_,rfl,ah,fun t ht=>?_,?_,JL Ma h1 h2,fun c o e z=>by rw[au z];exact s4 _ _ (s3 _ _ (s2 c o e z))⟩
  ·have:t=s\/t∈ss:=by
    rcases Xn.mp ht with r | r
    ·exact .inr (YV r)
    ·rcases UE.mp r with r | r
     ·exact .inl r
     ·exact .inr (Zb r)
   rcases this with r | r
   ·subst r
    refine ⟨su _ (TM.same s4),TN,w,?_,?_,?_⟩
    ·rw[HC.ec];exact hw
    ·rw[HC.ec,HC.ei];exact HC
    ·rw[HC.ei];exact hi
   ·exact ⟨su _ (((D8 t r).1.same s3).same s4),(D8 t r).2⟩
  ·rw[UH,Xw, <-take_snoc hp,UH,HC.ec,HC.ei]
   have p1:(ss.take n).map (fun s=>(s.c,s.i))++(p.c,p.i)::(ss.drop n).map (fun s=>(s.c,s.i)) |>.Perm ((p.c,p.i)::ss.map fun s=>(s.c,s.i)):=by
    refine Qai.trans (List.Perm.cons _ ?_)
    rw[<-UH,X3]
   exact p1.trans ((List.Perm.cons _ uv).trans (List.perm_append_singleton _ _).symm)
 ·rintro σ H2 ⟨ss,sv,nv,rfl,ha,D8,uv,Ma,s2⟩
  rw[t5,Yq,p_]at uv
  have V4:ss.length<=48:=by
   have:=uv.length_eq
   rw[Kw, <-p_,Kw]at this
   omega
  have qu:aq H H2:=fun c o e=>s2 _ _ (J6 c o e) (ay e na)
  refine ⟨_,rfl,a,rfl,⟨_,bC.of ha⟩,?_⟩
  refine qP (K:=K) (a:=a) (xs:=zM ss) (fun i acc H'=>H'=H2/\acc=(ss.take i).map fun s=>V.ref s.t) (by rw[lB];omega) (fun i acc H' h=>by rw[h.1];exact bC.of ha) ⟨rfl,rfl⟩ ?_ ?_
  ·rintro i x acc H3 Nx hi hx hl ⟨rfl,rfl⟩ nx
   obtain ⟨t,ht,rfl⟩:=Gn hx
   obtain ⟨dx,e⟩:=(D8 t (WQ ht)).1.ob
   refine ⟨trivial,eV ⟨_,rfl,t.a,aO,dx,_,_,rfl,e,T.dB,T.n_Seen_strand,rE,nx _ _ (by simpa using hl) ⟨rfl,?_⟩⟩⟩
   rw[<-take_snoc ht,UH]
   rfl
  ·rintro acc H3 D hl ⟨rfl,rfl⟩ hD
   rw[lB,Yq]
   refine ⟨D,_,rfl, .inl ⟨bC.of ah,fun t nt=>?_⟩⟩
   have sA:=(aq.upd (o:= .lst (ss.map fun s=>V.ref s.t)) hD).trans (aq.upd (o:= .tup (ss.map fun s=>V.ref s.t)) nt)
   have ep:(ss.map fun s=>(⟨s.t,s.c,s.i⟩:Pr)).map Pr.pair=ss.map fun s=>(s.c,s.i):=by rw[X4];rfl
   refine q t (ss.map fun s=>(⟨s.t,s.c,s.i⟩:Pr)) _ (aq.free (qu.trans (aq.upd hD)) nt) (by rw[ah];unfold rz;rw[X4];rfl) (fun p hp=>?_) (by rw[ep];exact uv) ?_ (qu.trans sA)
   ·obtain ⟨s,IE,rfl⟩:=XA.mp hp
    obtain ⟨ok,_,w,hw,_,hi⟩:=D8 s IE
    have h1:=(Iy.mp hw).1
    have h2:=(wL w (WQ hw)).2
    exact ⟨sA _ _ ok.st,by show s.c<1000;omega,by show s.i<1000;omega⟩
   ·rw[ep]
    unfold DH
    rw[Yc]
    refine Y0 (fun {s t} h1 h2 h=>?_) Ma
    obtain ⟨o1,_,w1,e1,i1,l1⟩:=D8 s h1
    obtain ⟨o2,_,w2,e2,i2,l2⟩:=D8 t h2
    have g1:ws.getD s.c []=w1:=by rw[UI,e1];rfl
    have g2:ws.getD t.c []=w2:=by rw[UI,e2];rfl
    rw[<-zN hy (wL w1 (WQ e1)).1 l1 g1 i1 o1.wy.rt, <-zN hy (wL w2 (WQ e2)).1 l2 g2 i2 o2.wy.rt]
    exact h
theorem wu:bI P w K mg base fj 3 K1 LA ["word"] (mV K):=by
 have wx:=uu (P:=P) (w:=w) (base:=base) T
 have cH:=fh (P:=P) (w:=w) (base:=base) T
 refine T.O9.fn.ok dI (fun vs H Q E h=>sY h) (fun cJ A outer s H vs Q E hr h=>?_)
 refine ⟨_,(ag (ao (i:=1) dI.nd rfl (Or.inl rfl) (ak wx (hr.mono (by decide)) rfl T.O8.mg T.O8.fn.kp T.O8.bd .nil az (aa (pv 0) ae)))
   (ag (ao (i:=2) dI.nd rfl (Or.inl rfl) aj)
   (ag (ao (i:=3) dI.nd rfl (Or.inl rfl) (aC aQ rfl T.z_len Xl (aa (pv 1) ae)))
   (ag (dF PassesOwn.never (PW.pt (jV (aL BG (aD dh (pv 3) (pv 2)) aj (aU _)) (jj (aL iQ (aR iB (pv 1) (pv 2) (fun _ _=>rfl)) (ak cH (hr.mono (by decide)) rfl T.F0.mg T.F0.fn.kp T.F0.bd .nil az (aa (aR iB (pv 1) (aD dh (pv 3) aj) (fun _ _=>rfl)) ae)) (aU _))))) (ag (jW (i:=2) dI.nd rfl (Or.inl rfl) aj r_)
   (ai (jW (i:=3) dI.nd rfl (Or.inl rfl) aj HV))))
   (ai (aG (bf iC (pv 1) (ba (pv 2)) (ba (pv 3))))))))),?_⟩
 obtain ⟨l,rfl,hl,hz,q⟩:=h
 have hs:(100000:Nat)<sizeLine:=by decide
 refine ⟨_,rfl,l,rfl,hl,hz,fun H1 s1=>?_⟩
 have Hd:=kO l
 have dk:=Jd hl
 generalize red l=r at Hd dk q ⊢
 have TR:r.length<=sizeLine:=by omega
 walk_at "rd"
 refine ⟨fun m σ H'=> ∃(a e:Nat),σ=[some (.str (S l)),some (.str (S r)),some (.int a),some (.int e)]/\m=e - a/\a<=e/\e<=r.length/\core (Bv r a e)=core r/\H'=H1,⟨_,0,r.length,rfl,rfl,WO _,OS _,by rw[FF],rfl⟩,?_⟩
 rintro m σ H2 ⟨a,e,rfl,rfl,h1,h2,hc,rfl⟩
 have fin:core (Bv r a e)=Bv r a e->Q (.str (S (cut r (some (a:Int)) (some (e:Int))))) H2:=fun z=>by
  have e1:cut r (some (a:Int)) (some (e:Int))=Bv r a e:=by
   unfold cut Bv
   rw[HT.gh,HT.gh]
   have e1:min a r.length=a:=by omega
   have e2:min e r.length=e:=by omega
   rw[e1,e2]
  rw[e1, <-z,hc]
  exact q H2 s1
 walk_at "rd"
 refine b5 (fun z=>?_) (fun z=>?_)
 ·have z1:(2:Int)<=(e:Int) - (a:Int):=of_decide_eq_true z
  have ha:a<r.length:=by omega
  have he:e - 1<r.length:=by omega
  have g0:m6 r (a:Int)=some r[a]:=b9 (Iw ha)
  have g1:m6 r ((e:Int) - 1)=some r[e - 1]:=by
   have:(e:Int) - 1=((e - 1:Nat):Int):=by omega
   rw[this];exact b9 (Iw he)
  have h8:r[e - 1]<128:=(dk _ (XF he)).lt
  have hw:=Je (l:=r) (s:=a) (e:=e) (by omega) h2
  refine ⟨_,rfl,_,rfl,r,_,_,rfl,rfl,TR,g0,?_⟩
  walk_at "rd"
  refine ⟨r,_,_,rfl,rfl,TR,g1,?_⟩
  walk_at "rd"
  refine b5 (fun y=>?_) (fun y=>?_)
  ·have ey:r[a]=aA r[e - 1]:=by simpa using of_decide_eq_true y
   walk_at "rd"
   refine ⟨(e - 1) - (a+1),by omega,a+1,e - 1,?_,rfl,by omega,by omega,?_,rfl⟩
   ·have e1:(a:Int)+1=((a+1:Nat):Int):=by omega
    have e2:(e:Int) - 1=((e - 1:Nat):Int):=by omega
    rw[<-e1, <-e2]
    rfl
   ·rw[<-hc,hw,y6 ey]
  ·have ey:r[a]≠aA r[e - 1]:=fun w=>y (decide_eq_true (by rw[w]))
   walk_at "rd"
   exact fin (by rw[hw,md ey])
 ·have z1: ¬(2:Int)<=(e:Int) - (a:Int):=fun w=>z (decide_eq_true w)
  walk_at "rd"
  exact fin (gY (by rw[FE h2];omega))
theorem zT:bI P w K mg base fj 4 K2 LB ["word"] (y7 K):=by
 have yv:=wu (P:=P) (w:=w) (base:=base) T
 refine T.Ex.fn.ok jy (fun vs H Q E h=>Cs h) (fun cJ A outer s H vs Q E hr h=>?_)
 refine ⟨_,(ag (ao (i:=1) jy.nd rfl (Or.inl rfl) (ak yv (hr.mono (by decide)) rfl T.O9.mg T.O9.fn.kp T.O9.bd .nil az (aa (pv 0) ae)))
   (ag (ao (i:=2) jy.nd rfl (Or.inl rfl) (pv 1))
   (ag (cN PassesOwn.never rfl (qC rfl T.z_range (aa aj (aa (aC aQ rfl T.z_len Xl (aa (pv 1) ae)) ae))) (aV (i:=3) jy.nd rfl (Or.inl rfl)) (ag (ao (i:=4) jy.nd rfl (Or.inl rfl) (aD dS (bf iC (pv 1) (ba (pv 3)) bT) (bf iC (pv 1) bT (ba (pv 3)))))
   (ai (bO (aL sI (pv 4) (pv 2) (aU _)) (ai (ao (i:=2) jy.nd rfl (Or.inl rfl) (pv 4))) bj))))
   (ai (aG (pv 2)))))),?_⟩
 obtain ⟨l,rfl,hl,hz,q⟩:=h
 have hs:(100000:Nat)<sizeLine:=by decide
 refine ⟨_,rfl,l,rfl,hl,hz,fun H1 s1=>?_⟩
 have NN:(core (red l)).length<=1000:=XM (vC _) (XM (kO l) hz)
 unfold dG fE at q
 generalize core (red l)=c at NN q ⊢
 have O5:c.length<=sizeLine:=by omega
 walk_at "rd"
 refine ⟨_,_,rfl,⟨by decide,by decide,by omega,by omega⟩,?_⟩
 refine fM (fun i σ H'=>H'=H1/\ ∃sv bv,σ=[some (.str (S l)),some (.str (S c)),some (.str (S (cf c (kR c i)))),sv,bv]) ⟨rfl,none,none,rfl⟩ ?_ ?_
 ·rintro i σ H2 hi ⟨rfl,sv,bv,rfl⟩
  have e1:(1:Int)+(i:Int)=((i+1:Nat):Int):=by omega
  rw[e1]
  have hlen:(cut c (some ((i+1:Nat):Int)) none).length+(cut c none (some ((i+1:Nat):Int))).length<=sizeLine:=by rw[cQ,cY,Xx,Xm];omega
  have yr:cut c (some ((i+1:Nat):Int)) none++cut c none (some ((i+1:Nat):Int))=dJ c (i+1):=by rw[cQ,cY];rfl
  walk_at "rd"
  rw[yr]
  refine b5 (fun z=>?_) (fun z=>?_)
  ·have z':dJ c (i+1)<cf c (kR c i):=of_decide_eq_true z
   have hle:cf c (kR c (i+1))=dJ c (i+1):=by rw[qY,gZ];unfold cO;rw[if_pos z']
   refine ⟨_,rfl,?_⟩
   rw[hle]
   exact ⟨rfl,_,_,rfl⟩
  ·have z': ¬dJ c (i+1)<cf c (kR c i):=fun y=>z (decide_eq_true y)
   have hle:cf c (kR c (i+1))=cf c (kR c i):=by rw[qY,gZ];unfold cO;rw[if_neg z']
   rw[hle]
   exact ⟨rfl,_,_,rfl⟩
 ·rintro σ H2 ⟨rfl,sv,bv,rfl⟩
  have e:((c.length:Int) - 1).toNat=c.length - 1:=by omega
  rw[e]
  exact ⟨_,rfl,q _ s1⟩
theorem GJ:bI P w K mg base fj 5 K3 LC ["word"] (y8 K):=by
 have uC:=zT (P:=P) (w:=w) (base:=base) T
 refine T.O_.fn.ok nZ (fun vs H Q E h=>Cu h) (fun cJ A outer s H vs Q E hr h=>?_)
 refine ⟨_,(ag (ao (i:=1) nZ.nd rfl (Or.inl rfl) (ak uC (hr.mono (by decide)) rfl T.Ex.mg T.Ex.fn.kp T.Ex.bd .nil az (aa (pv 0) ae)))
   (ag (cN PassesOwn.never rfl (qC rfl T.z_range (aa aj (aa (aD bz (aC aQ rfl T.z_len Xl (aa (pv 1) ae)) aj) ae))) (aV (i:=2) nZ.nd rfl (Or.inl rfl)) (ag (ao (i:=3) nZ.nd rfl (Or.inl rfl) (aD eY (aC aQ rfl T.z_len Xl (aa (pv 1) ae)) (pv 2)))
   (ai (bO (aL iQ (aD sM (bf iC (pv 1) bT (ba (pv 2))) (pv 3)) (pv 1) (aU _)) (ai (aG (cB (aa (bf iC (pv 1) bT (ba (pv 2))) (aa (pv 3) ae))))) bj))))
   (ai (aG (cB (aa (iM [] (by decide+kernel)) (aa aj ae))))))),?_⟩
 obtain ⟨l,rfl,hl,hz,q⟩:=h
 have hs:(100000:Nat)<sizeLine:=by decide
 walk_at "wk"
 intro H1 s1
 have hw:(dG l).length<=1000:=XM (AK l) hz
 generalize dG l=c at hw q ⊢
 have O5:c.length<=sizeLine:=by omega
 walk_at "wk"
 refine ⟨_,_,rfl,⟨by decide,by decide,by omega,by omega⟩,?_⟩
 refine fM (fun i σ H'=>H'=H1/\(∀j,1<=j->j<=i-> ¬gK c j)/\ ∃sv tv,σ=[some (.str (S l)),some (.str (S c)),sv,tv]) ⟨rfl,fun j h1 h2=>by omega,none,none,rfl⟩ ?_ ?_
 ·rintro i σ H2 hi ⟨rfl,PQ,sv,tv,rfl⟩
  have e1:(1:Int)+(i:Int)=((i+1:Nat):Int):=by omega
  rw[e1]
  have e2:(c.length:Int) / ((i+1:Nat):Int)=((c.length / (i+1):Nat):Int):=(ZC _ _).symm
  have hd:=Nat.div_le_self c.length (i+1)
  have hmul:(c.take (i+1)).length*(c.length / (i+1))<=sizeLine:=by
   have h1:(c.take (i+1)).length<=i+1:=by rw[Xm];omega
   have h2:=Nat.mul_div_le c.length (i+1)
   have h3:=Nat.mul_le_mul_right (c.length / (i+1)) h1
   omega
  walk_at "wk"
  refine ⟨⟨by rw[e2];exact kb _,by rw[e2];exact Int.ofNat_le.mpr (XM hd (by omega:c.length<=1000000))⟩,by rw[e2,cQ,UG];exact hmul,?_⟩
  walk_at "wk"
  refine b5 (fun z=>?_) (fun z=>?_)
  ·have z1:gK c (i+1):=by
    have:=of_decide_eq_true z
    rw[e2,cQ,UG]at this
    exact this
   walk_at "wk"
   intro p np
   refine q p (i+1) _ (aq.free s1 np) ?_ (.inr ⟨by omega,by omega,z1,fun j j1 j2=>PQ j j1 (by omega)⟩) (s1.trans (aq.upd np))
   rw[ah]
   unfold Hg
   rw[<-cQ, <-e2]
  ·have z1: ¬gK c (i+1):=fun y=>z (decide_eq_true (by
    rw[e2,cQ,UG]
    exact y))
   refine ⟨rfl,fun j j1 j2=>?_,_,_,rfl⟩
   by_cases y:j=i+1
   ·rw[y];exact z1
   ·exact PQ j j1 (by omega)
 ·rintro σ H2 ⟨rfl,PQ,sv,tv,rfl⟩
  have hc:c=[]:=by
   by_cases z:c=[]
   ·exact z
   ·have hl:0<c.length:=SD.mpr z
    exact absurd (AL c z) (PQ _ hl (by omega))
  subst hc
  walk_at "wk"
  intro p np
  exact q p 0 _ (aq.free s1 np) (by rw[ah];rfl) (.inl ⟨rfl,rfl⟩) (s1.trans (aq.upd np))
theorem pX:bI P w K mg base fj 2 KZ Ly ["word","place"] (iZ K):=by
 have cH:=fh (P:=P) (w:=w) (base:=base) T
 refine T.O7.fn.ok pL (fun vs H Q E h=>nh h) (fun cJ A outer s H vs Q E hr h=>?_)
 refine ⟨_,(ai (aG (cB (aa (ak cH (hr.mono (by decide)) rfl T.F0.mg T.F0.fn.kp T.F0.bd .nil az (aa (aR iB (pv 0) (aD dh (pv 1) aj) (fun _ _=>rfl)) ae)) (aa (aR iB (pv 0) (pv 1) (fun _ _=>rfl)) ae))))),?_⟩
 obtain ⟨w,i,rfl,hl,hz,hi,q⟩:=h
 have hs:(100000:Nat)<sizeLine:=by decide
 have dH:w≠[]:=fun z=>by rw[z]at hi;simp at hi
 refine ⟨_,rfl,_,rfl,_,_,rfl,rfl,w,_,_,rfl,rfl,by omega,kT (by omega) (by omega),_,rfl,(hl _ (iW dH _)).lt,?_⟩
 refine ⟨_,rfl,_,rfl,w,_,_,rfl,rfl,by omega,kT (by omega) (by omega),by show 2<=sizeLine;decide,fun t nt=>?_⟩
 exact q t _ nt ah (aq.upd nt)
theorem pY:bI P w K mg base fj 1 f3 d3 ["yard","start","end"] (iV K):=by
 refine T.F3.fn.ok pK (fun vs H Q E h=>ng h) (fun cJ A outer s H vs Q E hr h=>?_)
 refine ⟨_,(ai (aG (aD fk (aD dh (bU K rfl Xt PySem.F.slot_str_find PySem.F.type_str_find u5 (pv 0) (aa (pv 2) ae)) (bU K rfl Xt PySem.F.slot_str_find PySem.F.type_str_find u5 (pv 0) (aa (pv 1) ae))) (aC aQ rfl T.z_len Xl (aa (pv 0) ae))))),?_⟩
 obtain ⟨y,a,b,rfl,ha,hb,hz,q⟩:=h
 have hs:(1000:Nat)<sizeLine:=by decide
 have hp:(0:Int)<(y.length:Int):=by have:=List.length_pos_of_mem ha;omega
 refine ⟨_,rfl,rfl,_,rfl,y,b,rfl,rfl,?_⟩
 rw[if_pos hb]
 refine ⟨_,rfl,rfl,_,rfl,y,a,rfl,rfl,?_⟩
 rw[if_pos ha]
 exact ⟨_,_,rfl,rfl,_,rfl,y,rfl,by omega,_,_,rfl,rfl,hp,q⟩
theorem nF:bI P w K mg base fj 3 K4 LD ["yard","word","place"] (ik K):=by
 have qy:=pX (P:=P) (w:=w) (base:=base) T
 have qz:=pY (P:=P) (w:=w) (base:=base) T
 refine T.Pa.fn.ok iu (fun vs H Q E h=>mB h) (fun cJ A outer s H vs Q E hr h=>?_)
 refine ⟨_,(ag (ao (i:=3) iu.nd rfl (Or.inl rfl) (ak qy (hr.mono (by decide)) rfl T.O7.mg T.O7.fn.kp T.O7.bd .nil az (aa (pv 1) (aa (pv 2) ae))))
   (ai (aG (ak qz (hr.mono (by decide)) rfl T.F3.mg T.F3.fn.kp T.F3.bd .nil az (aa (pv 0) (aa (aR (bD K rfl) (pv 3) aj (fun _ _=>rfl)) (aa (aR (bD K rfl) (pv 3) aj (fun _ _=>rfl)) ae))))))),?_⟩
 obtain ⟨y,w,i,rfl,hy,hz,hw,lM,hi,q⟩:=h
 refine ⟨_,rfl,_,rfl,w,i,rfl,fun c hc=>hy.lt c (hw.bE c hc),lM,hi,fun p H1 np hp s1=>?_⟩
 refine ⟨_,rfl,_,rfl,p,_,0,_,rfl,rfl,cS.of hp,rfl,_,rfl,p,_,1,_,rfl,rfl,cS.of hp,rfl,y,_,_,rfl,hy.cl _ (hw.rd _),hw.rd _,by omega,?_⟩
 have rg:=eQ (hy.cl _ (hw.rd ((i:Int) - 1))) (hw.rd i) (Ne.symm (hw.red i))
 obtain ⟨n,hn⟩: ∃n:Nat,cst y w i=n:=⟨(cst y w i).toNat,by have:=rg.1;unfold cst;omega⟩
 have:=rg.2.1
 have e:vI y (aA (rd w ((i:Int) - 1))) (rd w i)=n:=hn
 have key:=q n H1 hn (by omega) s1
 rw[<-e]at key
 exact key
theorem D9:bI P w K mg base fj 6 jQ we ["self","yard","word","longest"] (vW K aW):=by
 have J9:=GJ (P:=P) (w:=w) (base:=base) T
 have uC:=zT (P:=P) (w:=w) (base:=base) T
 have pZ:=rT (P:=P) (w:=w) (base:=base) T
 have p5:=nF (P:=P) (w:=w) (base:=base) T
 refine T.N1.ok pQ (fun vs H Q E h=>A7 h) (fun cJ A outer s H vs Q E hr h=>?_)
 refine ⟨_,(ag (iK (pv 0) (aC aQ rfl T.z_len Xl (aa (pv 2) ae)) rfl)
   (ag (iK (pv 0) (aC aQ rfl T.z_len Xl (aa (aR (bD K rfl) (ak J9 (hr.mono (by decide)) rfl T.O_.mg T.O_.fn.kp T.O_.bd .nil az (aa (pv 2) ae)) aj (fun _ _=>rfl)) ae)) rfl)
   (ag (iK (pv 0) (jk sI (ak uC (hr.mono (by decide)) rfl T.Ex.mg T.Ex.fn.kp T.Ex.bd .nil az (aa (pv 2) ae)) (ak uC (hr.mono (by decide)) rfl T.Ex.mg T.Ex.fn.kp T.Ex.bd .nil az (aa (ak pZ (hr.mono (by decide)) rfl T.F1.mg T.F1.fn.kp T.F1.bd .nil az (aa (pv 2) ae)) ae)) (aU _)) rfl)
   (ag (ao (i:=4) pQ.nd rfl (Or.inl rfl) (bU K rfl Xt X2 Yk (fT K rfl) (iM [] (by decide+kernel)) (aa (cV ["place","yard","word"] [none,some 1,some 2] (gI rfl T.z_range (aa (aC aQ rfl T.z_len Xl (aa (pv 2) ae)) ae)) ⟨⟨rfl,rfl,by first | exact .inl rfl | exact .inr rfl⟩,⟨⟨rfl,rfl,by first | exact .inl rfl | exact .inr rfl⟩,trivial⟩⟩ (fun _ _ _ _=>(aV (i:=0) (by decide+kernel:List.Nodup (["place","yard","word"]:List Str)) rfl (Or.inl rfl))) (fun _ _ _ _=>gx) (fun _ _ _ _=>(cK AA rfl T.z_str boot_str (aa (ak p5 (hr.mono (by decide)) rfl T.Pa.mg T.Pa.fn.kp T.Pa.bd .nil az (aa (pv 1) (aa (pv 2) (aa (pv 0) ae)))) ae)))) ae)))
   (ag (ao (i:=5) pQ.nd rfl (Or.inl rfl) (aD bz aj (aD eY (pv 3) (aC (Aa rfl) rfl T.z_max boot_max (aa (aC aQ rfl T.z_len Xl (aa (pv 2) ae)) (aa aj ae))))))
   (ag (iK (pv 0) (aD sM (pv 4) (pv 5)) rfl)
   (ai (iK (pv 0) (aD sM (Ft (pv 4) (ba (jF gw aj))) (pv 5)) rfl)))))))),?_⟩
 obtain ⟨x,dx,y,w',lg,rfl,hx,hy,hz,hw,xb,PR,q⟩:=h
 have hs:(100000:Nat)<sizeLine:=by decide
 have dk: ∀c∈w',Lt c:=fun c hc=>hy.lt c (hw.bE c hc)
 have h8: ∀c∈w',c<128:=fun c hc=>(dk c hc).lt
 have ht:=hw.dA hy
 have V5: ∀c∈dA w',Lt c:=fun c hc=>hy.lt c (ht.bE c hc)
 have h1:1<=w'.length:=SD.mpr hw.ne
 have rl:=lA (lg:=lg) h1
 obtain ⟨rt,PU⟩:=zf hw.ne
 refine ⟨_,rfl,w',rfl,by omega,_,rfl,x,aW,dx,_,rfl,hx,T.gq,T.n_Way_size,by show 0<1000;decide,?_⟩
 refine ⟨_,rfl,w',rfl,dk,by omega,fun p1 s1 H1 n1 ua Hd Oi=>?_⟩
 obtain ⟨er,el⟩:=AU hy hw Hd PU
 subst er
 have et:((dG w').take s1).length=s1:=by
  rw[Xm,el]
  rcases PU with ⟨z,_⟩ | ⟨_,h2,_⟩
  ·exact absurd z hw.ne
  ·omega
 have V6:s1<=w'.length:=by
  rcases PU with ⟨z,_⟩ | ⟨_,h2,_⟩
  ·exact absurd z hw.ne
  ·exact h2
 have V7:=Oi _ _ (ah (H:=H) (a:=x))
 refine ⟨p1,_,0,_,rfl,rfl,cS.of ua,rfl,_,rfl,by rw[et];omega,_,rfl,x,aW,dx,_,rfl,V7,T.gq,T.n_Way_root_size,XN (da _ _ _) (by show 0+1<1000;decide),?_⟩
 rw[et]
 refine ⟨_,rfl,w',rfl,dk,by omega,fun H2 s2=>⟨_,rfl,w',rfl,h8,by omega,fun H3 s3=>⟨dA w',rfl,V5,by rw[bV];omega,fun H4 s4=>?_⟩⟩⟩
 have TU:=s2.trans (s3.trans s4)
 have RQ:=TU _ _ (ah (a:=x))
 refine ⟨_,_,rfl,rfl,_,rfl,x,aW,dx,_,rfl,RQ,T.gq,T.n_Way_leads,XN (da _ _ _) (XN (Yp (da _ _ _)) (by show 0+1+1<1000;decide)),?_⟩
 have V8:decide (dG w'<dG (dA w'))=leads w':=by
  unfold leads
  rw[hw.dG hy,ht.dG hy]
 refine ⟨rfl,_,rfl,w',rfl,by omega,_,rfl,by omega,by omega,?_⟩
 rw[UG]
 refine B4 (fun i acc H'=>aq _ H'/\acc=cn ((stx y w').take i)) (by omega) ⟨aq.refl _,rfl⟩ ?_ ?_
 ·rintro i acc H5 Nx hi hl ⟨s5,rfl⟩ nx
  refine ⟨⟨rfl,rfl,trivial⟩,eV ⟨_,rfl,_,rfl,_,rfl,y,w',i,by rw[YL];rfl,hy,hz,hw,by omega,hi,fun n H6 hn V9 s6=>⟨n,rfl,by omega,nx _ _ (by simpa using hl) ⟨s5.trans s6,?_⟩⟩⟩⟩
  have eg:(stx y w')[i]? =some (48+n):=by
   unfold stx
   rw[Xo,List.getElem?_range hi]
   show some (wH (cst y w' i))=_
   rw[hn]
   unfold wH
   congr 1
  rw[JI n (by omega),cX,take_snoc eg]
 ·rintro acc H5 D hl ⟨s5,rfl⟩ hD
  have Ob:(stx y w').take w'.length=stx y w':=Xz (by rw[dc];exact OS _)
  rw[Ob]at hl ⊢
  refine ⟨D,(stx y w').map fun c=>[c],rfl,rfl,bC.of (by rw[ah, <-eM]),by rw[vz,dc];omega,?_⟩
  rw[mU]
  have TV:=s5.trans (aq.upd (o:= .lst (cn (stx y w'))) hD)
  have RS:=TV _ _ (ah (a:=x))
  have RT:(if (1:Int)>(w'.length:Int) then (1:Int) else (w'.length:Int))=(max w'.length 1:Nat):=by split<;>omega
  have J_:(3:Int)+(lg:Int) / (if (1:Int)>(w'.length:Int) then (1:Int) else (w'.length:Int))=(i8 lg w'.length:Nat):=by
   rw[RT]
   unfold i8
   rw[X6,ZC]
   rfl
  have rb:i8 lg w'.length<=1003:=by unfold i8;have:=Nat.div_le_self lg (max w'.length 1);omega
  refine ⟨_,rfl,_,rfl,w',rfl,by omega,_,_,rfl,_,_,rfl,rfl,⟨by rw[RT];omega,by rw[RT];omega⟩,_,_,rfl,rfl,?_⟩
  have l3: ∀(a b c:V),(dP "leads" a (dP "root_size" b (dP "size" c []))).length<=3:=fun a b c=>XM (da _ _ _) (Yp (XM (da _ _ _) (Yp (da _ _ _))))
  refine ⟨_,rfl,_,rfl,stx y w',_,rfl,rfl,⟨by rw[J_];omega,by rw[J_];omega⟩,by rw[J_,UG,dc];omega,_,rfl,x,aW,dx,_,rfl,RS,T.gq,T.n_Way_onward,XN (l3 _ _ _) (by decide),?_⟩
  refine ⟨_,rfl,1,rfl,_,rfl,rfl,stx y w',rfl,by rw[dc];omega,_,rfl,(stx y w').reverse,_,rfl,rfl,⟨by rw[J_];omega,by rw[J_];omega⟩,by rw[J_,UG,XB,dc];omega,_,rfl,x,aW,dx,_,rfl,ah,T.gq,T.n_Way_backward,XN (da _ _ _) (XN (Yp (l3 _ _ _)) (by decide)),?_⟩
  refine q s1 _ PU ?_ fun b o eb zb=>?_
  ·rw[ah]
   unfold mw
   rw[<-V8,J_,UG]
  ·rw[au zb,au zb]
   refine TV _ _ ?_
   rw[au zb]
   refine TU _ _ ?_
   rw[au zb]
   refine Oi _ _ ?_
   rw[au zb]
   exact eb
theorem zU:bI P w K mg base fj 8 La LN ["yard","words"] (zO K):=by
 have pZ:=rT (P:=P) (w:=w) (base:=base) T
 have uw:=wm (P:=P) (w:=w) (base:=base) T
 have uD:=qw (P:=P) (w:=w) (base:=base) T
 have zV:=D9 (P:=P) (w:=w) (base:=base) T
 refine T.JX.fn.ok ur (fun vs H Q E h=>DI h) (fun cJ A outer s H vs Q E hr h=>?_)
 refine ⟨_,(ag (ao (i:=2) ur.nd rfl (Or.inr rfl) (Fv K rfl rfl rfl T.z_max (aa (cV ["word"] [none] (sJ K rfl (pv 1)) trivial (fun _ _ _ _=>(aV (i:=0) (by decide+kernel:List.Nodup (["word"]:List Str)) rfl (Or.inl rfl))) (fun _ _ _ _=>gx) (fun _ _ _ _=>(aC aQ rfl T.z_len Xl (aa (pv 0) ae)))) ae)))
   (ag (ao (i:=3) ur.nd rfl (Or.inr rfl) (cV ["word","yard","longest"] [none,some 0,some 2] (sJ K rfl (pv 1)) ⟨⟨rfl,rfl,by first | exact .inl rfl | exact .inr rfl⟩,⟨⟨rfl,rfl,by first | exact .inl rfl | exact .inr rfl⟩,trivial⟩⟩ (fun _ _ _ _=>(aV (i:=0) (by decide+kernel:List.Nodup (["word","yard","longest"]:List Str)) rfl (Or.inl rfl))) (fun _ _ _ _=>gx) (fun _ _ _ _=>(cB (aa (nI T.Hw zV (hr.mono (by decide)) rfl T.Hv T.Hx .nil az (aa (pv 1) (aa (pv 0) (aa (pv 2) ae)))) (aa (nI T.Hw zV (hr.mono (by decide)) rfl T.Hv T.Hx .nil az (aa (pv 1) (aa (ak pZ (hr.mono (by decide)) rfl T.F1.mg T.F1.fn.kp T.F1.bd .nil az (aa (pv 0) ae)) (aa (pv 2) ae)))) ae))))))
   (ai (aG (cB (aa (cK (dU K rfl) rfl T.z_tuple boot_tuple (aa (pv 1) ae)) (aa (cK (dU K rfl) rfl T.z_tuple boot_tuple (aa (cV ["band","words","ways"] [none,some 1,some 3] (jZ (ak uw (hr.mono (by decide)) rfl T.F2.mg T.F2.fn.kp T.F2.bd .nil az (aa (pv 0) ae))) ⟨⟨rfl,rfl,by first | exact .inl rfl | exact .inr rfl⟩,⟨⟨rfl,rfl,by first | exact .inl rfl | exact .inr rfl⟩,trivial⟩⟩ (fun _ _ _ _=>(aV (i:=0) (by decide+kernel:List.Nodup (["band","words","ways"]:List Str)) rfl (Or.inl rfl))) (fun _ _ _ _=>gx) (fun _ _ _ _=>(ak uD (hr.mono (by decide)) rfl T.Pe.mg T.Pe.fn.kp T.Pe.bd .nil az (aa (pv 1) (aa (pv 2) (aa (pv 0) ae)))))) ae)) ae))))))),?_⟩
 obtain ⟨y,wt,ws,rfl,hy,hz,rP,RN,wL,q⟩:=h
 have hs:(100000:Nat)<sizeLine:=by decide
 have Pu: ∀c∈y,c<128:=He hy.lt
 have VN:=gO hy
 obtain ⟨lg,V_,Wa,PR⟩:=yg fun w hw=>(wL w hw).2
 refine ⟨_,rfl,wt,rfl,⟨_,cS.of rP⟩,?_⟩
 refine vd (K:=K) (a:=wt) (xs:=gX ws) (fun i acc H'=>H'=H/\acc=(Gp (ws.take i)).map V.int) (by rw[cj];omega) (fun i acc H' h=>by rw[h.1];exact cS.of rP) ⟨rfl,rfl⟩ ?_ ?_
 ·rintro i x acc H1 Nx hi hx hl ⟨rfl,rfl⟩ nx
  rw[cj]at hi
  rw[iT hi]at hx
  cases hx
  have Ka:=wL ws[i] (XF hi)
  refine ⟨trivial,eV ⟨_,rfl,ws[i],rfl,by omega,nx _ _ (by simpa using hl) ⟨rfl,?_⟩⟩⟩
  rw[<-take_snoc (Iw hi)]
  unfold Gp
  rw[UH,UH]
  rfl
 ·rintro acc H1 D hl ⟨rfl,rfl⟩ hD
  rw[cj,Yq]
  refine ⟨D,Gp ws,rfl,bC.of ah,?_⟩
  rw[V_]
  have sD:=aq.upd (o:= .lst ((Gp ws).map V.int)) hD
  refine ⟨_,rfl,wt,rfl,⟨_,cS.of (sD _ _ rP)⟩,?_⟩
  refine vd (K:=K) (a:=wt) (xs:=gX ws) (fun i acc H'=>aq H1 H'/\ ∃lL:List Wp,acc=Ew lL/\lL.length=i/\ ∀(c:Nat) (w:List Nat) (p:Wp),ws[c]? =some w->lL[c]? =some p->ue H' aW y lg w p) (by rw[cj];omega) (fun i acc H' h=>cS.of (h.1 _ _ rP)) ⟨sD,[],rfl,rfl,fun c w p _ h=>by simp at h⟩ ?_ ?_
  ·rintro i x acc H2 Nx hi hx Ak ⟨s2,lL,rfl,xb,Ol⟩ nx
   rw[cj]at hi
   rw[iT hi]at hx
   cases hx
   have Ka:=wL ws[i] (XF hi)
   have TX:ws[i]? =some ws[i]:=Iw hi
   have Oo:=PR ws[i] (XF hi)
   generalize ws[i]=w' at Ka TX Oo ⊢
   have h8: ∀c∈w',c<128:=fun c hc=>(hy.lt c (Ka.1.bE c hc)).lt
   refine ⟨⟨rfl,rfl,trivial⟩,eV ?_⟩
   refine ⟨_,rfl,_,rfl,_,rfl,fun x1 TY Wb RU ne1=>⟨x1,TY,y,w',lg,rfl,ah,hy,hz,Ka.1,Oo,by omega,fun r H3 hr RF Wc=>⟨rfl,?_⟩⟩⟩
   have We:=rJ Wb RU Wc
   refine ⟨_,rfl,_,rfl,w',rfl,h8,by omega,fun H4 Oq=>⟨_,rfl,fun x2 TZ RV RW ne2=>⟨x2,TZ,y,dA w',lg,rfl,ah,hy,hz,Ka.1.dA hy,by rw[bV];exact Oo,by omega,fun r2 H5 ND RS Wf=>⟨rfl,?_⟩⟩⟩⟩
   have Wg:=rJ RV RW Wf
   refine ⟨by show 2<=sizeLine;decide,fun t nt=>?_⟩
   have T1:=aq.upd (o:= .tup [.ref x1, .ref x2]) nt
   have Mb:=Oq.trans (Wg.trans T1)
   have all:=We.trans Mb
   refine nx _ _ (by simpa using Ak) ⟨s2.trans all,lL++[⟨t,x1,x2,r,r2⟩],DD lL ⟨t,x1,x2,r,r2⟩,by rw[UD,xb];rfl,Gr xb (fun c w p a b=>(Ol c w p a b).same all) TX ⟨ah,⟨⟨TY,Mb _ _ RF⟩,Ka.1,Oo,by omega,hr⟩,⟨⟨TZ,T1 _ _ RS⟩,Ka.1.dA hy,by rw[bV];exact Oo,by omega,ND⟩⟩⟩
  ·rintro acc H2 D2 Ak ⟨s2,lL,rfl,xb,Ol⟩ Wh
   rw[cj]at xb
   have T3:=aq.upd (o:= .lst (Ew lL)) Wh
   have qu:=s2.trans T3
   refine ⟨_,rfl,wt,_,rfl, .inr ⟨cS.of (qu _ _ rP),?_⟩⟩
   refine ⟨_,rfl,y,rfl,Pu,by omega,fun l' H3 yE KP s3=>?_⟩
   have el:=zx yE KP
   subst el
   refine ⟨_,rfl,?_⟩
   have zR:=qu.trans s3
   have Wi:=s3 _ _ (ah (H:=H2) (a:=D2) (o:=HO.lst (Ew lL)))
   refine fS (xs:=cn (fK y)) (fun i acc H'=>aq H3 H'/\ ∃os:List Od,acc=Gb os/\(∀o∈os,A0 H' o)/\os.length=i/\(∀(j:Nat) (o:Od) (b:Nat),os[j]? =some o->(fK y)[j]? =some b->(o.ps.map Pr.pair).Perm (c_ b ws ws.length))/\ ∀o∈os,DH y ws (2*lg) (o.ps.map Pr.pair)) (by rw[aN];omega) ⟨aq.refl _,[],rfl,fun _ h=>absurd h Xu,rfl,fun j o b h=>by simp at h,fun _ h=>absurd h Xu⟩ ?_ ?_
   ·rintro i x acc H4 Nx hi hx Bi ⟨s4,os,rfl,NA,Jy,RX,RY⟩ nx
    obtain ⟨b,hb,rfl⟩:=eT hx
    have Wj:=vZ hy (WQ hb)
    refine ⟨⟨rfl,rfl,trivial⟩,eV ?_⟩
    refine ⟨_,rfl,_,rfl,_,rfl,y,lg,wt,D2,ws,lL,b,rfl,hy,hz,s4 _ _ (zR _ _ rP),RN,wL,Wj,s4 _ _ Wi,xb,fun c w p a1 a2=>(Ol c w p a1 a2).same (T3.trans (s3.trans s4)),fun t ps H5 nt ht zQ uv Ma s5=>?_⟩
    have Td:ps.length<=100:=by
     have h1:=uv.length_eq
     have h2:=jd b (fun w hw=>(wL w hw).2) ws.length (OS _)
     rw[Kw]at h1
     omega
    refine nx _ _ (by simpa using Bi) ⟨s4.trans s5,os++[⟨t,ps⟩],C6 os ⟨t,ps⟩,fun o ho=>?_,by rw[UD,Jy];rfl,fun j o b' ho Bw=>?_,fun o ho=>?_⟩
    ·rcases Xn.mp ho with g | g
     ·exact (NA o g).same s5
     ·rw[Sz.mp g]
      exact ⟨ht,zQ,Td⟩
    ·by_cases z:j<os.length
     ·rw[XT z]at ho
      exact RX j o b' ho Bw
     ·rw[Yf (by omega)]at ho
      have:j=i:=by
       have:=(Iy.mp ho).1
       simp at this
       omega
      subst this
      rw[Jy,Nat.sub_self]at ho
      cases ho
      rw[hb]at Bw
      cases Bw
      exact uv
    ·rcases Xn.mp ho with g | g
     ·exact RY o g
     ·rw[Sz.mp g]
      exact Ma
   ·rintro acc H4 D3 Bi ⟨s4,os,rfl,NA,Jy,RX,RY⟩ RZ
    rw[aN]at Jy
    refine ⟨D3,_,rfl, .inl ⟨bC.of ah,fun t nt=>?_⟩⟩
    refine ⟨by show 2<=sizeLine;decide,fun dr R0=>?_⟩
    have sA:=(aq.upd (o:= .lst (Gb os)) RZ).trans ((aq.upd (o:= .tup (Gb os)) nt).trans (aq.upd (o:= .tup [.ref wt, .ref t]) R0))
    have Wl:t≠dr:=fun z=>by rw[<-z,ah]at R0;cases R0
    have Ot:=zR.trans s4
    exact q dr os _ ⟨⟨wt,t,ah,sA _ _ (Ot _ _ rP),by rw[au Wl,ah]⟩,fun o ho=>(NA o ho).same sA⟩ ⟨2*lg,fun w hw v hv=>by have:=PR w hw;have:=PR v hv;omega,⟨Jy,RX⟩,RY⟩ (Ot.trans sA)
theorem p6:bI P w K mg base fj 9 Lc LO ["yard","words"] (v9 K):=by
 have cy:=gs (P:=P) (w:=w) (base:=base) T
 have mM:=pU (P:=P) (w:=w) (base:=base) T
 have yx:=zU (P:=P) (w:=w) (base:=base) T
 refine T.Ey.fn.ok D0 (fun vs H Q E h=>Ba h) (fun cJ A outer s H vs Q E hr h=>?_)
 refine ⟨_,(ai (aG (ak cy (hr.mono (by decide)) rfl T.Bd.mg T.Bd.fn.kp T.Bd.bd .nil az (aa (ak mM (hr.mono (by decide)) rfl T.F7.mg T.F7.fn.kp T.F7.bd .nil az (aa (pv 0) (aa (ak yx (hr.mono (by decide)) rfl T.JX.mg T.JX.fn.kp T.JX.bd .nil az (aa (pv 0) (aa (pv 1) ae))) ae))) ae)))),?_⟩
 obtain ⟨y,wt,ws,rfl,hy,hz,hk,rP,q⟩:=h
 refine ⟨_,rfl,_,rfl,_,rfl,y,wt,ws,rfl,hy,hz,rP,hk.wD,hk.sw,fun dr os H1 KD ht s1=>?_⟩
 obtain ⟨nd,e⟩:=A_ hy (fun w hw=>(hk.sw w hw).1) ht
 obtain ⟨M,_,ok,_⟩:=id ht
 refine ⟨y,dr,ws,os,rfl,hy,hz,hk.ok,ok,KD,fun p qs H2 np hp GI zS s2=>?_⟩
 have hl:=rK (os:=os) hk
 have PK:qs.length<=24:=by rw[<-zS,Kw]at hl;omega
 refine ⟨p,qs,rfl,hp,GI,PK,by rw[zS];exact nd,fun H3 s3=>?_⟩
 rw[zS]
 exact q _ H3 (s1.trans (s2.trans s3)) e
theorem p7:bI P w K mg base fj 9 Le LQ ["yard","one","other"] (o7 K):=by
 have mM:=pU (P:=P) (w:=w) (base:=base) T
 have yx:=zU (P:=P) (w:=w) (base:=base) T
 have cy:=gs (P:=P) (w:=w) (base:=base) T
 refine T.Ez.fn.ok hV (fun vs H Q E h=>v_ h) (fun cJ A outer s H vs Q E hr h=>?_)
 refine ⟨_,(ag (ao (i:=3) hV.nd rfl (Or.inl rfl) (ak mM (hr.mono (by decide)) rfl T.F7.mg T.F7.fn.kp T.F7.bd .nil az (aa (pv 0) (aa (ak yx (hr.mono (by decide)) rfl T.JX.mg T.JX.fn.kp T.JX.bd .nil az (aa (pv 0) (aa (cB (aa (pv 1) (aa (pv 2) ae))) ae))) ae))))
   (ag (ao (i:=4) hV.nd rfl (Or.inl rfl) (bf (iR K rfl) (pv 3) bT (ba (aC aQ rfl T.z_len Xl (aa (pv 1) ae)))))
   (ag (ao (i:=5) hV.nd rfl (Or.inl rfl) (bf (iR K rfl) (pv 3) (ba (aC aQ rfl T.z_len Xl (aa (pv 1) ae))) bT))
   (ai (aG (aD dh (aD dh (ak cy (hr.mono (by decide)) rfl T.Bd.mg T.Bd.fn.kp T.Bd.bd .nil az (aa (pv 3) ae)) (ak cy (hr.mono (by decide)) rfl T.Bd.mg T.Bd.fn.kp T.Bd.bd .nil az (aa (pv 4) ae))) (ak cy (hr.mono (by decide)) rfl T.Bd.mg T.Bd.fn.kp T.Bd.bd .nil az (aa (pv 5) ae)))))))),?_⟩
 obtain ⟨y,w',v,rfl,hy,hz,hw,lM,hv,Wm,q⟩:=h
 have hs:(100000:Nat)<sizeLine:=by decide
 have hk:=tE hw hv lM Wm
 refine ⟨_,rfl,_,rfl,_,rfl,_,rfl,by show 2<=sizeLine;decide,fun t nt=>?_⟩
 have st:=aq.upd (o:= .tup [.str (S w'), .str (S v)]) nt
 refine ⟨y,t,[w',v],rfl,hy,hz,ah,hk.wD,hk.sw,fun dr os H1 KD ht s1=>?_⟩
 obtain ⟨e,n0,n1,n2⟩:=Gv hy hw hv ht
 obtain ⟨M,_,ok,_⟩:=id ht
 refine ⟨y,dr,[w',v],os,rfl,hy,hz,hk.ok,ok,KD,fun p qs H2 np hp GI zS s2=>?_⟩
 have hl:=rK (os:=os) hk
 have PK:qs.length<=24:=by rw[<-zS,Kw]at hl;exact hl
 have c1:lQ (nk qs) none (some (w'.length:Int))=nk (qs.take w'.length):=by
  show cut (nk qs) none (some ((w'.length:Nat):Int))=_
  rw[cQ]
  unfold nk
  rw[Z5]
 have c2:lQ (nk qs) (some (w'.length:Int)) none=nk (qs.drop w'.length):=by
  show cut (nk qs) (some ((w'.length:Nat):Int)) none=_
  rw[cY]
  unfold nk
  rw[Z6]
 refine ⟨_,rfl,_,rfl,w',rfl,by omega,_,rfl,p,_,rfl,bC.of hp,fun p1 Wn=>?_⟩
 rw[c1]
 have s3:=aq.upd (o:= .lst (nk (qs.take w'.length))) Wn
 refine ⟨_,rfl,_,rfl,w',rfl,by omega,_,rfl,p,_,rfl,bC.of (s3 _ _ hp),fun p2 Wo=>?_⟩
 rw[c2]
 have s4:=aq.upd (o:= .lst (nk (qs.drop w'.length))) Wo
 have Oq:=s3.trans s4
 refine ⟨_,rfl,p,qs,rfl,Oq _ _ hp,fun x hx=>(GI x hx).ts (dW.of Oq),by omega,by rw[zS];exact n0,fun H5 s5=>?_⟩
 have ua:H5 p1=some (.lst (nk (qs.take w'.length))):=s5 _ _ (s4 _ _ ah)
 have oF:H5 p2=some (.lst (nk (qs.drop w'.length))):=s5 _ _ ah
 have Mb:=Oq.trans s5
 refine ⟨_,rfl,p1,qs.take w'.length,rfl,ua,fun x hx=>(GI x (YV hx)).ts (dW.of Mb),by rw[Xm];omega,by rw[Z5,zS];exact n1,fun H6 s6=>?_⟩
 refine ⟨_,_,rfl,rfl,?_⟩
 refine ⟨_,rfl,p2,qs.drop w'.length,rfl,s6 _ _ oF,fun x hx=>(GI x (Zb hx)).ts (dW.of (Mb.trans s6)),by rw[Xx];omega,by rw[Z6,zS];exact n2,fun H7 s7=>?_⟩
 refine ⟨_,_,rfl,rfl,?_⟩
 rw[Z5,Z6,zS]
 have kq:=q H7 (st.trans (s1.trans (s2.trans (Mb.trans (s6.trans s7)))))
 rw[<-e]at kq
 exact kq
theorem D_:bI P w K mg base fj 10 Ld LP ["yard","word"] (DO K):=by
 have lI:=p6 (P:=P) (w:=w) (base:=base) T
 refine T.Be.fn.ok J0 (fun vs H Q E h=>len_own h) (fun cJ A outer s H vs Q E hr h=>?_)
 refine ⟨_,(ai (aG (ak lI (hr.mono (by decide)) rfl T.Ey.mg T.Ey.fn.kp T.Ey.bd .nil az (aa (pv 0) (aa (cB (aa (pv 1) ae)) ae))))),?_⟩
 obtain ⟨y,w',rfl,hy,hz,hw,lM,q⟩:=h
 refine ⟨_,rfl,_,rfl,by show 1<=sizeLine;decide,fun t nt=>?_⟩
 refine ⟨y,t,[w'],rfl,hy,hz,Gw hw lM,ah,fun n H1 s1 e=>?_⟩
 exact q n H1 ((aq.upd nt).trans s1) (e.trans (DN y w'))
theorem Ea:bI P w K mg base fj 11 Lr L5 ["_law_yard_here","_law_one","_law_other_here","_law_numbers"] (wd K):=by
 have lI:=p6 (P:=P) (w:=w) (base:=base) T
 have jA:=p7 (P:=P) (w:=w) (base:=base) T
 have wz:=D_ (P:=P) (w:=w) (base:=base) T
 refine T.wK.fn.ok D1 (fun vs H Q E h=>Bb h) (fun cJ A outer s H vs Q E hr h=>?_)
 refine ⟨_,(ag (bO (PW.pt (yH (aL sH (ak lI (hr.mono (by decide)) rfl T.Ey.mg T.Ey.fn.kp T.Ey.bd .nil az (aa (pv 0) (aa (cB (aa (pv 1) (aa (pv 2) ae))) ae))) (aR (aZ K rfl) (pv 3) aj (fun _ _=>rfl)) (aU _)) (r9 (aL sH (ak jA (hr.mono (by decide)) rfl T.Ez.mg T.Ez.fn.kp T.Ez.bd .nil az (aa (pv 0) (aa (pv 1) (aa (pv 2) ae)))) (aR (aZ K rfl) (pv 3) aj (fun _ _=>rfl)) (aU _))))) (ai (aG n_)) bj)
   (ai (aG (jk (IJ K rfl hr) (cT (aa (ak wz (hr.mono (by decide)) rfl T.Be.mg T.Be.fn.kp T.Be.bd .nil az (aa (pv 0) (aa (pv 1) ae))) (aa (ak wz (hr.mono (by decide)) rfl T.Be.mg T.Be.fn.kp T.Be.bd .nil az (aa (pv 0) (aa (pv 2) ae))) ae))) (bf (iR K rfl) (pv 3) (ba aj) bT) (aU _))))),?_⟩
 obtain ⟨p,y,w',v,a,b,c,d,rfl,hy,hz,sw,wl,sv,vl,hp,nm,q⟩:=h
 have hs:(100000:Nat)<sizeLine:=by decide
 refine ⟨_,rfl,_,rfl,_,rfl,by show 2<=sizeLine;decide,fun t nt=>?_⟩
 have s1:=aq.upd (o:= .tup [.str (S w'), .str (S v)]) nt
 refine ⟨y,t,[w',v],rfl,hy,hz,tE sw sv wl vl,ah,fun n H2 s2 e=>?_⟩
 have qu:=s1.trans s2
 refine ⟨_,rfl,p,_,_,_,rfl,rfl,bC.of (qu _ _ hp),rfl,_,_,rfl,rfl,_,rfl,qk ?_ ?_⟩
 ·rw[v8,nm.two,nm.one,nm.Cg]at e
  have:=nm.all
  rw[decide_eq_true (show (n:Int)=a by omega)]
  rfl
 refine ⟨_,rfl,_,rfl,_,rfl,y,w',v,rfl,hy,hz,sw,wl,sv,vl,fun H3 s3=>?_⟩
 have zR:=qu.trans s3
 refine ⟨_,rfl,p,_,_,_,rfl,rfl,bC.of (zR _ _ hp),rfl,_,_,rfl,rfl,_,rfl,qk ?_ ?_⟩
 ·rw[decide_eq_true nm.two]
  rfl
 refine ⟨_,rfl,_,rfl,y,w',rfl,hy,hz,sw,wl,fun n1 H4 s4 e1=>?_⟩
 refine ⟨_,rfl,_,rfl,y,v,rfl,hy,hz,sv,vl,fun n2 H5 s5 e2=>?_⟩
 refine ⟨by show 2<=sizeLine;decide,fun l nl=>?_⟩
 have h1:(n1:Int)=c:=by have:=nm.one;omega
 have h2:(n2:Int)=d:=by have:=nm.Cg;omega
 rw[h1,h2]
 have Ou:=zR.trans (s4.trans s5)
 have s6:=aq.upd (o:= .lst [.int c, .int d]) nl
 have hl:upd H5 l (.lst [.int c, .int d]) l=some (.lst [.int c, .int d]):=ah
 generalize upd H5 l (.lst [.int c, .int d])=H6 at s6 hl ⊢
 have GG:=Ou.trans s6
 refine ⟨_,rfl,_,rfl,p,_,rfl,bC.of (GG _ _ hp),fun l2 Wq=>?_⟩
 have ec:lQ [V.int a, .int b, .int c, .int d] (some 2) none=[.int c, .int d]:=rfl
 rw[ec]
 have s7:=aq.upd (o:= .lst [.int c, .int d]) Wq
 have Ak:upd H6 l2 (.lst [.int c, .int d]) l2=some (.lst [.int c, .int d]):=ah
 generalize upd H6 l2 (.lst [.int c, .int d])=H7 at s7 Ak ⊢
 refine ⟨.list [.int c, .int d], .list [.int c, .int d], .lst (bC.of (s7 _ _ hl)) (.cons (.int _) (.cons (.int _) .nil)), .lst (bC.of Ak) (.cons (.int _) (.cons (.int _) .nil)),⟨rfl,rfl⟩,ZU rfl,?_⟩
 rw[eqv_refl _ rfl]
 exact q H7 (GG.trans s7)
theorem yy:bI P w K mg base fj 2 Ln LZ ["_law_word"] (o8 K):=by
 have bS:=fO (P:=P) (w:=w) (base:=base) T
 refine T.Pm.fn.ok yq (fun vs H Q E h=>wb h) (fun cJ A outer s H vs Q E hr h=>?_)
 refine ⟨_,(ai (aG (bU K rfl Xt X2 Yk (fT K rfl) (iM [] (by decide+kernel)) (aa (cV ["_law_letter"] [none] (xo rfl T.z_reversed (aa (pv 0) ae)) trivial (fun _ _ _ _=>(aV (i:=0) (by decide+kernel:List.Nodup (["_law_letter"]:List Str)) rfl (Or.inl rfl))) (fun _ _ _ _=>gx) (fun _ _ _ _=>(ak bS (hr.mono (by decide)) rfl T.jw.mg T.jw.fn.kp T.jw.bd .nil az (aa (pv 0) ae)))) ae)))),?_⟩
 obtain ⟨l,rfl,hc,hz,q⟩:=h
 have hs:(1000:Nat)<sizeLine:=by decide
 refine ⟨rfl,_,rfl,l,rfl,by omega,?_⟩
 rw[sW]
 refine fS (xs:=cn l.reverse) (fun i acc H'=>aq H H'/\acc=cn ((l.reverse.take i).map aA)) (by rw[aN,XB];omega) ⟨aq.refl H,rfl⟩ ?_ ?_
 ·rintro i x acc H1 Nx hi hx hl ⟨s1,rfl⟩ nx
  obtain ⟨c,nG,rfl⟩:=eT hx
  refine ⟨trivial,eV ⟨_,rfl,c,rfl,hc c (YA.mp (WQ nG)),nx _ _ (by simpa using hl) ⟨s1,?_⟩⟩⟩
  rw[cX, <-take_snoc nG,UH]
  rfl
 ·rintro acc H1 D hl ⟨s1,rfl⟩ hD
  refine ⟨D,(dA l).map fun c=>[c],rfl,rfl,bC.of ?_,?_,?_⟩
  ·rw[ah, <-eM,aN,Xz (OS _),YI]
   rfl
  ·rw[vz]
   unfold dA
   rw[XB,Kw]
   omega
  ·rw[mU]
   exact q _ (s1.trans (aq.upd hD))
theorem Bm:bI P w K mg base fj 3 Lo L1 ["_law_box_here","_law_word"] (rL K):=by
 have bA:=fi (P:=P) (w:=w) (base:=base) T
 have Bn:=yy (P:=P) (w:=w) (base:=base) T
 refine T.JY.fn.ok mK (fun vs H Q E h=>yi h) (fun cJ A outer s H vs Q E hr h=>?_)
 refine ⟨_,(ag (ao (i:=2) mK.nd rfl (Or.inl rfl) (ak bA (hr.mono (by decide)) rfl T.eE.mg T.eE.fn.kp T.eE.bd .nil az (aa (pv 0) (aa (aC aQ rfl T.z_len Xl (aa (pv 1) ae)) ae))))
   (ag (ao (i:=1) mK.nd rfl (Or.inl rfl) (aD dS (bf iC (pv 1) (ba (pv 2)) bT) (bf iC (pv 1) bT (ba (pv 2)))))
   (ai (aG (aR (aZ K rfl) (cT (aa (pv 1) (aa (ak Bn (hr.mono (by decide)) rfl T.Pm.mg T.Pm.fn.kp T.Pm.bd .nil az (aa (pv 1) ae)) ae))) (ak bA (hr.mono (by decide)) rfl T.eE.mg T.eE.fn.kp T.eE.bd .nil az (aa (pv 0) (aa aj ae))) (fun _ _=>rfl)))))),?_⟩
 obtain ⟨b,y,w',rfl,hb,hy,sw,R1,q⟩:=h
 have hs:(100000:Nat)<sizeLine:=by decide
 have lX:=SD.mpr sw.ne
 have lM:w'.length<=sizeLine:=by omega
 refine ⟨_,rfl,_,rfl,w',rfl,lM,b,_,rfl,hb,by omega,by omega,fun k H1 hk oI s1=>?_⟩
 have IA:k<=w'.length:=by omega
 have hlen:(cut w' (some (k:Int)) none).length+(cut w' none (some (k:Int))).length<=sizeLine:=by rw[cQ,cY,Xx,Xm];omega
 have yr:cut w' (some (k:Int)) none++cut w' none (some (k:Int))=dJ w' k:=by rw[cQ,cY];rfl
 refine ⟨_,rfl,_,rfl,_,rfl,w',rfl,lM,_,rfl,_,rfl,_,rfl,w',rfl,lM,_,_,rfl,rfl,hlen,?_⟩
 rw[yr]
 obtain ⟨r1,r2⟩:=N0 hy sw IA
 have ul:(dJ w' k).length<=12:=by rw[r1.len];exact R1
 have lt: ∀c∈dJ w' k,Lt c:=fun c hc=>hy.lt c (r1.sw.bE c hc)
 generalize dJ w' k=u at r1 r2 ul lt ⊢
 refine ⟨_,rfl,_,rfl,u,rfl,lt,by omega,fun H2 s2=>?_⟩
 refine ⟨by show 2<=sizeLine;decide,fun t nt=>?_⟩
 have h_:=oI.same s2
 have tb:=h_.ne nt
 have ht:upd H2 t (.lst [.str (S u), .str (S (dA u))]) t=some (.lst [.str (S u), .str (S (dA u))]):=ah
 have ku:=h_.cP (o:= .lst [.str (S u), .str (S (dA u))]) tb
 have s3:aT b H (upd H2 t (.lst [.str (S u), .str (S (dA u))])):=(s1.after s2).cP ((s1.after s2).none nt tb)
 generalize upd H2 t (.lst [.str (S u), .str (S (dA u))])=H3 at ht ku s3 ⊢
 refine ⟨_,rfl,b,2,rfl,ku,by decide,by decide,fun r H4 hr rS s4=>?_⟩
 have Hy:=s4 _ _ ht tb
 rcases (show r=0\/r=1 by omega) with rfl | rfl
 ·exact ⟨t,_,_,_,rfl,rfl,bC.of Hy,rfl,q u H4 r1 rS (s3.trans s4)⟩
 ·exact ⟨t,_,_,_,rfl,rfl,bC.of Hy,rfl,q _ H4 r2 rS (s3.trans s4)⟩
theorem Bo:bI P w K mg base fj 2 Lq L4 ["_law_box_here","_law_yard_here"] (rM K):=by
 have bA:=fi (P:=P) (w:=w) (base:=base) T
 have bS:=fO (P:=P) (w:=w) (base:=base) T
 refine T.Po.fn.ok fN (fun vs H Q E h=>yj h) (fun cJ A outer s H vs Q E hr h=>?_)
 refine ⟨_,(ag (B5 (i:=2) ["_law_letter","_law_yard_here"] [none,some 1] fN.nd rfl (Or.inl rfl) (jZ (iM [97,98,99,100,101,102,103,104,105,106,107,108,109,110,111,112,113,114,115,116,117,118,119,120,121,122] (by decide+kernel))) ⟨⟨rfl,rfl,by first | exact .inl rfl | exact .inr rfl⟩,trivial⟩ (fun _ _ _ _=>(aV (i:=0) (by decide+kernel:List.Nodup (["_law_letter","_law_yard_here"]:List Str)) rfl (Or.inl rfl))) (fun _ _ _ _=>(BQ (aL E7 (pv 0) (pv 1) (by with_unfolding_all rfl)))) (fun _ _ _ _=>(pv 0)))
   (ag (ao (i:=3) fN.nd rfl (Or.inl rfl) (aR (aZ K rfl) (pv 2) (ak bA (hr.mono (by decide)) rfl T.eE.mg T.eE.fn.kp T.eE.bd .nil az (aa (pv 0) (aa (aC (aX K rfl) rfl T.z_len Xl (aa (pv 2) ae)) ae))) (fun _ _=>rfl)))
   (ag (bO (aL mO (aC aQ rfl T.z_len Xl (aa (pv 1) ae)) aj (aU _)) (ai (cN PassesOwn.never rfl (sJ K rfl (cB (aa (pv 3) (aa (ak bS (hr.mono (by decide)) rfl T.jw.mg T.jw.fn.kp T.jw.bd .nil az (aa (pv 3) ae)) ae)))) (aV (i:=4) fN.nd rfl (Or.inl rfl)) (ag (ao (i:=5) fN.nd rfl (Or.inl rfl) (ak bA (hr.mono (by decide)) rfl T.eE.mg T.eE.fn.kp T.eE.bd .nil az (aa (pv 0) (aa (aD bz (aC aQ rfl T.z_len Xl (aa (pv 1) ae)) aj) ae))))
   (ai (ao (i:=1) fN.nd rfl (Or.inr rfl) (aD dS (aD dS (bf iC (pv 1) bT (ba (pv 5))) (pv 4)) (bf iC (pv 1) (ba (pv 5)) bT))))))) bj)
   (ai (aG (pv 1)))))),?_⟩
 obtain ⟨b,y,rfl,hb,hy,rR,q⟩:=h
 have hs:(100000:Nat)<sizeLine:=by decide
 have D4:y.length<=sizeLine:=by omega
 refine ⟨aE,rfl,?_⟩
 refine fS (xs:=cn aE) (fun i acc H'=>H'=H/\acc=cn ((aE.take i).filter fun c=>!decide (c∈y))) (by rw[aN];have:aE.length=26:=rfl;omega) ⟨rfl,rfl⟩ ?_ ?_
 ·rintro i x acc H1 Nx hi hx Bi ⟨rfl,rfl⟩ nx
  obtain ⟨c,hc,rfl⟩:=eT hx
  have ef:=mW (p:=fun c=>!decide (c∈y)) hc
  refine ⟨⟨rfl,trivial⟩,?_⟩
  refine ⟨_,rfl,_,rfl,c,y,rfl,rfl,_,rfl,b5 (fun z2=>?_) (fun z2=>?_)⟩
  ·rw[if_pos z2]at ef
   exact ⟨_,rfl,nx _ _ (by simpa using Bi) ⟨rfl,by rw[ef, <-cX]⟩⟩
  ·rw[if_neg z2,XZ]at ef
   exact nx _ _ (Zp Bi) ⟨rfl,by rw[ef]⟩
 ·rintro acc H1 D Bi ⟨rfl,rfl⟩ hD
  rw[oJ]
  have Ax: ∀c∈aE.filter fun c=>!decide (c∈y),c∈aE/\c∉y:=fun c hc=>by
   have:=XI.mp hc
   exact ⟨this.1,by simpa using this.2⟩
  have Tf:(aE.filter fun c=>!decide (c∈y)).length<=aE.length:=Y_ _ _
  have T4:aE.length=26:=rfl
  have lX:0<(aE.filter fun c=>!decide (c∈y)).length:=Nat.pos_of_ne_zero fun q0=>by
   have q2:=X7.mp q0
   have:aE.length<=y.length:=l_.length_le_of_subset fun c hc=>by
    by_cases z:c∈y
    ·exact z
    ·have:c∈aE.filter fun c=>!decide (c∈y):=XI.mpr ⟨hc,by simpa using z⟩
     rw[q2]at this
     cases this
   omega
  generalize aE.filter (fun c=>!decide (c∈y))=l at Ax Tf lX ⊢
  have Db:=hb.ne hD
  have R3:upd H1 D (.lst (cn l)) D=some (.lst (cn l)):=ah
  have h_:=hb.cP (o:= .lst (cn l)) Db
  have s2:aT b H1 (upd H1 D (.lst (cn l))):=aT.of (aq.upd hD)
  generalize upd H1 D (.lst (cn l))=H2 at R3 h_ s2 ⊢
  refine ⟨_,rfl,_,rfl,_,rfl,D,_,rfl, .inl (bC.of R3),b,_,rfl,h_,by rw[aN];omega,by rw[aN];omega,fun r H3 hr ku s3=>?_⟩
  rw[aN]at hr
  have Kb:r<l.length:=by omega
  have RZ:=s3 _ _ R3 Db
  refine ⟨D,_,_,_,rfl,rfl,bC.of RZ,b9 (sX Kb),?_⟩
  obtain ⟨c1,c2⟩:=Ax _ (XF Kb)
  generalize l[r]=c at c1 c2 ⊢
  have lc:Lt c:= .inl c1
  have zR:=s2.trans s3
  have c3:aA c∉y:=fun z=>c2 (by have:=hy.cl _ z;rwa [aI lc]at this)
  have fy:y.filter (fun c=>decide (c∈y))=y:=List.filter_eq_self.mpr fun a ha=>decide_eq_true ha
  refine ⟨_,rfl,y,rfl,D4,_,_,rfl,rfl,_,rfl,b5 (fun h8=>?_) (fun h8=>?_)⟩
  ·have V9:y.length<8:=by have:=of_decide_eq_true h8;omega
   have W_:=gO hy
   refine ⟨_,rfl,_,rfl,c,rfl,lc,by show 2<=sizeLine;decide,fun T nT=>?_⟩
   have Tb:=ku.ne nT
   have hT:upd H3 T (.tup [.str (S [c]), .str (S [aA c])]) T=some (.tup [.str (S [c]), .str (S [aA c])]):=ah
   have rS:=ku.cP (o:= .tup [.str (S [c]), .str (S [aA c])]) Tb
   have Ot:=zR.after (aq.upd (o:= .tup [.str (S [c]), .str (S [aA c])]) nT)
   generalize upd H3 T (.tup [.str (S [c]), .str (S [aA c])])=H4 at hT rS Ot ⊢
   refine ⟨T,rfl,⟨_,cS.of hT⟩,?_⟩
   refine EL (K:=K) (a:=T) (xs:=[.str (S [c]), .str (S [aA c])]) (fun i σ H'=> ∃(z:List Nat) (v4 v5:Option V),σ=[some (.ref b),some (.str (S z)),some (.ref D),some (.str (S [c])),v4,v5]/\z.filter (fun c=>decide (c∈y))=y/\z.Perm ([c,aA c].take i++y)/\H' T=some (.tup [.str (S [c]), .str (S [aA c])])/\bY H' b/\aT b H1 H') ⟨y,none,none,rfl,fy,List.Perm.refl _,hT,rS,Ot⟩ (fun i σ H' _ h=>by obtain ⟨_,_,_,_,_,_,g,_⟩:=h;exact cS.of g) ?_ ?_
   ·rintro i x σ H5 hx ⟨z,v4,v5,rfl,fz,pz,T5,GD,s5⟩
    obtain ⟨e,rfl,ey,et⟩: ∃e,x= .str (S [e])/\e∉y/\[c,aA c].take (i+1)=[c,aA c].take i++[e]:=by
     match i,hx with
     | 0,hx=>cases hx;exact ⟨c,rfl,c2,rfl⟩
     | 1,hx=>cases hx;exact ⟨aA c,rfl,c3,rfl⟩
    have zl:z.length<=10:=by
     have:=pz.length_eq
     rw[UD,Xm]at this
     have h2:[c,aA c].length=2:=rfl
     omega
    refine ⟨_,rfl,_,rfl,z,rfl,by omega,_,_,rfl,rfl,b,_,rfl,GD,by omega,by omega,fun k H6 hk GF s6=>?_⟩
    have EC:(cut z none (some (k:Int))).length+[e].length<=sizeLine:=by rw[cQ,Xm];show _+1<=_;omega
    have Ak:(cut z none (some (k:Int))++[e]).length+(cut z (some (k:Int)) none).length<=sizeLine:=by rw[cQ,cY,UD,Xx,Xm];show _+1+_<=_;omega
    refine ⟨_,rfl,_,rfl,_,rfl,z,rfl,by omega,_,rfl,_,_,rfl,rfl,EC,_,rfl,_,rfl,_,rfl,z,rfl,by omega,_,_,rfl,rfl,Ak,?_⟩
    rw[cQ,cY]
    refine ⟨z.take k++[e]++z.drop k,_,_,rfl,?_,?_,s6 _ _ T5 Tb,GF,s5.trans s6⟩
    ·rw[Yo,Yo,XE (by simpa using ey),List.filter_nil,XZ, <-Yo,X3]
     exact fz
    ·rw[et]
     have p1:(z.take k++[e]++z.drop k).Perm (e::z):=by
      rw[Yj]
      show (z.take k++e::z.drop k).Perm (e::z)
      refine Qai.trans ?_
      rw[X3]
     refine p1.trans ((pz.cons e).trans ?_)
     rw[Yj]
     exact Qai.symm
   ·rintro σ H5 ⟨z,v4,v5,rfl,fz,pz,T5,GD,s5⟩
    have Wr:Yd ([c,aA c]++y):=⟨by
     refine XH.mpr ⟨fun g=>?_,XH.mpr ⟨c3,hy.nd⟩⟩
     rcases UE.mp g with g | g
     ·exact dX lc g.symm
     ·exact c2 g,fun a ha=>by
     rcases UE.mp ha with g | g
     ·rw[g];exact lc
     ·rcases UE.mp g with g | g
      ·rw[g];exact lc.aA
      ·exact hy.lt a g,fun a ha=>by
     rcases UE.mp ha with g | g
     ·rw[g];simp
     ·rcases UE.mp g with g | g
      ·rw[g,aI lc];simp
      ·exact WN _ (WN _ (hy.cl a g))⟩
    have hz:=Wr.perm pz.symm
    have zl:z.length=y.length+2:=by
     rw[pz.length_eq,UD,ZL]
     rfl
    refine ⟨_,rfl,q z H5 (wa hy hz fz) (by omega) GD s5⟩
  ·exact ⟨_,rfl,q y H3 (wa hy hy fy) rR ku zR⟩
theorem yA:bI P w K mg base fj 2 Lp L3 ["_law_box_here","_law_yard_here","_law_words_here"] (o9 K):=by
 have bA:=fi (P:=P) (w:=w) (base:=base) T
 have bS:=fO (P:=P) (w:=w) (base:=base) T
 refine T.Pn.fn.ok dE (fun vs H Q E h=>wc h) (fun cJ A outer s H vs Q E hr h=>?_)
 refine ⟨_,(ag (ao (i:=3) dE.nd rfl (Or.inl rfl) (cK (om rfl) rfl T.z_list boot_list (aa (iM [97,98,99,100,101,102,103,104,105,106,107,108,109,110,111,112,113,114,115,116,117,118,119,120,121,122] (by decide+kernel)) ae)))
   (ag (ao (i:=4) dE.nd rfl (Or.inr rfl) vg)
   (ag (cN PassesOwn.never rfl (jZ (pv 1)) (aV (i:=5) dE.nd rfl (Or.inl rfl)) (ai (bO (HR (Av (iL hr) (pv 5) (pv 4)) (by with_unfolding_all rfl)) (ag (ao (i:=6) dE.nd rfl (Or.inl rfl) (bU K rfl XG YR YQ kC (pv 3) (aa (ak bA (hr.mono (by decide)) rfl T.eE.mg T.eE.fn.kp T.eE.bd .nil az (aa (pv 0) (aa (aC (aX K rfl) rfl T.z_len Xl (aa (pv 3) ae)) ae))) ae)))
   (ag (ao (i:=6) dE.nd rfl (Or.inl rfl) (aR (aZ K rfl) (cT (aa (pv 6) (aa (ak bS (hr.mono (by decide)) rfl T.jw.mg T.jw.fn.kp T.jw.bd .nil az (aa (pv 6) ae)) ae))) (ak bA (hr.mono (by decide)) rfl T.eE.mg T.eE.fn.kp T.eE.bd .nil az (aa (pv 0) (aa aj ae))) (fun _ _=>rfl)))
   (ag (kK (iL hr) (pv 4) (pv 5) (pv 6) rfl)
   (ai (kK (iL hr) (pv 4) (ak bS (hr.mono (by decide)) rfl T.jw.mg T.jw.fn.kp T.jw.bd .nil az (aa (pv 5) ae)) (ak bS (hr.mono (by decide)) rfl T.jw.mg T.jw.fn.kp T.jw.bd .nil az (aa (pv 6) ae)) rfl))))) bj)))
   (ag (ao (i:=7) dE.nd rfl (Or.inl rfl) (aD BO (cT (aa (pv 1) ae)) (cK (jK K rfl) rfl T.z_list boot_list (aa (pv 2) ae))))
   (ai (aG (cV ["_law_one","_law_names"] [none,some 4] (gJ K rfl (pv 7)) ⟨⟨rfl,rfl,by first | exact .inl rfl | exact .inr rfl⟩,trivial⟩ (fun _ _ _ _=>(aV (i:=0) (by decide+kernel:List.Nodup (["_law_one","_law_names"]:List Str)) rfl (Or.inl rfl))) (fun _ _ _ _=>gx) (fun _ _ _ _=>(bU K rfl Xt X2 Yk (fT K rfl) (iM [] (by decide+kernel)) (aa (cV ["_law_letter","_law_names"] [none,some 1] (jZ (pv 0)) ⟨⟨rfl,rfl,by first | exact .inl rfl | exact .inr rfl⟩,trivial⟩ (fun _ _ _ _=>(aV (i:=0) (by decide+kernel:List.Nodup (["_law_letter","_law_names"]:List Str)) rfl (Or.inl rfl))) (fun _ _ _ _=>gx) (fun _ _ _ _=>(kJ (iL hr) (pv 1) (pv 0) (fun _ _=>rfl)))) ae)))))))))),?_⟩
 obtain ⟨b,wt,y,w',v,rfl,hb,hy,h8,Ws,rP,wy,vy,wl,vl,q⟩:=h
 have hs:(100000:Nat)<sizeLine:=by decide
 have T4:aE.length=26:=rfl
 refine ⟨aE,rfl,by rw[T4];omega,fun L0 nL=>?_⟩
 have Lb:=hb.ne nL
 have oI:=hb.cP (o:= .lst (cn aE)) Lb
 have R4:upd H L0 (.lst (cn aE)) L0=some (.lst (cn aE)):=ah
 have s1:aT b H (upd H L0 (.lst (cn aE))):=aT.of (aq.upd nL)
 have sL: ∀c o,H c=some o->c≠L0:=fun c o e z=>by rw[z,nL]at e;cases e
 generalize upd H L0 (.lst (cn aE))=H1 at oI R4 s1 ⊢
 refine fun d nd=>?_
 have db:=oI.ne nd
 have dL:d≠L0:=fun z=>by rw[z,R4]at nd;cases nd
 have Hz:H d=none:=s1.none nd db
 have hd2:upd H1 d (.dK (kvsOf id [])) d=some (.dK (kvsOf id [])):=ah
 have h_:=oI.cP (o:= .dK (kvsOf id [])) db
 have s2: ∀c o,H c=some o->c≠b->upd H1 d (.dK (kvsOf id [])) c=some o:=fun c o e cb=>by
  rw[au (fun z=>by rw[z,Hz]at e;cases e)]
  exact s1 c o e cb
 have T6:upd H1 d (.dK (kvsOf id [])) L0=some (.lst (cn aE)):=by rw[au (Ne.symm dL)];exact R4
 show Mo _ _ _ [some (.ref b),some (.str (S y)),some (.ref wt),some (.ref L0),some (.ref d),none,none,none] (upd H1 d (.dK (kvsOf id [])))
 generalize upd H1 d (.dK (kvsOf id []))=H2 at hd2 h_ s2 T6 ⊢
 refine ⟨_,rfl,y,rfl,?_⟩
 refine sF (xs:=cn y) (fun i σ H'=> ∃(f:Nat->Nat) (P L:List Nat) (v5 v6:Option V),σ=[some (.ref b),some (.str (S y)),some (.ref wt),some (.ref L0),some (.ref d),v5,v6,none]/\H' d=some (.dK (kvsOf f P))/\H' L0=some (.lst (cn L))/\ir y i f P L/\bY H' b/\aT b H H')
  ⟨id,[],aE,none,none,rfl,hd2,T6,ir.start y,h_,s2⟩ ?_ ?_
 ·rintro i x σ H3 hx ⟨f,P,L,v5,v6,rfl,HA,Ov,cw,ku,s3⟩
  obtain ⟨e,he,rfl⟩:=eT hx
  have t6:=WQ he
  have hle:=hy.lt e t6
  have hi:=(Iy.mp he).1
  refine ⟨_,rfl,_,rfl,d,_,rfl,j5.k (k:=tk e) HA,?_⟩
  rw[lF]
  by_cases hp:e∈P
  ·rw[if_pos hp]
   refine ⟨_,rfl,?_⟩
   refine xf ?_
   exact ⟨f,P,L,_,_,rfl,HA,Ov,cw.skip he hp,ku,s3⟩
  ·rw[if_neg hp]
   have Aj:=cw.cw.wD t6 hp
   have T7:=cw.many
   have hlen:L.length<=26:=cw.nd.length_le_of_subset fun c hc=>(cw.sm c hc).1
   refine ⟨_,rfl,?_⟩
   refine Iz ?_
   refine ⟨_,rfl, .inl ⟨rfl,_,bC.of Ov⟩,_,rfl,_,rfl,L0,_,rfl, .inl (bC.of Ov),b,_,rfl,ku,by rw[aN];omega,by rw[aN];omega,fun r H4 hr rS s4=>?_⟩
   rw[aN]at hr
   have Kb:r<L.length:=by omega
   have Wt:=s4 _ _ Ov Lb
   have Wu:=s4 _ _ HA db
   have RQ:=sX Kb
   refine ⟨L0,_,_,r,_,rfl,rfl,Wt,by omega,by omega,Ht (by rw[aN];exact Kb),RQ,?_⟩
   rw[lZ]
   have c0:=cw.sm _ (XF Kb)
   have l0:Lt L[r]:= .inl c0.1
   have R5:upd H4 L0 (.lst (cn (L.eraseIdx r))) L0=some (.lst (cn (L.eraseIdx r))):=ah
   have L_:upd H4 L0 (.lst (cn (L.eraseIdx r))) d=some (.dK (kvsOf f P)):=by rw[au dL];exact Wu
   have GD:=rS.cP (o:= .lst (cn (L.eraseIdx r))) Lb
   have s5:=(s3.trans s4).cP (o:= .lst (cn (L.eraseIdx r))) nL
   generalize upd H4 L0 (.lst (cn (L.eraseIdx r)))=H5 at R5 L_ GD s5 ⊢
   refine ⟨_,rfl,_,rfl,_,rfl,l0,by show 2<=sizeLine;decide,fun t nt=>?_⟩
   have tb:=GD.ne nt
   have td:t≠d:=fun z=>by rw[z,L_]at nt;cases nt
   have tL:t≠L0:=fun z=>by rw[z,R5]at nt;cases nt
   have ht:upd H5 t (.lst [.str (S [L[r]]), .str (S [aA L[r]])]) t=some (.lst [.str (S [L[r]]), .str (S [aA L[r]])]):=ah
   have PV:=(aq.upd (o:= .lst [.str (S [L[r]]), .str (S [aA L[r]])]) nt) _ _ L_
   have T8:=(aq.upd (o:= .lst [.str (S [L[r]]), .str (S [aA L[r]])]) nt) _ _ R5
   have GF:=GD.cP (o:= .lst [.str (S [L[r]]), .str (S [aA L[r]])]) tb
   have s6:=s5.after (aq.upd (o:= .lst [.str (S [L[r]]), .str (S [aA L[r]])]) nt)
   generalize upd H5 t (.lst [.str (S [L[r]]), .str (S [aA L[r]])])=H6 at ht PV T8 GF s6 ⊢
   refine ⟨_,rfl,b,2,rfl,GF,by decide,by decide,fun g H7 hg Oa s7=>?_⟩
   have Wv:=s7 _ _ ht tb
   have Ww:=s7 _ _ PV db
   have Wx:=s7 _ _ T8 Lb
   have Wy:=s6.trans s7
   obtain ⟨c,hc,ec⟩: ∃c,(c=L[r]\/c=aA L[r])/\m6 [V.str (S [L[r]]), .str (S [aA L[r]])] (g:Int)=some (.str (S [c])):=by
    rcases (show g=0\/g=1 by omega) with rfl | rfl
    ·exact ⟨_, .inl rfl,rfl⟩
    ·exact ⟨_, .inr rfl,rfl⟩
   refine ⟨t,_,_,_,rfl,rfl,bC.of Wv,ec,?_⟩
   obtain ⟨Wz,old,oF,KU⟩:=cw.turn hy he hp Kb hc
   refine ⟨_,rfl,_,rfl,_,rfl,d,_,rfl,oE.k (k:=tk e) Ww (by rw[zP];omega),?_⟩
   rw[kI _ (by rw[lF,if_neg hp])]
   have KI:fL f e c e=c:=if_pos rfl
   have WA:fL f e c (aA e)=aA c:=by unfold fL;rw[if_neg (dX hle),if_pos rfl]
   have ek:kvsOf f P++[(tk e,V.str (S [c]))]=kvsOf (fL f e c) (P++[e]):=by
    rw[Bc (fun x hx=>(old x hx).symm)]
    unfold kvsOf
    rw[UH]
    show _=_++[(tk e,V.str (S [fL f e c e]))]
    rw[KI]
   rw[ek]
   have pc:aA e∉P++[e]:=fun g=>(Xn.mp g).elim oF fun g=>dX hle (Sz.mp g)
   refine ⟨_,rfl,c,rfl,KU,_,rfl,_,rfl,e,rfl,hle,d,_,rfl,oE.k (k:=tk (aA e)) ah (by rw[zP,UD];show P.length+1<_;omega),?_⟩
   rw[kI _ (by rw[lF,if_neg pc])]
   refine ⟨fL f e c,P++[e,aA e],L.eraseIdx r,_,_,rfl,?_,?_,Wz,(Oa.cP db).cP db,(Wy.cP Hz).cP Hz⟩
   ·rw[ah]
    congr 2
    unfold kvsOf
    rw[UH,UH,Yj]
    show _++([(tk e,V.str (S [fL f e c e]))]++[(tk (aA e),V.str (S [aA c]))])=_++[(tk e,V.str (S [fL f e c e])),(tk (aA e),V.str (S [fL f e c (aA e)]))]
    rw[WA]
    rfl
   ·rw[au (Ne.symm dL),au (Ne.symm dL)]
    exact Wx
 ·rintro σ H3 ⟨f,P,L,v5,v6,rfl,HA,Ov,cw,ku,s3⟩
  rw[aN]at cw
  obtain ⟨F,all⟩:=cw.done hy
  have R6:=s3 _ _ rP Ws
  refine ⟨_,rfl,by show 1<=sizeLine;decide,fun p1 n1=>?_⟩
  have Xa:=ku.ne n1
  have a1:=aq.upd (o:= .lst [.str (S y)]) n1
  have ua:upd H3 p1 (.lst [.str (S y)]) p1=some (.lst [.str (S y)]):=ah
  generalize upd H3 p1 (.lst [.str (S y)])=H4 at a1 ua ⊢
  refine ⟨_,rfl,wt,_,rfl, .inr (cS.of (a1 _ _ R6)),fun p2 n2=>?_⟩
  have a2:=aq.upd (o:= .lst (gX [w',v])) n2
  have oF:upd H4 p2 (.lst (gX [w',v])) p2=some (.lst (gX [w',v])):=ah
  generalize upd H4 p2 (.lst (gX [w',v]))=H5 at a2 oF ⊢
  refine ⟨p1,p2,_,_,rfl,rfl,a2 _ _ ua,oF,by show 3<=sizeLine;decide,fun p3 n3=>?_⟩
  have a3:=aq.upd (o:= .lst (gX [y,w',v])) n3
  have wo:upd H5 p3 (.lst (gX [y,w',v])) p3=some (.lst (gX [y,w',v])):=ah
  have eA:[V.str (S y)]++gX [w',v]=gX [y,w',v]:=rfl
  rw[eA]
  generalize upd H5 p3 (.lst (gX [y,w',v]))=H6 at a3 wo ⊢
  have T9:=a1.trans (a2.trans a3)
  have PV:=T9 _ _ HA
  have s6:=s3.after T9
  have three: ∀u∈[y,w',v],(∀c∈u,c∈y)/\u.length<=100:=fun u hu=>by
   rcases UE.mp hu with g | g
   ·rw[g];exact ⟨fun c hc=>hc,by omega⟩
   ·rcases UE.mp g with g | g
    ·rw[g];exact ⟨wy,wl⟩
    ·rw[Sz.mp g];exact ⟨vy,vl⟩
  refine ⟨_,rfl,p3,rfl,⟨_,bC.of wo⟩,?_⟩
  refine qP (K:=K) (a:=p3) (xs:=gX [y,w',v]) (fun i acc H'=>aq H6 H'/\acc=gX (([y,w',v].take i).map fun u=>u.map f)) (by rw[cj];show 3<sizeLine;decide) (fun i acc H' h=>bC.of (h.1 _ _ wo)) ⟨aq.refl _,rfl⟩ ?_ ?_
  ·rintro i x acc H7 Nx hi hx Bi ⟨s7,rfl⟩ nx
   have hj:i<[y,w',v].length:=by rw[cj]at hi;exact hi
   have hu:=XF hj
   have T_:[y,w',v][i]? =some [y,w',v][i]:=Iw hj
   rw[iT hj]at hx
   cases hx
   obtain ⟨t1,t2⟩:=three _ hu
   generalize [y,w',v][i]=u at hu T_ t1 t2 ⊢
   refine ⟨⟨rfl,trivial⟩,eV ?_⟩
   refine ⟨rfl,_,rfl,u,rfl,?_⟩
   refine fS (xs:=cn u) (fun j acc H'=>H'=H7/\acc=cn ((u.take j).map f)) (by rw[aN];omega) ⟨rfl,rfl⟩ ?_ ?_
   ·rintro j x acc H8 Xb Xc IM Ow ⟨rfl,rfl⟩ RV
    obtain ⟨c,hc,rfl⟩:=eT IM
    have KS:=all c (t1 c (WQ hc))
    refine ⟨⟨rfl,trivial⟩,eV ⟨_,rfl,_,rfl,d,V.str (S [f c]),rfl,by rw[<-show cW (kvsOf f P) (tk c)=some (V.str (S [f c])) by rw[lF,if_pos KS]];exact j5.k (k:=tk c) (s7 _ _ PV),RV _ _ (by simpa using Ow) ⟨rfl,?_⟩⟩⟩
    rw[cX, <-take_snoc hc,UH]
    rfl
   ·rintro acc H8 D Ow ⟨rfl,rfl⟩ hD
    rw[aN,Xz (OS _)]
    refine ⟨D,(u.map f).map fun c=>[c],rfl,rfl,bC.of (by rw[ah, <-eM]),by rw[vz,Kw];omega,?_⟩
    rw[mU]
    refine nx _ _ (by rw[UD];simpa using Bi) ⟨s7.trans (aq.upd hD),?_⟩
    rw[List.take_succ,T_,UH]
    exact kN _ _
  ·rintro acc H7 D Bi ⟨s7,rfl⟩ hD
   refine q D f _ F ?_ ((s6.after s7).after (aq.upd hD))
   rw[ah]
   rfl
theorem Bp:bI P w K mg base fj 12 Ls L6 ["_law_box_here","_law_yard_here","_law_one","_law_other_here"] (rN K):=by
 have lI:=p6 (P:=P) (w:=w) (base:=base) T
 have jA:=p7 (P:=P) (w:=w) (base:=base) T
 have wz:=D_ (P:=P) (w:=w) (base:=base) T
 have lJ:=Ea (P:=P) (w:=w) (base:=base) T
 have wA:=Bm (P:=P) (w:=w) (base:=base) T
 have bA:=fi (P:=P) (w:=w) (base:=base) T
 have Eb:=Bo (P:=P) (w:=w) (base:=base) T
 have Bq:=yA (P:=P) (w:=w) (base:=base) T
 refine T.Pp.fn.ok gU (fun vs H Q E h=>yk h) (fun cJ A outer s H vs Q E hr h=>?_)
 refine ⟨_,(ag (ao (i:=4) gU.nd rfl (Or.inl rfl) (cT (aa (ak lI (hr.mono (by decide)) rfl T.Ey.mg T.Ey.fn.kp T.Ey.bd .nil az (aa (pv 1) (aa (cB (aa (pv 2) (aa (pv 3) ae))) ae))) (aa (ak jA (hr.mono (by decide)) rfl T.Ez.mg T.Ez.fn.kp T.Ez.bd .nil az (aa (pv 1) (aa (pv 2) (aa (pv 3) ae)))) (aa (ak wz (hr.mono (by decide)) rfl T.Be.mg T.Be.fn.kp T.Be.bd .nil az (aa (pv 1) (aa (pv 2) ae))) (aa (ak wz (hr.mono (by decide)) rfl T.Be.mg T.Be.fn.kp T.Be.bd .nil az (aa (pv 1) (aa (pv 3) ae))) ae))))))
   (ag (bO (PW.pt (yH (aL sH (aR (aZ K rfl) (pv 4) aj (fun _ _=>rfl)) (aC (Ay K rfl rfl) rfl T.z_sum boot_sum (aa (bf (iR K rfl) (pv 4) (ba aj) bT) ae)) (aU _)) (r9 (aL sH (ak jA (hr.mono (by decide)) rfl T.Ez.mg T.Ez.fn.kp T.Ez.bd .nil az (aa (pv 1) (aa (pv 3) (aa (pv 2) ae)))) (aR (aZ K rfl) (pv 4) aj (fun _ _=>rfl)) (aU _))))) (ai (aG n_)) bj)
   (ag (bO (oa (fP (ak lJ (hr.mono (by decide)) rfl T.wK.mg T.wK.fn.kp T.wK.bd .nil az (aa (pv 1) (aa (ak wA (hr.mono (by decide)) rfl T.JY.mg T.JY.fn.kp T.JY.bd .nil az (aa (pv 0) (aa (pv 2) ae))) (aa (ak wA (hr.mono (by decide)) rfl T.JY.mg T.JY.fn.kp T.JY.bd .nil az (aa (pv 0) (aa (pv 3) ae))) (aa (pv 4) ae))))))) (ai (aG n_)) bj)
   (ag (ao (i:=5) gU.nd rfl (Or.inl rfl) (ak bA (hr.mono (by decide)) rfl T.eE.mg T.eE.fn.kp T.eE.bd .nil az (aa (pv 0) (aa (aC aQ rfl T.z_len Xl (aa (pv 1) ae)) ae))))
   (ag (ao (i:=6) gU.nd rfl (Or.inl rfl) (aD dS (bf iC (pv 1) (ba (pv 5)) bT) (bf iC (pv 1) bT (ba (pv 5)))))
   (ag (bO (PW.pt (yH (oa (fP (ak lJ (hr.mono (by decide)) rfl T.wK.mg T.wK.fn.kp T.wK.bd .nil az (aa (pv 6) (aa (pv 2) (aa (pv 3) (aa (pv 4) ae))))))) (r9 (oa (fP (ak lJ (hr.mono (by decide)) rfl T.wK.mg T.wK.fn.kp T.wK.bd .nil az (aa (xB rfl (iM [] (by decide+kernel)) rfl T.z_reversed (aa (pv 6) ae)) (aa (pv 2) (aa (pv 3) (aa (pv 4) ae)))))))))) (ai (aG n_)) bj)
   (ag (bO (oa (fP (ak lJ (hr.mono (by decide)) rfl T.wK.mg T.wK.fn.kp T.wK.bd .nil az (aa (ak Eb (hr.mono (by decide)) rfl T.Po.mg T.Po.fn.kp T.Po.bd .nil az (aa (pv 0) (aa (pv 1) ae))) (aa (pv 2) (aa (pv 3) (aa (pv 4) ae))))))) (ai (aG n_)) bj)
   (ag (ao (i:=7) gU.nd rfl (Or.inl rfl) (ak Bq (hr.mono (by decide)) rfl T.Pn.mg T.Pn.fn.kp T.Pn.bd .nil az (aa (pv 0) (aa (pv 1) (aa (cB (aa (pv 2) (aa (pv 3) ae))) ae)))))
   (ai (aG (ak lJ (hr.mono (by decide)) rfl T.wK.mg T.wK.fn.kp T.wK.bd .nil az (aa (aR (aZ K rfl) (pv 7) aj (fun _ _=>rfl)) (aa (aR (aZ K rfl) (pv 7) aj (fun _ _=>rfl)) (aa (aR (aZ K rfl) (pv 7) aj (fun _ _=>rfl)) (aa (pv 4) ae))))))))))))))),?_⟩
 obtain ⟨b,y,w',v,rfl,hb,hy,GA,rR,sw,wl,sv,vl,q⟩:=h
 have hs:(100000:Nat)<sizeLine:=by decide
 have D4:y.length<=sizeLine:=by omega
 have ED:w'.length<=12:=by omega
 have EE:v.length<=12:=by omega
 refine ⟨_,rfl,_,rfl,_,rfl,by show 2<=sizeLine;decide,fun t nt=>?_⟩
 have s1:=aq.upd (o:= .tup [.str (S w'), .str (S v)]) nt
 refine ⟨y,t,[w',v],rfl,hy,rR,tE sw sv ED EE,ah,fun n0 H2 s2 e0=>?_⟩
 refine ⟨_,rfl,_,rfl,_,rfl,y,w',v,rfl,hy,rR,sw,ED,sv,EE,fun H3 s3=>?_⟩
 refine ⟨_,rfl,_,rfl,y,w',rfl,hy,rR,sw,ED,fun n2 H4 s4 e2=>?_⟩
 refine ⟨_,rfl,_,rfl,y,v,rfl,hy,rR,sv,EE,fun n3 H5 s5 e3=>?_⟩
 refine ⟨by show 4<=sizeLine;decide,fun p np=>?_⟩
 have Ou:=s1.trans (s2.trans (s3.trans (s4.trans s5)))
 have nm:DQ y w' v n0 (SS y w' v) n2 n3:=by
  rw[v8]at e0
  exact ⟨by omega,rfl,e2.symm,e3.symm⟩
 generalize SS y w' v=n1 at nm ⊢
 have pb:p≠b:=(hb.same Ou).ne np
 have s6:=aq.upd (o:= .lst [.int n0, .int n1, .int n2, .int n3]) np
 have hp:upd H5 p (.lst [.int n0, .int n1, .int n2, .int n3]) p=some (.lst [.int n0, .int n1, .int n2, .int n3]):=ah
 generalize upd H5 p (.lst [.int n0, .int n1, .int n2, .int n3])=H6 at s6 hp ⊢
 have GG:=Ou.trans s6
 have GF:=hb.same GG
 refine ⟨_,rfl,p,_,_,_,rfl,rfl,bC.of hp,rfl,_,rfl,_,rfl,p,_,rfl,bC.of hp,fun l nl=>?_⟩
 have ec:lQ [V.int n0, .int n1, .int n2, .int n3] (some 1) none=[n1,(n2:Int),n3].map V.int:=rfl
 rw[ec]
 have s7:=aq.upd (o:= .lst ([n1,(n2:Int),n3].map V.int)) nl
 have hl:upd H6 l (.lst ([n1,(n2:Int),n3].map V.int)) l=some (.lst ([n1,(n2:Int),n3].map V.int)):=ah
 generalize upd H6 l (.lst ([n1,(n2:Int),n3].map V.int))=H7 at s7 hl ⊢
 refine ⟨l,_,rfl,bC.of hl,_,_,rfl,rfl,_,rfl,qk ?_ ?_⟩
 ·have e:[n1,(n2:Int),n3].sum=n1+(n2+(n3+0)):=rfl
  rw[e,decide_eq_true (show (n0:Int)=n1+(n2+(n3+0)) by have:=nm.all;omega)]
  rfl
 refine ⟨_,rfl,_,rfl,_,rfl,y,v,w',rfl,hy,rR,sv,EE,sw,ED,fun H8 s8=>?_⟩
 have R7:=s8 _ _ (s7 _ _ hp)
 refine ⟨_,rfl,p,_,_,_,rfl,rfl,bC.of R7,rfl,_,_,rfl,rfl,_,rfl,qk ?_ ?_⟩
 ·rw[decide_eq_true (show SS y v w'=n1 by rw[tY hy sv sw];exact nm.two)]
  rfl
 have R8:=GG.trans (s7.trans s8)
 have Ua:=hb.same R8
 refine ⟨_,rfl,_,rfl,_,rfl,b,y,w',rfl,Ua,hy,sw,ED,fun u1 H9 k1 Ub s9=>?_⟩
 refine ⟨_,rfl,_,rfl,b,y,v,rfl,Ub,hy,sv,EE,fun u2 Xd k2 Ox R9=>?_⟩
 have Kc:=R9 _ _ (s9 _ _ R7 pb) pb
 refine ⟨_,rfl,p,y,u1,u2,_,_,_,_,rfl,hy,rR,k1.sw,by rw[k1.len];exact ED,k2.sw,by rw[k2.len];exact EE,Kc,nm.lk hy sw sv k1 k2,fun Xe PX=>?_⟩
 refine ⟨_,rfl,qk rfl ?_⟩
 have Oy:=Ox.same PX
 have Oz:=((aT.of R8).trans (s9.trans R9)).after PX
 have OA:=PX _ _ Kc
 clear s1 s2 s3 s4 s5 Ou s6 GG s7 s8 R8 s9 R9 PX GF Ua Ub Ox hp R7 Kc k1 k2 u1 u2
 refine ⟨_,rfl,_,rfl,y,rfl,D4,b,_,rfl,Oy,by omega,by omega,fun k Xf hk OB R_=>?_⟩
 have Kd:=R_ _ _ OA pb
 have hlen:(cut y (some (k:Int)) none).length+(cut y none (some (k:Int))).length<=sizeLine:=by rw[cQ,cY,Xx,Xm];omega
 have yr:cut y (some (k:Int)) none++cut y none (some (k:Int))=y.drop k++y.take k:=by rw[cQ,cY]
 refine ⟨_,rfl,_,rfl,_,rfl,y,rfl,D4,_,rfl,_,rfl,_,rfl,y,rfl,D4,_,_,rfl,rfl,hlen,?_⟩
 rw[yr]
 have T:=Gx hy k
 have zl:(y.drop k++y.take k).length=y.length:=by rw[UD,Xx,Xm];omega
 generalize y.drop k++y.take k=z at T zl ⊢
 obtain ⟨m1,m2,m3⟩:=nm.tid T sw sv
 refine ⟨_,rfl,_,rfl,_,rfl,_,rfl,p,z,w',v,_,_,_,_,rfl,T.zd,by omega,m2,ED,m3,EE,Kd,m1,fun Xg PY=>?_⟩
 refine ⟨_,rfl,qk rfl ?_⟩
 have Ke:=PY _ _ Kd
 have U:=Gy T.zd
 obtain ⟨o1,o2,o3⟩:=m1.tid U m2 m3
 refine ⟨_,rfl,z,rfl,by omega,by omega,_,rfl,_,rfl,_,rfl,p,z.reverse,w',v,_,_,_,_,rfl,U.zd,by rw[XB];omega,o2,ED,o3,EE,Ke,o1,fun Xh PZ=>?_⟩
 refine ⟨_,rfl,qk rfl ?_⟩
 have Sa:=PZ _ _ Ke
 have Sb:=(OB.same PY).same PZ
 have Sd:=((Oz.trans R_).after PY).after PZ
 clear m1 m2 m3 o1 o2 o3 U T Oz R_ PY PZ Oy OB OA Kd Ke
 refine ⟨_,rfl,_,rfl,b,y,rfl,Sb,hy,rR,fun x Xi W xl Se Uc=>?_⟩
 have OC:=Uc _ _ Sa pb
 obtain ⟨m1,m2,m3⟩:=nm.tid W sw sv
 refine ⟨_,rfl,_,rfl,_,rfl,p,x,w',v,_,_,_,_,rfl,W.zd,xl,m2,ED,m3,EE,OC,m1,fun Xj Sf=>?_⟩
 refine ⟨_,rfl,qk rfl ?_⟩
 have Sg:=Sf _ _ OC
 have OD:=Se.same Sf
 refine ⟨_,rfl,_,rfl,_,rfl,_,rfl,by show 2<=sizeLine;decide,fun t2 Ud=>?_⟩
 have Ue:=OD.ne Ud
 have Ug:=aq.upd (o:= .tup [.str (S w'), .str (S v)]) Ud
 refine ⟨b,t2,y,w',v,rfl,OD.cP Ue,hy,rR,Ue,ah,sw.bE,sv.bE,by omega,by omega,fun g f Xk F hg Uh=>?_⟩
 have Sh:=Uh _ _ (Ug _ _ Sg) pb
 have N:=nm.S_ F sw sv
 refine ⟨_,rfl,g,_,_,_,rfl,rfl,bC.of hg,rfl,_,rfl,g,_,_,_,rfl,rfl,bC.of hg,rfl,_,rfl,g,_,_,_,rfl,rfl,bC.of hg,rfl,_,rfl,?_⟩
 refine ⟨p,y.map f,w'.map f,v.map f,_,_,_,_,rfl,F.zd,by rw[Kw];exact rR,F.sw sw,by rw[Kw];exact ED,F.sw sv,by rw[Kw];exact EE,Sh,N,fun WB WC=>?_⟩
 exact q WB ((((Sd.trans Uc).after (Sf.trans Ug)).trans Uh).after WC)
theorem Kf:bI P w K mg base fj 13 Lu L7 ["_law_script"] (lR K):=by
 have Kg:=Gz (P:=P) (w:=w) (base:=base) T
 have GK:=D5 (P:=P) (w:=w) (base:=base) T
 have Ec:=Bk (P:=P) (w:=w) (base:=base) T
 have Ed:=Bp (P:=P) (w:=w) (base:=base) T
 refine T.Vr.fn.ok pN (fun vs H Q E h=>FA h) (fun cJ A outer s H vs Q E hr h=>?_)
 refine ⟨_,(ag (cN PassesOwn.never rfl (gI rfl T.z_range (aa (aD bz aj (aC (aX K rfl) rfl T.z_len Xl (aa (bf (iR K rfl) (pv 0) (ba aj) (ba aj)) ae))) ae)) (aV (i:=1) pN.nd rfl (Or.inl rfl)) (ag (ao (i:=2) pN.nd rfl (Or.inl rfl) (ak Kg (hr.mono (by decide)) rfl T.Ph.mg T.Ph.fn.kp T.Ph.bd .nil az (aa (pv 0) (aa (pv 1) ae))))
   (ag (ao (i:=3) pN.nd rfl (Or.inl rfl) (ak GK (hr.mono (by decide)) rfl T.Pj.mg T.Pj.fn.kp T.Pj.bd .nil az (aa (pv 2) (aa aj (aa aj ae)))))
   (ag (ao (i:=4) pN.nd rfl (Or.inl rfl) (ak Ec (hr.mono (by decide)) rfl T.Pl.mg T.Pl.fn.kp T.Pl.bd .nil az (aa (pv 2) (aa (pv 3) (aa aj (aa aj ae))))))
   (ai (bO (oa (fP (ak Ed (hr.mono (by decide)) rfl T.Pp.mg T.Pp.fn.kp T.Pp.bd .nil az (aa (pv 2) (aa (pv 3) (aa (aR (bD K rfl) (pv 4) aj (fun _ _=>rfl)) (aa (aR (bD K rfl) (pv 4) (jF gw aj) (fun _ _=>rfl)) ae))))))) (ai (aG n_)) bj))))))
   (ai (aG n_))),?_⟩
 obtain ⟨a,ns,rfl,hS,hl,q⟩:=h
 have hs:(100000:Nat)<sizeLine:=by decide
 refine ⟨_,rfl,_,rfl,_,rfl,a,_,rfl,hS,fun p1 n1=>?_⟩
 have Ri:(lQ (ns.map V.int) (some 2) (some 6)).length<=4:=by unfold lQ;rw[Xm];exact XM (Nat.min_le_left _ _) (by have e1: ∀n d:Nat,HT.hX n d (some ((2:Nat):Int))=min 2 n:=fun n d=>HT.gh _ _ _;have e2: ∀n d:Nat,HT.hX n d (some ((6:Nat):Int))=min 6 n:=fun n d=>HT.gh _ _ _;show HT.hX _ _ (some ((6:Nat):Int)) - HT.hX _ _ (some ((2:Nat):Int))<=4;rw[e1,e2];omega)
 refine ⟨p1,_,rfl, .inl (bC.of ah),_,_,rfl,rfl,?_⟩
 have s1:=aq.upd (o:= .lst (lQ (ns.map V.int) (some 2) (some 6))) n1
 generalize (lQ (ns.map V.int) (some 2) (some 6)).length=m at Ri ⊢
 generalize upd H p1 (.lst (lQ (ns.map V.int) (some 2) (some 6)))=H1 at s1 ⊢
 refine ⟨_,rfl,by omega,by omega,?_⟩
 rw[show ((2:Int)+(m:Int)).toNat=2+m by omega]
 refine fM (fun i σ H'=> ∃v1 v2 v3 v4:Option V,σ=[some (.ref a),v1,v2,v3,v4]/\aq H H') ⟨none,none,none,none,rfl,s1⟩ ?_ ?_
 ·rintro i σ H2 hi ⟨v1,v2,v3,v4,rfl,s2⟩
  refine ⟨_,rfl,_,rfl,a,ns,i,by rw[YL];rfl,s2.seq hS,by omega,fun b H3 nb bx s3=>?_⟩
  refine ⟨_,rfl,b,1,4,rfl,bx,by decide,by decide,by decide,fun y H4 hy GA rR WD s4=>?_⟩
  refine ⟨_,rfl,_,rfl,b,y,2,8,rfl,WD,hy,by omega,by omega,by decide,by decide,by decide,by decide,fun t ws H5 nt tb ht J4 S8 Ui WE s5=>?_⟩
  have h0:0<ws.length:=by omega
  have a0:=Ui _ (XF h0)
  have e0:m6 (gX ws) (0:Int)=some (.str (S ws[0])):=b9 (j:=0) (iT h0)
  obtain ⟨us,u,eu⟩: ∃us u,ws=us++[u]:=⟨ws.dropLast,ws.getLast (fun z=>by rw[z]at h0;exact absurd h0 (by decide)),(List.dropLast_concat_getLast _).symm⟩
  have a9:=Ui u (by rw[eu];simp)
  have e9:m6 (gX ws) (-1)=some (.str (S u)):=by
   rw[eu, <-kN]
   exact uU _ _
  refine ⟨_,rfl,_,rfl,_,rfl,t,_,_,_,rfl,rfl,cS.of ht,e0,_,rfl,_,rfl,t,_,_,_,rfl,rfl,cS.of ht,e9,?_⟩
  refine ⟨b,y,_,_,rfl,WE,hy,by omega,by omega,a0.1,a0.2,a9.1,a9.2,fun H6 s6=>?_⟩
  refine ⟨_,rfl,qk rfl ?_⟩
  exact ⟨_,_,_,_,rfl,s2.trans (aT.same nb s3 (s4.trans (s5.trans s6)))⟩
 ·rintro σ H2 ⟨v1,v2,v3,v4,rfl,s2⟩
  exact q H2
end
theorem b4 {M:List Value->Prop} (h:M []): ∀us:List Value,us.length=0->M us
 | [],_=>h
theorem aM {M:List Value->Prop} {n:Nat} (h: ∀(a:Value) (us:List Value),us.length=n->M (a::us)): ∀us:List Value,us.length=n+1->M us
 | a::us,e=>h a us (Nat.succ.inj e)
def Dn (K:PySem.W.Frag) (x:Str) (st:Stmt) (f:Addr) (fd:FuncData):Prop:=PySem.W.nsIn K mainGlobals x=some (some (.ref f))/\E1 K x x st f fd
theorem dn {K:PySem.W.Frag} {x:Str} {st:Stmt} {f:Addr} {oc:Value} {od an:Option Addr} {El:Array (Option Value)} {kV doc pm cJ ct:Value} (a:PySem.W.nsIn K mainGlobals x=some (some (.ref f))) (l:K.lookup f=some ⟨oc,od, .func (PySem.W.fnOf x x (fH st) (eS st) (ar st) .none kV doc pm an cJ ct),El⟩) (c:PySem.W.codeIn K cJ x=true) (k:PySem.W.keepIn K (.ref f)=true):Dn K x st f (PySem.W.fnOf x x (fH st) (eS st) (ar st) .none kV doc pm an cJ ct):=⟨a,xc l c k⟩
theorem gu {K:PySem.W.Frag} {h:Heap} {mg:Str->Option Value} {x:Str} {st:Stmt} {f:Addr} {fd:FuncData} {ps:List Str} (X:K.In h) (G:h.Ns mainGlobals mg) (a:Dn K x st f fd) (b: ∀(kV doc pm:Value) (an:Option Addr) (cJ ct:Value) (us:List Value),us.length=ps.length->bindArgs (PySem.W.fnOf x x (fH st) (eS st) (ar st) .none kV doc pm an cJ ct) ⟨us,[]⟩=pure (ps.zip us)):bu K mg x st ps f fd:=⟨a.2,Z3 X G a.1,a.2.binds b⟩
theorem all_mk {l:PySem.W.OpenLaw} {w:World} {K:PySem.W.Frag} {h:Heap} {mg:Str->Option Value} {fa f0 f1 f2 f3 f4 f5 f6 f7 f8 f9 KW KY KZ K0 K1 K2 K3 K4 DU DV K5 K6 K7 K8 K9 K_ La Lc Ld Le Lf Lg Lh Li Lj Ll Lm Ln Lo Lp Lq Lr Ls Lu aO aW jQ gF:Addr} (X:K.In h) (G:h.Ns mainGlobals mg) (O1:mg "law"=some (.ref fa))
  {d0 d1 d2 d3 d4 d5 d6 d7 d8 d9 Lv Lw Ly Lz LA LB LC LD LF LG LH LI LJ LK LL LM LN LO LP LQ LR LS LU LV LW LX LY LZ L1 L3 L4 L5 L6 L7:FuncData}
  {Kh Ki GL GN:Option Addr} {Kj GO:Array (Option Value)} {Kk Kl Km Kn Ee Ko GP GQ GR GS zW GU:Value}
  (a0:Dn K "contrary" kh f0 d0)
  (a1:Dn K "turned" o_ f1 d1)
  (a2:Dn K "bands" ui f2 d2)
  (a3:Dn K "steps_round" gA f3 d3)
  (a4:Dn K "strands_at" g8 f4 d4)
  (a5:Dn K "points" ph f5 d5)
  (a6:Dn K "corner_points" fA f6 d6)
  (a7:Dn K "corners" mD f7 d7)
  (a8:Dn K "chord_starts" fZ f8 d8)
  (a9:Dn K "number_in" je f9 d9)
  (a10:Dn K "count_meetings" eR KW Lv)
  (a11:Dn K "strands_in" g9 KY Lw)
  (a12:Dn K "corner_ends" gB KZ Ly)
  (a13:Dn K "shortened" jf K0 Lz)
  (a14:Dn K "shortest" ki K1 LA)
  (a15:Dn K "ring" ym K2 LB)
  (a16:Dn K "root" yn K3 LC)
  (a17:Dn K "corner_steps" f_ K4 LD)
  (a18:Dn K "steps_ahead" gC DU LF)
  (a19:Dn K "steps_back" g_ DV LG)
  (a20:Dn K "parting" mE K5 LH)
  (a21:Dn K "side_of" mF K6 LI)
  (a22:Dn K "comes_ahead" gD K7 LJ)
  (a23:Dn K "number_among" gc K8 LK)
  (a24:Dn K "seen_strand" gE K9 LL)
  (a25:Dn K "taut_order" hJ K_ LM)
  (a26:Dn K "taut" yo La LN)
  (a27:Dn K "least" uj Lc LO)
  (a28:Dn K "own" DS Ld LP)
  (a29:Dn K "between" mG Le LQ)
  (a30:Dn K "_law_box" yp Lf LR)
  (a31:Dn K "_law_take" uk Lg LS)
  (a32:Dn K "_law_other" pj Lh LU)
  (a33:Dn K "_law_yard" um Li LV)
  (a34:Dn K "_law_short" pq Lj LW)
  (a35:Dn K "_law_near" uo Ll LX)
  (a36:Dn K "_law_words" pA Lm LY)
  (a37:Dn K "_law_turned" mH Ln LZ)
  (a38:Dn K "_law_begun" pB Lo L1)
  (a39:Dn K "_law_called" mI Lp L3)
  (a40:Dn K "_law_wider" pE Lq L4)
  (a41:Dn K "_law_same" uq Lr L5)
  (a42:Dn K "_law_right" pH Ls L6)
  (a43:Dn K "law" DT Lu L7)
  (q_Seen:PySem.W.nsIn K mainGlobals "Seen"=some (some (.ref aO)))
  (pg_Seen:PySem.W.plainGet K aO Str.empty=true)
  (hd_Seen:PySem.W.hasDictIn K aO=true)
  (po_Seen:PySem.W.plainOver K aO=true)
  (sa_Seen:PySem.W.findIn K (.ref aO) "__setattr__"=some (some (.builtin "object.__setattr__")))
  (n_Seen_strand:PySem.W.findIn K (.ref aO) "strand"=some none)
  (n_Seen_way:PySem.W.findIn K (.ref aO) "way"=some none)
  (n_Seen_place:PySem.W.findIn K (.ref aO) "place"=some none)
  (q_Way:PySem.W.nsIn K mainGlobals "Way"=some (some (.ref aW)))
  (pg_Way:PySem.W.plainGet K aW Str.empty=true)
  (hd_Way:PySem.W.hasDictIn K aW=true)
  (po_Way:PySem.W.plainOver K aW=true)
  (sa_Way:PySem.W.findIn K (.ref aW) "__setattr__"=some (some (.builtin "object.__setattr__")))
  (n_Way_size:PySem.W.findIn K (.ref aW) "size"=some none)
  (n_Way_root_size:PySem.W.findIn K (.ref aW) "root_size"=some none)
  (n_Way_leads:PySem.W.findIn K (.ref aW) "leads"=some none)
  (n_Way_onward:PySem.W.findIn K (.ref aW) "onward"=some none)
  (n_Way_backward:PySem.W.findIn K (.ref aW) "backward"=some none)
  (mk_Way:PySem.W.makesIn K aW=true)
  (qi_Way:PySem.W.findIn K (.ref aW) "__init__"=some (some (.ref jQ)))
  (fi_Way:PySem.W.isFn K (.ref jQ)=true)
  (kc_Way:PySem.W.keepIn K (.ref aW)=true)
  (li_Way:K.lookup jQ=some ⟨Kk,Kh, .func (PySem.W.fnOf "__init__" "Way.__init__" (fH jv) (eS jv) (ar jv) .none Kl Km Kn Ki Ee Ko),Kj⟩)
  (ci_Way:PySem.W.codeIn K Ee "Way.__init__"=true)
  (ki_Way:PySem.W.keepIn K (.ref jQ)=true)
  (mk_Seen:PySem.W.makesIn K aO=true)
  (qi_Seen:PySem.W.findIn K (.ref aO) "__init__"=some (some (.ref gF)))
  (fi_Seen:PySem.W.isFn K (.ref gF)=true)
  (kc_Seen:PySem.W.keepIn K (.ref aO)=true)
  (li_Seen:K.lookup gF=some ⟨GP,GL, .func (PySem.W.fnOf "__init__" "Seen.__init__" (fH gS) (eS gS) (ar gS) .none GQ GR GS GN zW GU),GO⟩)
  (ci_Seen:PySem.W.codeIn K zW "Seen.__init__"=true)
  (ki_Seen:PySem.W.keepIn K (.ref gF)=true)
  (z_enumerate:PySem.W.nsIn K mainGlobals "enumerate"=some none)
  (z_int:PySem.W.nsIn K mainGlobals "int"=some none)
  (z_len:PySem.W.nsIn K mainGlobals "len"=some none)
  (z_list:PySem.W.nsIn K mainGlobals "list"=some none)
  (z_max:PySem.W.nsIn K mainGlobals "max"=some none)
  (z_min:PySem.W.nsIn K mainGlobals "min"=some none)
  (z_range:PySem.W.nsIn K mainGlobals "range"=some none)
  (z_reversed:PySem.W.nsIn K mainGlobals "reversed"=some none)
  (z_sorted:PySem.W.nsIn K mainGlobals "sorted"=some none)
  (z_str:PySem.W.nsIn K mainGlobals "str"=some none)
  (z_sum:PySem.W.nsIn K mainGlobals "sum"=some none)
  (z_tuple:PySem.W.nsIn K mainGlobals "tuple"=some none):
  ∃fd:FuncData,(∀(s:Shared) (v:Value),BindsTo s fd ⟨[v],[]⟩ [("_law_script",v)])/\ ∀base:Heap,K.In base->base.Ns mainGlobals mg->bI l.prog w K mg base fj 13 fa fd ["_law_script"] (lR K):=by
 have e:=O1.symm.trans (Z3 X G a43.1)
 cases e
 obtain ⟨_,_,_,_,_,_,_,_,_,rfl,_⟩:=a43.2.ex
 have Ef:=xc (st:=jv) li_Way ci_Way ki_Way
 have Kp:=Ef.binds (ps:=["self","yard","word","longest"]) fun _ _ _ _ _ _=>aM fun _=>aM fun _=>aM fun _=>aM fun _=>b4 rfl
 have zX:=xc (st:=gS) li_Seen ci_Seen ki_Seen
 have GV:=zX.binds (ps:=["self","strand","way","place"]) fun _ _ _ _ _ _=>aM fun _=>aM fun _=>aM fun _=>aM fun _=>b4 rfl
 have T:Txt K mg _ _ _ _ _ _ _ _ _ _ _ _ _ _ _ _ _ _ _ _ _ _ _ _ _ _ _ _ _ _ _ _ _ _ _ _ _ _ _ _ _ _ _ _ _ _ _ _ _ _ _ _ _ _ _ _ _ _ _ _ _ _ _ _ _ _ _ _ _ _ _ _ _ _ _ _ _ _ _ _ _ _ _ _ _ _ _ _ _ _ _ _ _ _:=⟨gu X G a0 fun _ _ _ _ _ _=>aM fun _=>b4 rfl,gu X G a1 fun _ _ _ _ _ _=>aM fun _=>b4 rfl,gu X G a2 fun _ _ _ _ _ _=>aM fun _=>b4 rfl,gu X G a3 fun _ _ _ _ _ _=>aM fun _=>aM fun _=>aM fun _=>b4 rfl,gu X G a4 fun _ _ _ _ _ _=>aM fun _=>aM fun _=>aM fun _=>b4 rfl,gu X G a5 fun _ _ _ _ _ _=>aM fun _=>aM fun _=>b4 rfl,gu X G a6 fun _ _ _ _ _ _=>aM fun _=>aM fun _=>aM fun _=>b4 rfl,gu X G a7 fun _ _ _ _ _ _=>aM fun _=>aM fun _=>b4 rfl,gu X G a8 fun _ _ _ _ _ _=>aM fun _=>b4 rfl,gu X G a9 fun _ _ _ _ _ _=>aM fun _=>aM fun _=>b4 rfl,gu X G a10 fun _ _ _ _ _ _=>aM fun _=>b4 rfl,gu X G a11 fun _ _ _ _ _ _=>aM fun _=>aM fun _=>b4 rfl,gu X G a12 fun _ _ _ _ _ _=>aM fun _=>aM fun _=>b4 rfl,gu X G a13 fun _ _ _ _ _ _=>aM fun _=>b4 rfl,gu X G a14 fun _ _ _ _ _ _=>aM fun _=>b4 rfl,gu X G a15 fun _ _ _ _ _ _=>aM fun _=>b4 rfl,gu X G a16 fun _ _ _ _ _ _=>aM fun _=>b4 rfl,gu X G a17 fun _ _ _ _ _ _=>aM fun _=>aM fun _=>aM fun _=>b4 rfl,gu X G a18 fun _ _ _ _ _ _=>aM fun _=>aM fun _=>aM fun _=>b4 rfl,gu X G a19 fun _ _ _ _ _ _=>aM fun _=>aM fun _=>aM fun _=>b4 rfl,gu X G a20 fun _ _ _ _ _ _=>aM fun _=>aM fun _=>aM fun _=>aM fun _=>b4 rfl,gu X G a21 fun _ _ _ _ _ _=>aM fun _=>b4 rfl,gu X G a22 fun _ _ _ _ _ _=>aM fun _=>aM fun _=>b4 rfl,gu X G a23 fun _ _ _ _ _ _=>aM fun _=>aM fun _=>b4 rfl,gu X G a24 fun _ _ _ _ _ _=>aM fun _=>aM fun _=>aM fun _=>b4 rfl,gu X G a25 fun _ _ _ _ _ _=>aM fun _=>aM fun _=>aM fun _=>b4 rfl,gu X G a26 fun _ _ _ _ _ _=>aM fun _=>aM fun _=>b4 rfl,gu X G a27 fun _ _ _ _ _ _=>aM fun _=>aM fun _=>b4 rfl,gu X G a28 fun _ _ _ _ _ _=>aM fun _=>aM fun _=>b4 rfl,gu X G a29 fun _ _ _ _ _ _=>aM fun _=>aM fun _=>aM fun _=>b4 rfl,gu X G a30 fun _ _ _ _ _ _=>aM fun _=>aM fun _=>b4 rfl,gu X G a31 fun _ _ _ _ _ _=>aM fun _=>aM fun _=>b4 rfl,gu X G a32 fun _ _ _ _ _ _=>aM fun _=>b4 rfl,gu X G a33 fun _ _ _ _ _ _=>aM fun _=>aM fun _=>aM fun _=>b4 rfl,gu X G a34 fun _ _ _ _ _ _=>aM fun _=>aM fun _=>aM fun _=>b4 rfl,gu X G a35 fun _ _ _ _ _ _=>aM fun _=>aM fun _=>aM fun _=>aM fun _=>b4 rfl,gu X G a36 fun _ _ _ _ _ _=>aM fun _=>aM fun _=>aM fun _=>aM fun _=>b4 rfl,gu X G a37 fun _ _ _ _ _ _=>aM fun _=>b4 rfl,gu X G a38 fun _ _ _ _ _ _=>aM fun _=>aM fun _=>b4 rfl,gu X G a39 fun _ _ _ _ _ _=>aM fun _=>aM fun _=>aM fun _=>b4 rfl,gu X G a40 fun _ _ _ _ _ _=>aM fun _=>aM fun _=>b4 rfl,gu X G a41 fun _ _ _ _ _ _=>aM fun _=>aM fun _=>aM fun _=>aM fun _=>b4 rfl,gu X G a42 fun _ _ _ _ _ _=>aM fun _=>aM fun _=>aM fun _=>aM fun _=>b4 rfl,gu X G a43 fun _ _ _ _ _ _=>aM fun _=>b4 rfl,Z3 X G q_Seen,⟨pg_Seen,hd_Seen,po_Seen,sa_Seen⟩,n_Seen_strand,n_Seen_way,n_Seen_place,Z3 X G q_Way,⟨pg_Way,hd_Way,po_Way,sa_Way⟩,n_Way_size,n_Way_root_size,n_Way_leads,n_Way_onward,n_Way_backward,⟨mk_Way,qi_Way,fi_Way,kc_Way⟩,Ef,Kp,⟨mk_Seen,qi_Seen,fi_Seen,kc_Seen⟩,zX,GV,X0 X G z_enumerate,X0 X G z_int,X0 X G z_len,X0 X G z_list,X0 X G z_max,X0 X G z_min,X0 X G z_range,X0 X G z_reversed,X0 X G z_sorted,X0 X G z_str,X0 X G z_sum,X0 X G z_tuple⟩
 exact ⟨_,fun s v=> .of_eq rfl,fun base _ _=>Kf T⟩
theorem walk {l:PySem.W.OpenLaw} {q:Program} {loose:List Str} {XP:(Str->Option Value)->Heap->Prop} {YP:World->Heap->Prop} {d:DefRec} {K:Params->PySem.W.Frag} (hn:l.most=some 63) (MY:d.params.defaults=[])
  (hY: ∀(w:World) (h:Heap),YP w h->(K w.params).In h)
  (F: ∀(w:World) (mg:Str->Option Value) (fa:Addr) (h:Heap),(K w.params).In h->h.Ns mainGlobals mg->mg d.name=some (.ref fa)->
   ∃fd:FuncData,(∀(s:Shared) (u:Value),BindsTo s fd ⟨[u],[]⟩ [("_law_script",u)])/\ ∀base:Heap,(K w.params).In base->base.Ns mainGlobals mg->bI l.prog w (K w.params) mg base fj 13 fa fd ["_law_script"] (lR (K w.params))):
  PySem.W.WalkO q loose XP YP l.row.toRowW d [] (fun f vs=>PySem.call f vs):=
 L2.yO (n:=63) (k:=13) (x:="_law_script") (CX:=fun _=>fj) (sp:=fun w=>lR (K w.params)) hn (by decide) MY ⟨rfl,by decide,by decide,rfl⟩ hY F (fun _ _ a ns hl _ hS=>⟨a,ns,rfl,hS,hl,fun _=>rfl⟩) fun _ _ _ _ _ z=>z
end My
namespace PySem.W.Fast
def tw10033206258465228704:=Nat
def tw10182917376563263756:=Nat
def tw10256598507916831391:=Nat
def tw10493825474686252904:=Nat
def tw1056942006297306796:=Nat
def tw10704362351954343161:=Nat
def tw10805669605887854100:=Nat
def tw10835828047343898691:=Nat
def tw10955614472905567733:=Nat
def tw10984867976513228102:=Nat
def tw10995782928201948470:=Nat
def tw11089214993308553920:=Nat
def tw11241963185264743924:=Nat
def tw11369792882153791606:=Nat
def tw11526107727122318263:=Nat
def tw11620518653011118115:=Nat
def tw11883705710188222446:=Nat
def tw12044904750489557518:=Nat
def tw1208991247101621309:=Nat
def tw1214268211764275087:=Nat
def tw12231743632328478567:=Nat
def tw12525405907887477172:=Nat
def tw12668942766089366631:=Nat
def tw12706130438752923559:=Nat
def tw12832292942175176324:=Nat
def tw12887203554924523579:=Nat
def tw13080400677432422591:=Nat
def tw13328128885311709015:=Nat
def tw13328579798953322398:=Nat
def tw13344293286488675337:=Nat
def tw1335074913236542974:=Nat
def tw13575860838725188120:=Nat
def tw13637995980812341425:=Nat
def tw13694146238763199565:=Nat
def tw13848002757893586311:=Nat
def tw13898635808363430307:=Nat
def tw13908608688587122202:=Nat
def tw13974226416835062065:=Nat
def tw14021684626361950756:=Nat
def tw14041485872667988916:=Nat
def tw14203163508821493335:=Nat
def tw14454919857261372567:=Nat
def tw14639471643492947320:=Nat
def tw14646927654851557681:=Nat
def tw14728443521114630955:=Nat
def tw14804094300201545485:=Nat
def tw14812300193668754056:=Nat
def tw15085387371675188344:=Nat
def tw15125378365512165096:=Nat
def tw15159611235689296020:=Nat
def tw1521735276497088943:=Nat
def tw15326694982306071172:=Nat
def tw15540327237519849569:=Nat
def tw1570169029304168733:=Nat
def tw15811027752453510673:=Nat
def tw16038730640027395021:=Nat
def tw16052027620797946215:=Nat
def tw1615836788769565645:=Nat
def tw16373955418309868705:=Nat
def tw16416980112053612438:=Nat
def tw16450515061426329419:=Nat
def tw1650071588754129558:=Nat
def tw16542498307736350471:=Nat
def tw16602421781274332564:=Nat
def tw16641721446976965030:=Nat
def tw16642370716047866580:=Nat
def tw16791491316729754777:=Nat
def tw16963347348195508813:=Nat
def tw17039599944540209386:=Nat
def tw17151457249049948212:=Nat
def tw17361098026991513221:=Nat
def tw17428172482306687357:=Nat
def tw17547384563424912044:=Nat
def tw17721606142218900676:=Nat
def tw17766352075722544771:=Nat
def tw17768928014045697880:=Nat
def tw17836810959661175342:=Nat
def tw17863823726174663793:=Nat
def tw17903577016606955164:=Nat
def tw17919097464542774686:=Nat
def tw17971843960576418651:=Nat
def tw18260200361538818070:=Nat
def tw18266444065400209320:=Nat
def tw18423596422507637086:=Nat
def tw1929806659929616630:=Nat
def tw2091275917113710848:=Nat
def tw217092657457610680:=Nat
def tw2259458471451524751:=Nat
def tw22594662363574707:=Nat
def tw2338226855549441581:=Nat
def tw2340218508211884580:=Nat
def tw2419142484246114846:=Nat
def tw2537484040042220758:=Nat
def tw2558261954281383584:=Nat
def tw2630416525226659271:=Nat
def tw2669812619361174672:=Nat
def tw2744647888817822303:=Nat
def tw277052614936790424:=Nat
def tw2890669025826116104:=Nat
def tw294538841423885589:=Nat
def tw2989358009423620696:=Nat
def tw3171475814771685181:=Nat
def tw3281438282780835030:=Nat
def tw3286822910241279463:=Nat
def tw3326928619626627798:=Nat
def tw3328064497782885494:=Nat
def tw3480472350291323810:=Nat
def tw3567255572749421778:=Nat
def tw3626362965898020202:=Nat
def tw3729835010762391319:=Nat
def tw3829910255754084412:=Nat
def tw3958123895284783170:=Nat
def tw4041059166601112802:=Nat
def tw4206445867793677451:=Nat
def tw4449660344684860837:=Nat
def tw4510558992584850690:=Nat
def tw4710884790843907434:=Nat
def tw4724411526524934703:=Nat
def tw4808307756237844756:=Nat
def tw4969727496594773349:=Nat
def tw4984586931096781064:=Nat
def tw4986780194907405443:=Nat
def tw5010934202864015698:=Nat
def tw5053448941533600326:=Nat
def tw5138101885562086785:=Nat
def tw5175902156293371391:=Nat
def tw5334418157783910964:=Nat
def tw5399987805480022498:=Nat
def tw5488376063474461022:=Nat
def tw5504692633527562835:=Nat
def tw5569079148371392233:=Nat
def tw5817171843530821186:=Nat
def tw5830095443254660194:=Nat
def tw5886200057936951023:=Nat
def tw5924611682503387356:=Nat
def tw6073486546452499110:=Nat
def tw6191425400227982705:=Nat
def tw6194654427825943390:=Nat
def tw6199667061329178722:=Nat
def tw6209449232457510568:=Nat
def tw6254077054078649622:=Nat
def tw6255333029813016524:=Nat
def tw6281724069785468468:=Nat
def tw6292241833438409881:=Nat
def tw6428986322658371053:=Nat
def tw6529968549603490259:=Nat
def tw677105082423603089:=Nat
def tw679069451673244255:=Nat
def tw6862450806927080142:=Nat
def tw6871244852491711091:=Nat
def tw7177307726504333354:=Nat
def tw7227217293410485475:=Nat
def tw7285501590199175938:=Nat
def tw7323893070929785311:=Nat
def tw7507763758241653727:=Nat
def tw7531126152470838953:=Nat
def tw759453276193670719:=Nat
def tw7614402505085157399:=Nat
def tw7659829400171844001:=Nat
def tw7709060353097525175:=Nat
def tw7761344754107937063:=Nat
def tw7799735404948185826:=Nat
def tw7922509929291252502:=Nat
def tw7996240528556469331:=Nat
def tw8027452266135805848:=Nat
def tw807529290277728582:=Nat
def tw8292532494351826435:=Nat
def tw8309409137251675033:=Nat
def tw8387120862445309185:=Nat
def tw8391249700317951465:=Nat
def tw8488160726018942447:=Nat
def tw8504641179304187773:=Nat
def tw8562345472679412257:=Nat
def tw8608271681574872917:=Nat
def tw8750810957383456589:=Nat
def tw8811239353717051106:=Nat
def tw8822845301055269749:=Nat
def tw88288050534375174:=Nat
def tw893468463998140916:=Nat
def tw8948269529709236001:=Nat
def tw8952564868168382031:=Nat
def tw8963385242684833431:=Nat
def tw8964399853442376319:=Nat
def tw8997812275647187636:=Nat
def tw9060109078882559222:=Nat
def tw9162572077703198686:=Nat
def tw9185883417938367574:=Nat
def tw9274948244864424073:=Nat
def tw9301668887855423172:=Nat
def tw9301990737325215349:=Nat
def tw9333099944148799528:=Nat
def tw9399346172555467520:=Nat
def tw9490325295198734096:=Nat
def tw9581486260289208254:=Nat
def tw9640952071984170335:=Nat
def tw9694703659631082591:=Nat
def tw9704943094570069751:=Nat
def tw9726469313544011171:=Nat
def tw9803489769001655759:=Nat
def tw9844362130703239781:=Nat
end PySem.W.Fast
open PySem PySem.W PyProof.Rows
set_option maxRecDepth 100000 in
set_option maxHeartbeats 0 in
theorem PySem.Challenge.cw_mustmeet_k29_whole_told_otherwise_holds : PySem.Challenge.rw_mustmeet_k29_whole_told_otherwise.Holds := by
 w_on;o_law;k_head;(case hw=>w_witness2)
 k_fill
 refine My.walk (l:=PySem.Challenge.rw_mustmeet_k29_whole_told_otherwise) rfl rfl (fun w h Y=>PySem.W.kIn_of Y) ?F
 case F=>
  intro w mg fa h KX G hmg
  refine' My.all_mk KX G hmg (My.dn ?a0 ?l0 ?c0 ?k0) (My.dn ?a1 ?l1 ?c1 ?k1) (My.dn ?a2 ?l2 ?c2 ?k2) (My.dn ?a3 ?l3 ?c3 ?k3) (My.dn ?a4 ?l4 ?c4 ?k4) (My.dn ?a5 ?l5 ?c5 ?k5) (My.dn ?a6 ?l6 ?c6 ?k6) (My.dn ?a7 ?l7 ?c7 ?k7) (My.dn ?a8 ?l8 ?c8 ?k8) (My.dn ?a9 ?l9 ?c9 ?k9) (My.dn ?a10 ?l10 ?c10 ?k10) (My.dn ?a11 ?l11 ?c11 ?k11) (My.dn ?a12 ?l12 ?c12 ?k12) (My.dn ?a13 ?l13 ?c13 ?k13) (My.dn ?a14 ?l14 ?c14 ?k14) (My.dn ?a15 ?l15 ?c15 ?k15) (My.dn ?a16 ?l16 ?c16 ?k16) (My.dn ?a17 ?l17 ?c17 ?k17) (My.dn ?a18 ?l18 ?c18 ?k18) (My.dn ?a19 ?l19 ?c19 ?k19) (My.dn ?a20 ?l20 ?c20 ?k20) (My.dn ?a21 ?l21 ?c21 ?k21) (My.dn ?a22 ?l22 ?c22 ?k22) (My.dn ?a23 ?l23 ?c23 ?k23) (My.dn ?a24 ?l24 ?c24 ?k24) (My.dn ?a25 ?l25 ?c25 ?k25) (My.dn ?a26 ?l26 ?c26 ?k26) (My.dn ?a27 ?l27 ?c27 ?k27) (My.dn ?a28 ?l28 ?c28 ?k28) (My.dn ?a29 ?l29 ?c29 ?k29) (My.dn ?a30 ?l30 ?c30 ?k30) (My.dn ?a31 ?l31 ?c31 ?k31) (My.dn ?a32 ?l32 ?c32 ?k32) (My.dn ?a33 ?l33 ?c33 ?k33) (My.dn ?a34 ?l34 ?c34 ?k34) (My.dn ?a35 ?l35 ?c35 ?k35) (My.dn ?a36 ?l36 ?c36 ?k36) (My.dn ?a37 ?l37 ?c37 ?k37) (My.dn ?a38 ?l38 ?c38 ?k38) (My.dn ?a39 ?l39 ?c39 ?k39) (My.dn ?a40 ?l40 ?c40 ?k40) (My.dn ?a41 ?l41 ?c41 ?k41) (My.dn ?a42 ?l42 ?c42 ?k42) (My.dn ?a43 ?l43 ?c43 ?k43) ?q_Seen ?pg_Seen ?hd_Seen ?po_Seen ?sa_Seen ?n_Seen_strand ?n_Seen_way ?n_Seen_place ?q_Way ?pg_Way ?hd_Way ?po_Way ?sa_Way ?n_Way_size ?n_Way_root_size ?n_Way_leads ?n_Way_onward ?n_Way_backward ?mk_Way ?qi_Way ?fi_Way ?kc_Way ?li_Way ?ci_Way ?ki_Way ?mk_Seen ?qi_Seen ?fi_Seen ?kc_Seen ?li_Seen ?ci_Seen ?ki_Seen ?z_enumerate ?z_int ?z_len ?z_list ?z_max ?z_min ?z_range ?z_reversed ?z_sorted ?z_str ?z_sum ?z_tuple
  case a0|l0|c0|k0|a1|l1|c1|k1|a2|l2|c2|k2|a3|l3|c3|k3|a4|l4|c4|k4|a5|l5|c5|k5|a6|l6|c6|k6|a7|l7|c7|k7|a8|l8|c8|k8|a9|l9|c9|k9|a10|l10|c10|k10|a11|l11|c11|k11|a12|l12|c12|k12|a13|l13|c13|k13|a14|l14|c14|k14|a15|l15|c15|k15|a16|l16|c16|k16|a17|l17|c17|k17|a18|l18|c18|k18|a19|l19|c19|k19|a20|l20|c20|k20|a21|l21|c21|k21|a22|l22|c22|k22|a23|l23|c23|k23|a24|l24|c24|k24|a25|l25|c25|k25|a26|l26|c26|k26|a27|l27|c27|k27|a28|l28|c28|k28|a29|l29|c29|k29|a30|l30|c30|k30|a31|l31|c31|k31|a32|l32|c32|k32|a33|l33|c33|k33|a34|l34|c34|k34|a35|l35|c35|k35|a36|l36|c36|k36|a37|l37|c37|k37|a38|l38|c38|k38|a39|l39|c39|k39|a40|l40|c40|k40|a41|l41|c41|k41|a42|l42|c42|k42|a43|l43|c43|k43|q_Seen|pg_Seen|hd_Seen|po_Seen|sa_Seen|n_Seen_strand|n_Seen_way|n_Seen_place|q_Way|pg_Way|hd_Way|po_Way|sa_Way|n_Way_size|n_Way_root_size|n_Way_leads|n_Way_onward|n_Way_backward|mk_Way|qi_Way|fi_Way|kc_Way|li_Way|ci_Way|ki_Way|mk_Seen|qi_Seen|fi_Seen|kc_Seen|li_Seen|ci_Seen|ki_Seen|z_enumerate|z_int|z_len|z_list|z_max|z_min|z_range|z_reversed|z_sorted|z_str|z_sum|z_tuple=>k_is
